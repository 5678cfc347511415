import PyProof.Rows.All
import Wide.All
import OpenK.AllK
import Wide.FinOn
import PyProof.ReprRoads
import KE.KDictPairs
import KE.GoesMore
import HandS.Base
import HandS.Call
import HandS.List
import HandS.Comp
import HandS.Ends
import HandS.Dict
import HandS.Iter
import HandS.Text
import HandS.Words
import HandS.WordsList
import HandS.WordsDict
import HandS.FStr
import HandS.IsInst
import HandS.TupAny
import HandS.DictComp
import HandS.Defaults
import HandS.MakeKwOnly
import HandS.OwnEq
import HandS.Flow
import HandS.Style
import PySem.Challenge.RW_arrowcells_k01_whole_stores_and_their_te
set_option Elab.async false
set_option linter.all false
set_option maxRecDepth 100000
set_option maxHeartbeats 4000000
/-! Own rules over the hand layer: tuples without a dict of their own, dict(tuple), enumerate(tuple), repr, keywords. -/
namespace Z
open PySem PySem.Spec PyProof.Rows L2

/-! ### tuples whose object is known to have no dict -/
def PObj (o : Obj) : Prop := o.cls = .type "tuple" ∧ o.dict = none ∧ ∃ (its : Array Value) (n : Nat), o.data = .seq its n
def PT (H : Hp) (a : Addr) (xs : List V) : Prop := ∃ o : Obj, H a = some (.frz o (.tup xs)) ∧ PObj o
def newT (H : Hp) (xs : List V) (Q : VK) : Prop := ∀ (p : Addr) (o : Obj), H p = none → PObj o → Q (.ref p) (upd H p (.frz o (.tup xs)))
theorem PT.sq {K : PySem.W.Frag} {H : Hp} {a : Addr} {xs : List V} (h : PT H a xs) : SqT K H a xs := by
  obtain ⟨o, e, _⟩ := h
  exact .inl (.inr ⟨o, e⟩)
theorem PT.new {H : Hp} {p : Addr} {o : Obj} {xs : List V} (ho : PObj o) : PT (upd H p (.frz o (.tup xs))) p xs := ⟨o, upd_same, ho⟩
theorem PT.same {H H' : Hp} {a : Addr} {xs : List V} (e : Same H H') (h : PT H a xs) : PT H' a xs := by
  obtain ⟨o, q, ho⟩ := h
  exact ⟨o, e _ _ q, ho⟩
section
variable {X : Cx} {pins : List (Addr × Obj)} {σ : L2.St} {H : Hp} {s : Shared}
theorem lay_tup {xs : List V} {its : List Value} {Q : VK} {t : Nat} (I : Inv X pins σ H s) (r : Vals xs its) (hz : xs.length ≤ sizeLine) (q : newT H xs Q) :
    EP X pins σ Q (.ref s.heap.objs.size) { s with heap := s.heap.push { cls := .type "tuple", data := .seq its.toArray }, toks := t } := by
  have hn := I.hok.fresh (Nat.le_refl _)
  have hp : PObj { cls := .type "tuple", data := .seq its.toArray } := ⟨rfl, rfl, _, _, rfl⟩
  refine ⟨.ref s.heap.objs.size, _, I.laid (t' := t) (o := .frz { cls := .type "tuple", data := .seq its.toArray } (.tup xs)) (fun b u e => Heap.get?_push_of_some _ e) (Nat.le_refl _) ?_, rfl, q _ _ hn hp⟩
  exact ⟨Heap.get?_push_size _ rfl, hz, its, r, _, Heap.get?_push_size _ rfl, rfl, _, rfl⟩
end
section
variable {X : Cx} {es : List Expr} {t : TA} {pos : Pos}
/-- (a, b): a tuple known to be plain -/
def tTupP (t : TA) : TE := fun σ H Q => t σ H fun xs H1 => xs.length ≤ sizeLine ∧ newT H1 xs Q
theorem pe_tupP {x1} (h : PA X es t) : PE X (.Tuple es x1 pos) (tTupP t) := by
  constructor
  intro pins s σ H Q I hq
  refine wpAny_Tuple_spliced (thn (h.run pos pins s σ H _ I hq) fun us s1 hv => ?_)
  obtain ⟨xs, H1, I1, r, z, q⟩ := hv
  exact ⟨by rw [← r.length]; exact z, lay_tup (t := s1.toks) I1 r z q⟩
/-- tuple(list) -/
def rTupP (K : PySem.W.Frag) : List V → Hp → VK → Prop := fun xs H Q => ∃ p ys, xs = [.ref p] ∧ SqL K H p ys ∧ newT H ys Q
theorem call_tupP : CallR X (.type "tuple") (rTupP X.K) := by
  intro pins s σ H xs us Q I r h
  obtain ⟨p, ys, rfl, hq, q⟩ := h
  obtain ⟨u, rfl, rx⟩ := vals1 r
  cases rx
  obtain ⟨its, r', pl, hz⟩ := I.list hq
  have hlen := r'.length
  refine call_tuple_list pl.isList (fun h' kp => ?_) (by rw [List.size_toArray]; omega)
  exact lay_tup (s := { s with heap := h' }) (t := s.toks) (I.kept (t' := s.toks) kp) r' hz q
/-- t + u -/
def rCatP (K : PySem.W.Frag) : R2 := fun x y H Q => ∃ a b xs ys, x = .ref a ∧ y = .ref b ∧ SqT K H a xs ∧ SqT K H b ys ∧ xs.length + ys.length ≤ sizeLine ∧
  (xs = [] → Q (.ref b) H) ∧ (xs ≠ [] → ys = [] → Q (.ref a) H) ∧ (xs ≠ [] → ys ≠ [] → newT H (xs ++ ys) Q)
theorem op_catP : OpR X (binaryOp .Add) (rCatP X.K) := by
  intro pins s σ H x y v u Q I rx ry h
  obtain ⟨a, b, xs, ys, ex, ey, ha, hb, hz, q0, q1, q2⟩ := h
  by_cases hx : xs = []
  · exact op_catA pins s σ H x y v u Q I rx ry ⟨a, b, xs, ys, ex, ey, ha, hb, hz, q0, q1, fun z => absurd hx z⟩
  · subst ex ey
    cases rx
    cases ry
    obtain ⟨its, r1, p1, _⟩ := I.tuple ha
    obtain ⟨its2, r2, p2, _⟩ := I.tuple hb
    have n1 : its ≠ [] := fun z => hx (r1.nil_iff.mp z)
    refine HT.cat_tup p1 p2 n1 (fun z => ?_) (fun z => ?_) ?_
    · exact ⟨.ref a, H, I, rfl, q1 hx (r2.nil_iff.mp z)⟩
    · have := lay_tup (t := s.toks) I (r1.append r2) (by rw [List.length_append]; exact hz) (q2 hx fun w => z (r2.nil_iff.mpr w))
      exact this
    · rw [← r1.length, ← r2.length]
      exact hz
/-- t[lo:hi] -/
def rSlP (K : PySem.W.Frag) : V → Option Int → Option Int → Hp → VK → Prop := fun x lo hi H Q => ∃ a xs, x = .ref a ∧ SqT K H a xs ∧
  (HT.sIx xs.length 0 lo = 0 ∧ HT.sIx xs.length xs.length hi = xs.length → Q (.ref a) H) ∧ (¬ (HT.sIx xs.length 0 lo = 0 ∧ HT.sIx xs.length xs.length hi = xs.length) → newT H (cutV xs lo hi) Q)
theorem sl_tupP : SlR X (rSlP X.K) := by
  intro pins s σ H x v vl vu lo hi sl Q I rx hs pl pu h
  obtain ⟨a, xs, ex, hx, q1, q2⟩ := h
  by_cases hw : HT.sIx xs.length 0 lo = 0 ∧ HT.sIx xs.length xs.length hi = xs.length
  · exact sl_tupA pins s σ H x v vl vu lo hi sl Q I rx hs pl pu ⟨a, xs, ex, hx, q1, fun z => absurd hw z⟩
  · subst ex
    cases rx
    obtain ⟨its, r, ht, hz⟩ := I.tuple hx
    have hlen : its.toArray.size = xs.length := (List.size_toArray ..).trans r.length.symm
    refine ⟨"tuple", _, PyProof.Rows.slot_tuple_getitem.lookup, ht.typeIs, HT.getItem_tuple_cut ht hs pl pu ?_ ?_ ?_⟩
    · rw [hlen]; exact hw
    · rw [hlen]
      have rr := (r.drop (HT.sIx xs.length 0 lo)).take (HT.sIx xs.length xs.length hi - HT.sIx xs.length 0 lo)
      exact lay_tup (xs := cutV xs lo hi) (t := s.toks) I rr (Nat.le_trans (cutV_length xs lo hi) hz) (q2 hw)
    · rw [hlen]; exact hz
end
end Z
namespace Z
open PySem PySem.Spec PyProof.Rows L2
/-! ### dict(t), t a tuple of pairs -/
section
variable {X : Cx} {pins : List (Addr × Obj)} {σ : L2.St} {H : Hp} {s : Shared}
theorem key_is {k : Key} {u : Value} (r : RelV (kV k) u) : keyIs k u = true := by
  cases k with
  | inl i => obtain ⟨t, rfl⟩ := (show ∃ t, u = Value.int i t from r); exact keyIs_int i t
  | inr x => obtain ⟨t, rfl⟩ := (show ∃ t, u = Value.str x t from r); exact keyIs_str x t
theorem pairs2 (I : Inv X pins σ H s) : ∀ {ps : List Addr} {kvs : List (Key × V)}, Paired (fun p kv => SqT X.K H p [kV kv.1, kv.2]) ps kvs →
    ∃ (ws : List (Value × Value)) (vs : List (Key × Value)), KV kvs vs ∧ ws.length = ps.length ∧ vs.length = ps.length ∧
      ∀ (j : Nat) (a b : Value), ws[j]? = some (a, b) → (∃ T, ps[j]? = some T ∧ s.heap.IsTuple T #[a, b]) ∧ ∃ k, vs[j]? = some (k, b) ∧ keyIs k a = true
  | _, _, .nil => ⟨[], [], .nil, rfl, rfl, fun j a b e => by simp at e⟩
  | _, _, .cons (a := p) (b := kv) h t => by
    obtain ⟨ws, vs, r, l1, l2, hp⟩ := pairs2 I t
    obtain ⟨its, rv, ht, _⟩ := I.tuple h
    obtain ⟨u, y, ei, ru, ry⟩ := vals2 rv
    subst ei
    refine ⟨(u, y) :: ws, (kv.1, y) :: vs, .cons ⟨rfl, ry⟩ r, by simp [l1], by simp [l2], fun j a b e => ?_⟩
    cases j with
    | zero =>
      have e' : (u, y) = (a, b) := Option.some.inj e
      cases e'
      exact ⟨⟨p, rfl, ht⟩, kv.1, rfl, key_is ru⟩
    | succ j => simpa using hp j a b (by simpa using e)
end
section
variable {X : Cx}
def rDictT (K : PySem.W.Frag) : List V → Hp → VK → Prop := fun xs H Q => ∃ (a : Addr) (ps : List Addr) (kvs : List (Key × V)), xs = [.ref a] ∧ PT H a (ps.map V.ref) ∧ Paired (fun p kv => SqT K H p [kV kv.1, kv.2]) ps kvs ∧
  ∀ p, H p = none → Q (.ref p) (upd H p (.dK (mergeK [] kvs)))
theorem call_dictT (hcalm : X.calm = true) : CallR X (.type "dict") (rDictT X.K) := by
  intro pins s σ H xs us Q I r q
  obtain ⟨a, ps, kvs, ex, hq, hp, q⟩ := q
  subst ex
  obtain ⟨u, eu, rx⟩ := vals1 r
  subst eu
  cases rx
  obtain ⟨its, rv, _, hz⟩ := I.tuple (hq.sq (K := X.K))
  have ei := refs_at rv
  subst ei
  rw [List.length_map] at hz
  obtain ⟨ws, vs, rel, l1, l2, hpr⟩ := pairs2 I hp
  obtain ⟨o, ho, hc, hd, its2, n, hdat⟩ := hq
  obtain ⟨hget, _, its3, rv3, o3, ho3, hc3, n3, hd3⟩ := (show ObjOk X.prog X.w H s.heap a (.frz o (.tup (ps.map V.ref))) from I.hok a _ ho)
  rw [hget] at ho3
  cases ho3
  have e3 := refs_at rv3
  subst e3
  have pl : PlainSeq "tuple" s.heap a (ps.map Value.ref).toArray := ⟨o, n3, hget, hc, hd, hd3⟩
  have pi : PairItems s.heap (ps.map Value.ref).toArray (fun j => ps.getD j 0) ws := by
    refine ⟨by simp [l1], fun j k v e => ?_⟩
    obtain ⟨⟨T, e1, e2⟩, _⟩ := hpr j k v e
    have e4 : ps.getD j 0 = T := by rw [List.getD_eq_getElem?_getD, e1]; rfl
    refine ⟨?_, .inl ?_⟩
    · simp [e1]
    · show s.heap.IsTuple (ps.getD j 0) #[k, v]
      rw [e4]; exact e2
  have hv : PairsHave (mixKind X.prog X.w) ws.length (PairRel ws) vs := by
    refine ⟨by rw [l1, l2], fun i key v e => ?_⟩
    obtain ⟨_, k, e1, e2⟩ := hpr i key v e
    exact ⟨k, e1, e2⟩
  refine PySem.call_dict_pairs (PairArg.tuple a (ps.map Value.ref).toArray (fun j => ps.getD j 0) ws) (I.ok.hd hcalm) ⟨pl, pi⟩ hv (by rw [l1]; exact hz) fun h' tk hd' k => ?_
  have hm : (s.heap.objs.size == sysModules) = false := beq_eq_false_iff_ne.mpr (Nat.ne_of_gt I.big)
  have hlen : (mergeK [] kvs).length ≤ sizeLine := by
    refine Nat.le_trans (length_mergeK kvs []) ?_
    rw [List.length_nil, Nat.zero_add, rel.length, l2]
    exact hz
  refine ⟨.ref s.heap.objs.size, upd H s.heap.objs.size (.dK (mergeK [] kvs)), ?_, rfl, q _ (I.hok.fresh (Nat.le_refl _))⟩
  refine I.laid (t' := tk) (fun b u e => k b u (by simp) e) (Nat.le_refl _) ?_
  exact ⟨hlen, hm, merged [] vs, KV.merge rel .nil, hd'⟩
end

/-! ### enumerate(t), t a tuple -/
open PySem.Builtin in
theorem meets_enum1 {v : Value} {o : Obj} {H : Heap → Prop} (B : Begins v o H) :
    Meets (Builtin.«enumerate.__new__» ⟨[.type "enumerate", v], []⟩) (fun _ R s => H s.heap ∧
      R (.ok (.ret (.ref (s.heap.push o).objs.size)))
        { s with heap := (s.heap.push o).push { cls := .type "enumerate", data := .fields #[.none, .bool false, .ref s.heap.objs.size, rawInt 0, .none, .none] } }) := by
  refine .of_wp fun prog w A R s h => ?_
  obtain ⟨hp, g, d, tk, os⟩ := s
  obtain ⟨h1, h⟩ := h
  have subE := sub_enumerate
  have q1 : ∀ {A' : Around} {E Q : Value → Shared → Prop}, Q (.ref hp.objs.size) ⟨hp.push o, g, d, tk, os⟩ → wpAny (model prog w) A' (pyIter v) Q E ⟨hp, g, d, tk, os⟩ := fun q => B.iter prog w _ _ ⟨hp, g, d, tk, os⟩ _ h1 q
  wp_walk using q1
  refine wpAny_stack_any fun st => wpAny_pure ?_
  split
  · rename_i c _ _ _ _ _
    cases (c == Value.type "enumerate") <;> (wp_walk using q1; exact ⟨_, rfl, h⟩)
  · wp_walk using q1
    exact ⟨_, rfl, h⟩
theorem call_enum_tuple {prog : Program} {w : World} {A : Around} {E : Value → Shared → Prop} {s : Shared} {t : Addr} {items : Array Value} {Q : Value → Shared → Prop} (hL : s.heap.IsTuple t items)
    (h : ∀ h', IsEnum h' (s.heap.objs.size + 1) s.heap.objs.size 0 .none → h'.IsTupleIter s.heap.objs.size t 0 → h'.objs.size = s.heap.objs.size + 2 →
      (∀ b o, s.heap.get? b = some o → h'.get? b = some o) → Q (.ref (s.heap.objs.size + 1)) { s with heap := h' }) :
    wpAny (model prog w) A (call (.type "enumerate") [.ref t]) Q E s := by
  refine callType_new F.called_enumerate (by decide) (F.typeCall_enumerate_1 _) (F.newCall_enumerate_1 _) (fun obj => F.args_object_init_2 obj _) F.entry_enumerate_new
    (meets_enum1 (begins_tuple t items)) ⟨hL, ?_⟩
  have hz : (s.heap.push { cls := .type "tuple_iterator", data := .fields #[.ref t, .int 0 0] }).objs.size = s.heap.objs.size + 1 := Heap.size_push ..
  show _ ∧ _
  rw [hz]
  have he : IsEnum ((s.heap.push { cls := .type "tuple_iterator", data := .fields #[.ref t, .int 0 0] }).push
      { cls := .type "enumerate", data := .fields #[.none, .bool false, .ref s.heap.objs.size, rawInt 0, .none, .none] }) (s.heap.objs.size + 1) s.heap.objs.size 0 .none := by
    have q := Heap.get?_push_size (s.heap.push { cls := .type "tuple_iterator", data := .fields #[.ref t, .int 0 0] })
      (o := { cls := .type "enumerate", data := .fields #[.none, .bool false, .ref s.heap.objs.size, rawInt 0, .none, .none] }) rfl
    rw [hz] at q
    exact q
  exact ⟨⟨_, he, rfl⟩, h _ he ⟨_, Heap.get?_push_of_some _ (Heap.get?_push_size _ rfl), rfl, rfl⟩ (by rw [Heap.size_push, hz]) fun b o x => Heap.get?_push_of_some _ (Heap.get?_push_of_some _ x)⟩
section
/-- the tuple at a, each item in a new pair with its place -/
def IteT (K : PySem.W.Frag) (a : Addr) : It :=
  ⟨fun i H => ∃ (xs : List V) (x : V), SqT K H a xs ∧ xs[i]? = some x,
   fun i H v H' => ∃ T x, v = .ref T ∧ H T = none ∧ H' = upd H T (.tup [.int (i : Nat), x]) ∧ ∀ xs, SqT K H a xs → xs[i]? = some x,
   fun i H => ∃ xs : List V, SqT K H a xs ∧ xs.length = i⟩
theorem turn_enumT {P : Program} {w : World} {K : PySem.W.Frag} {elts : List Expr} {kk : Nat} {tpos : Pos} (a e it : Addr) :
    Turn P w K (.Tuple elts kk tpos) (IteT K a) [e, it] e (fun i h => (∃ old, IsEnum h e it ((i : Nat) : Int) old) ∧ h.IsTupleIter it a i ∧ e ≠ it ∧ a ≠ it ∧ a ≠ e) := by
  refine ⟨by simp, fun i h st b hb => ?_, fun i h h' st k => ?_, ?_, ?_, ?_⟩
  · obtain ⟨⟨old, he⟩, ⟨o, ho, hc, hd⟩, _⟩ := st
    rcases (by simpa using hb : b = e ∨ b = it) with z | z
    · subst z; exact ⟨_, he, fun v q => nomatch q⟩
    · subst z; exact ⟨o, ho, fun v q => by rw [hd] at q; cases q⟩
  · obtain ⟨⟨old, he⟩, hi, hne⟩ := st
    exact ⟨⟨old, k e (by simp) _ he⟩, hi.at fun o q => k it (by simp) o q, hne⟩
  · intro X hP hw hK hc i pins s σ H E I hf st hg
    subst hP hw hK
    obtain ⟨⟨old, he⟩, hit, hne, hai, hae⟩ := st
    obtain ⟨xs, x, hq, hx⟩ := hg
    obtain ⟨its, rv, p, hz⟩ := I.tuple hq
    obtain ⟨u, hu, ru⟩ := rv.get hx
    have hel : e < s.heap.objs.size := Heap.lt_size he
    have hil : it < s.heap.objs.size := by obtain ⟨_, q, _⟩ := hit; exact Heap.lt_size q
    have D := Draws.tuple (prog := X.prog) (w := X.w) (A := X.A.in1) (I.ok.hd hc) it a hai its.toArray
    have hlt : i < its.toArray.size := by
      have := (List.getElem?_eq_some_iff.mp hu).1
      simpa using this
    refine wpAny_pyNext_enum_itemD D he ⟨hit, p⟩ hlt hne (by simp [hne, Ne.symm hae]) fun x' h' tk hP ho hst hT hsz hk => ?_
    have ex : x' = u := by
      have q : its.toArray[i]? = some x' := hP
      have q2 : its.toArray[i]? = some u := by simpa using hu
      rw [q2] at q
      exact (Option.some.inj q).symm
    subst ex
    refine ⟨_, rfl, wpAny_letOwnedTupleGo_enum (s := { s with heap := h', toks := tk + 1 }) ho fun h'' he' sb => ?_⟩
    have hT2 : h''.get? s.heap.objs.size = some { cls := .type "tuple", data := .seq #[.int i tk, x'] } := (sb.2 _ (Nat.ne_of_gt hel)).trans hT
    have new : ObjOk X.prog X.w (upd H s.heap.objs.size (.tup [.int (i : Nat), x])) h'' s.heap.objs.size (.tup [.int (i : Nat), x]) := by
      refine ⟨by show 2 ≤ sizeLine; decide, [.int i tk, x'], .cons ⟨_, rfl⟩ (.cons ru .nil), ?_⟩
      exact ⟨_, hT2, rfl, _, rfl⟩
    have I1 : Inv X pins σ (upd H s.heap.objs.size (.tup [.int (i : Nat), x])) { s with heap := h'', toks := tk + 1 } := by
      refine I.turnedNew (ch := [e, it]) (fun b ob hb q => ?_) hf (Nat.le_refl _) new
      have nb : b ≠ e := fun z => hb (by simp [z])
      exact (sb.2 b nb).trans (hk b ob nb (fun z => hb (by simp [z])) q)
    refine ⟨.ref s.heap.objs.size, _, I1, rfl, ⟨_, x, rfl, I.hok.fresh (Nat.le_refl _), rfl, fun ys hy => by rw [I.tuple_inj hy hq]; exact hx⟩, ⟨⟨x', ?_⟩, hst.1.at fun o q => (sb.2 it (Ne.symm hne)).trans q, hne, hai, hae⟩, fun b hb => ?_⟩
    · have e1 : ((i + 1 : Nat) : Int) = (i : Int) + 1 := by omega
      rw [e1]
      exact he'
    · have hb' : b < s.heap.objs.size := by
        rcases (by simpa using hb : b = e ∨ b = it) with z | z
        · exact z ▸ hel
        · exact z ▸ hil
      rw [upd_ne (Nat.ne_of_lt hb')]
      exact (hf b hb).1
  · intro X hP hw hK hc i pins s σ H E I hf st hg
    subst hP hw hK
    obtain ⟨⟨old, he⟩, hit, hne, hai, hae⟩ := st
    obtain ⟨xs, hq, hx⟩ := hg
    obtain ⟨its, rv, p, hz⟩ := I.tuple hq
    obtain ⟨f0, f1, f2, f3, f4, f5⟩ := hf it (by simp)
    have hl := rv.length
    have D := Draws.tuple (prog := X.prog) (w := X.w) (A := X.A.in1) (I.ok.hd hc) it a hai its.toArray
    have ei : its.toArray.size = i := by rw [List.size_toArray, ← hl]; exact hx
    exact wpAny_pyNext_enum_endD D he ⟨by rw [ei]; exact hit, p⟩ fun h' eb => ⟨rfl, I.turned (t' := s.toks) (fun b o hb q => eb b o hb q) f0 f1 f3 f4 f5⟩
  · intro A i s Q E st h
    obtain ⟨⟨_, he⟩, _⟩ := st
    exact wpAny_pyIter_enum he h
def iEnumT (K : PySem.W.Frag) (ta : TA) : TI := fun σ H R => ta σ H fun vs H1 => ∃ a xs, vs = [.ref a] ∧ SqT K H1 a xs ∧ R (IteT K a) H1
theorem pi_enumT {X : Cx} {e : Expr} {ta : TA} {p pos tpos : Pos} {elts : List Expr} {kk : Nat} (hg : Gl X "enumerate") (hm : X.mg "enumerate" = none) (ha : PA X [e] ta)
    (hs : starEach [e] X.env = [(false, eval e X.env)] := by rfl) : PI X (.Tuple elts kk tpos) (.Call (.Name "enumerate" p) [e] [] pos) (iEnumT X.K ta) := by
  constructor
  intro pins s σ H R I h
  refine Call_ (ld_blt I hg hm boot_enumerate (PyProof.Rows.callWith_type1 (thn (ha.run pos pins s σ H _ I h) fun us s1 hv => ?_) hs rfl))
  obtain ⟨vs, H1, I1, r1, a, xs, ex, hq, q⟩ := hv
  subst ex
  obtain ⟨u, eu, rx⟩ := vals1 r1
  subst eu
  cases rx
  obtain ⟨its, rv, p', hz⟩ := I1.tuple hq
  have hal : a < s1.heap.objs.size := p'.lt
  refine call_enum_tuple (items := its.toArray) p' fun h' he hit hsz hk => wpAny_pyIter_enum he ?_
  have I2 : Inv X pins σ H1 { s1 with heap := h' } := I1.kept (t' := s1.toks) hk
  have na : a ≠ s1.heap.objs.size := Nat.ne_of_lt hal
  have na2 : a ≠ s1.heap.objs.size + 1 := Nat.ne_of_lt (Nat.lt_succ_of_lt hal)
  refine ⟨s1.heap.objs.size + 1, [s1.heap.objs.size + 1, s1.heap.objs.size], _, _, H1, rfl, I2, turn_enumT a (s1.heap.objs.size + 1) s1.heap.objs.size, ⟨⟨.none, he⟩, hit, Nat.succ_ne_self _, na, na2⟩, fun b hb => ?_, q⟩
  have hle : s1.heap.objs.size ≤ b := by
    rcases (by simpa using hb : b = s1.heap.objs.size + 1 ∨ b = s1.heap.objs.size) with z | z
    · exact z ▸ Nat.le_succ _
    · exact z ▸ Nat.le_refl _
  exact I1.fpOk hle (I1.hok.fresh hle)
end
end Z
namespace Z
open PySem PySem.Spec PyProof.Rows L2
/-! ### defs that are called while no repr runs -/
structure FnG (P : Program) (w : World) (K : PySem.W.Frag) (mg : Str → Option Value) (base : Heap) (k : Nat) (f : Addr) (fd : FuncData) (ps : List Str) (sp : Sp) : Prop where
  len : ∀ vs H Q E, sp vs H Q E → vs.length = ps.length
  run : ∀ (A : Around) (outer : List Env) (s : Shared) (H : Hp) (args : Args) (us : List Value) (vs : List V) (Q : VK) (E : XK), Room k A → A.guards = some [] →
    Env0 P w K mg base A outer s H → BindsTo s fd args (ps.zip us) → Vals vs us → sp vs H Q E → codeAny (model P w) A (.call (.ref f) args) (CR CX0 outer P w H s Q E) s
theorem FnG.of {P : Program} {w : World} {K : PySem.W.Frag} {mg : Str → Option Value} {base : Heap} {k : Nat} {f : Addr} {fd : FuncData} {ps : List Str} {sp : Sp}
    (F : FnOk P w K mg base CX0 k f fd ps sp) : FnG P w K mg base k f fd ps sp :=
  ⟨F.len, fun A outer s H args us vs Q E hr _ => F.run A outer s H args us vs Q E hr⟩
section
variable {P : Program} {w : World} {K : PySem.W.Frag} {mg : Str → Option Value} {base : Heap}
theorem okG {x qual : Str} {st : Stmt} {f : Addr} {fd : FuncData} {N ps : List Str} {k : Nat} {sp : Sp} (F : Fun K x qual st f fd) (S : FnScope N ps (defScope st)) (len : ∀ vs H Q E, sp vs H Q E → vs.length = ps.length)
    (hbody : ∀ (cdv : Value) (A : Around) (outer : List Env) (s : Shared) (H : Hp) (vs : List V) (Q : VK) (E : XK), Room k (A.deeper (envOfC qual (defScope st) s.heap.objs.size f cdv)) →
      (A.deeper (envOfC qual (defScope st) s.heap.objs.size f cdv)).guards = some [] → sp vs H Q E →
      ∃ t, PSs (cxOf CX0 P w K mg base N qual (defScope st) f cdv A outer s H E).nox (defBody st) t ∧ t { nx := fun _ H' => Q .non H', rt := Q } (start N vs) H) : FnG P w K mg base (k + 1) f fd ps sp := by
  obtain ⟨oc, od, kV, doc, pm, an, cdv, ct, osl, rfl, lk, hcd⟩ := F.ex
  refine ⟨len, fun A outer s H args us vs Q E hr hgd e0 hb r hsp => ?_⟩
  have keepB : ∀ b o, base.get? b = some o → s.heap.get? b = some o := fun b o e => (e0.bs b o e).1
  have KX : K.In s.heap := e0.mod.kin.keeps keepB
  have lim : s.heap.NoLimit := e0.mod.nolimit.keeps keepB
  refine codeAny_call_function hr.depth (KX _ _ lk) rfl S.co S.gen rfl (PySem.W.codeRec_of KX hcd) (hb _ _ _ _ ?_)
  refine wpAny_newFunctionEnv_cells S.kind (fun y hy => ?_) fun env he s1 x => ?_
  · rcases S.par y.1 (List.of_mem_zip (a := y.1) (b := y.2) hy).1 with q | q
    · exact .inl q
    · exact .inr ⟨q, PySem.W.cellsFrom_some _ _ _ (.inl q)⟩
  subst he
  refine ⟨lim.keeps x.toInCall.keep, codeAny_func ?_⟩
  obtain ⟨t, ht, hq⟩ := hbody cdv A outer s H vs Q E (hr.deeper _) (by simpa [Around.deeper] using hgd) hsp
  have I0 := inv_start (CX := CX0) (E := E) (cd := cdv) (qual := qual) (f := f) (N := N) S hr.hd e0 (len _ _ _ _ hsp) r x
  refine wpAny_mono (ht.nox.run [] s1 (start N vs) H _ I0 hq) (fun fl s' hs => ?_) fun e s' hs => hs
  have fin : ∀ {σ' : L2.St} {H' : Hp} {v : V} {u : Value}, Inv (cxOf CX0 P w K mg base N qual (defScope st) f cdv A outer s H E) [] σ' H' s' → RelV v u → Q v H' → CE outer P w H s Q u s' :=
    fun J rv q => ⟨_, _, J.os, J.bare, J.base, J.hok, rv, q⟩
  match fl, hs with
  | .ret u, ⟨v, σ', H', J, rv, q⟩ => exact fin J rv q
  | .next, ⟨σ', H', J, q⟩ => exact fin (v := V.non) (u := Value.none) J rfl q
  | .brk, ⟨_, _, _, q⟩ => exact q.elim
  | .cont, ⟨_, _, _, q⟩ => exact q.elim
end
section
variable {X : Cx} {k : Nat} {f : Addr} {fd : FuncData} {ps : List Str} {sp : Sp} {E : XK} {x : Str} {p pos : Pos} {e : Expr} {es : List Expr} {t : TA}
theorem run_fnG {pins : List (Addr × Obj)} {σ : L2.St} {H : Hp} {s : Shared} {Q : VK} {us : List Value} {vs : List V} (F : FnG X.prog X.w X.K X.mg X.base k f fd ps sp) (hr : Room k X.A) (hgd : X.A.guards = some []) (hb : Binds X.K fd ps [])
    (I : Inv X pins σ H s) (r : Vals vs us) (h : sp vs H Q E) : wpAny (model X.prog X.w) X.A (call (.ref f) us) (EP X pins σ Q) X.xe s := by
  have hl : (us ++ []).length = ps.length := by rw [List.append_nil, ← r.length]; exact F.len _ _ _ _ h
  have hb' := hb s us I.kIn hl
  rw [List.append_nil] at hb'
  refine wpAny_call (codeAny_mono (F.run X.A X.stack s H ⟨us, []⟩ us vs Q E hr hgd I.env0 hb' r h) fun r s' hq => ?_)
  match r, hq with
  | .error e, hq => exact False.elim hq
  | .ok (.ret u), hq => exact I.after hq
  | .ok .next, hq => exact False.elim hq
  | .ok .brk, hq => exact False.elim hq
  | .ok .cont, hq => exact False.elim hq
/-- f(e, ..) -/
def tCallG (sp : Sp) (E : XK) (t : TA) : TE := fun σ H Q => t σ H fun vs H1 => sp vs H1 Q E
theorem pe_callG (F : FnG X.prog X.w X.K X.mg X.base k f fd ps sp) (hr : Room k X.A) (hgd : X.A.guards = some []) (hg : Gl X x) (hm : X.mg x = some (.ref f)) (hk : PySem.W.keepIn X.K (.ref f) = true) (hb : Binds X.K fd ps [])
    (ha : PA X (e :: es) t) (hdb : (x == ("__debug__" : Str)) = false := by decide) (he : starEach (e :: es) X.env = (false, eval e X.env) :: starEach es X.env := by rfl) (hpl : (backTo pos (starEach es X.env)).any (·.1) = false := by rfl) :
    PE X (.Call (.Name x p) (e :: es) [] pos) (tCallG sp E0 t) := by
  constructor
  intro pins s σ H Q I h
  refine wpAny_Call_Name_kw (ld_glob I hg hm ?_ hdb)
  refine PySem.W.callWith_K (h₀ := X.base) I.ok.mod.kin hk (thn (ha.run pos pins s σ H _ I h) fun us s1 hv => ?_) he hpl
  obtain ⟨vs, H1, I1, r, q⟩ := hv
  exact ⟨I1.kIn, run_fnG F hr hgd hb I1 r q⟩
/-! ### repr of a list or a tuple -/
def rRepr (K : PySem.W.Frag) : List V → Hp → VK → Prop := fun xs H Q => ∃ (a : Addr) (d : PyData), xs = [.ref a] ∧ Dp K H (.ref a) d ∧ d.showable = true ∧ d.hasDict = false ∧ d.depth ≤ 60 ∧ d.shown.length ≤ sizeLine ∧ Q (.str d.shown) H
theorem call_repr (hgd : X.A.guards = some []) (hu : X.A.units + 64 < cLine) : CallR X (.builtin "repr") (rRepr X.K) := by
  intro pins s σ H xs us Q I r h
  obtain ⟨a, d, ex, hd, sh, nd, dep, hz, q⟩ := h
  subst ex
  obtain ⟨u, eu, rx⟩ := vals1 r
  subst eu
  obtain ⟨as, rd⟩ := Dp.reads I d _ _ hd rx
  cases rx
  refine repr_of_reads' rd sh (fun z => by rw [nd] at z; cases z) hgd (by omega) (fun _ _ e => e) (fun h' t tk hk => ?_) hz
  exact ⟨.str d.shown, H, I.kept (t' := tk) hk, ⟨t, rfl⟩, q⟩
end
end Z
namespace Z
open PySem PySem.Spec PyProof.Rows L2
open PySem.W (Frag findIn isFn mroIn notFirst InstAt Looks looks_findIn looks_mroIn looks_subIn ifBound_K)
section
variable {prog : Program} {w : World} {A : Around} {E : Value → Shared → Prop} {s : Shared} {K : Frag} {x C L f : Addr} {h₀ : Heap} {m : Str → Option Value} {ox : Obj} {od : Option Obj} {b tb : Value}
theorem ne_builtin {Q : Fin → Shared → Prop} (hu : A.units < cLine) (X : K.In s.heap) (I : InstAt s.heap x ox C od) (hs : findIn K (.ref C) "__eq__" = some (some (.ref f))) (hf : isFn K (.ref f) = true)
    (h : wpAny (model prog w) A (call (.ref f) [.ref x, b]) (fun v s' => ∃ c, v = .bool c ∧ Q (.done (.ret (.bool (!c)))) s') E s) :
    wpAny (model prog w) A (Builtin.«object.__ne__» ⟨[.ref x, b], []⟩) Q E s := by
  unfold Builtin.«object.__ne__»
  refine wpAny_bind (wpAny_pure ?_)
  refine wpAny_bind (wpAny_cRoomFor hu ?_)
  refine wpAny_bind (m := callSpecialIfBound? (.ref x) (Str.ofString "__eq__") [b]) (ifBound_K X I hs hf (wpAny_mono h (fun r s' hr => ?_) fun _ _ y => y))
  obtain ⟨c, rfl, hq⟩ := hr
  exact wpAny_bind (wpAny_truthy_bool (wpAny_pure hq))
theorem isObj {M : Model} {h : Heap} (X : K.In h) (I : InstAt h x ox C od) (hm : mroIn K C (.type "object") = some true) : Looks M h (isInstance (.ref x) (.type "object")) true := by
  exact (I.type).andThen (looks_mroIn X hm)
theorem try_ne {Q : Option Value → Shared → Prop} (hu : A.units + 1 < cLine) (X : K.In s.heap) (I : InstAt s.heap x ox C od) (hs : findIn K (.ref C) "__eq__" = some (some (.ref f))) (hf : isFn K (.ref f) = true)
    (hne : findIn K (.ref C) "__ne__" = some (some (.builtin "object.__ne__"))) (hm : mroIn K C (.type "object") = some true)
    (h : wpAny (model prog w) A.in1 (call (.ref f) [.ref x, b]) (fun v s' => ∃ c, v = .bool c ∧ Q (some (.bool (!c))) s') E s) :
    wpAny (model prog w) A (tryCompare (.ref x) "__ne__" b) Q E s := by
  have FN : Slot "object" "__ne__" "object.__ne__" := PySem.F.cmp_object.ne
  have goal : wpAny (model prog w) A (call (.builtin "object.__ne__") [.ref x, b]) (fun v s' => ∃ c, v = .bool c ∧ Q (some v) s') E s := by
    refine wpAny_call (codeAny_call_builtin FN.plain PySem.F.cmpEntry_ne (PySem.W.check_slot PySem.F.cmpKind_ne PySem.F.cmpSplit_ne (isObj X I hm) (PySem.F.cmpArgs_ne _ _) ?_))
    refine ne_builtin (A := A.in1) hu X I hs hf (wpAny_mono h (fun v s' hv => ?_) fun _ _ e => e)
    obtain ⟨c, rfl, hq⟩ := hv
    exact ⟨c, rfl, !c, rfl, hq⟩
  have fin : wpAny (model prog w) A (call (.builtin "object.__ne__") ([.ref x] ++ [b]) >>= fun v => pure (some v)) (fun r s' => ∃ c, r = some (.bool c) ∧ Q r s') E s := by
    refine wpAny_bind (wpAny_mono goal (fun v s' hv => ?_) fun _ _ e => e)
    obtain ⟨c, rfl, hq⟩ := hv
    exact wpAny_pure ⟨c, rfl, hq⟩
  have key : wpAny (model prog w) A (callSpecialIfBound? (.ref x) "__ne__" [b]) (fun r s' => ∃ c, r = some (.bool c) ∧ Q r s') E s := by
    simp only [callSpecialIfBound?, bindSpecialIfBound?]
    refine wpAny_holding (wpAny_bind (wpAny_bind (wpAny_bind (I.type.here ((looks_findIn X hne).here ?_)))))
    simp only [FN.bind]
    refine wpAny_bind (wpAny_askSetting (wpAny_ite ?_))
    split
    · exact wpAny_bind (wpAny_pure (wpAny_pure fin))
    · exact wpAny_tryCatch (wpAny_bind (wpAny_pure (wpAny_pure fin)))
  unfold tryCompare
  refine wpAny_bind (wpAny_mono key (fun r s' hr => ?_) fun _ _ e => e)
  obtain ⟨c, rfl, hq⟩ := hr
  exact wpAny_pure hq
theorem rich_ne {Q : Value → Shared → Prop} (hu : A.units + 1 < cLine) (X : K.In s.heap) (I : InstAt s.heap x ox C od) (hb : Looks (model prog w) s.heap (typeOf b) tb) (hn : notFirst K C tb = true)
    (hs : findIn K (.ref C) "__eq__" = some (some (.ref f))) (hf : isFn K (.ref f) = true) (hne : findIn K (.ref C) "__ne__" = some (some (.builtin "object.__ne__"))) (hm : mroIn K C (.type "object") = some true)
    (h : wpAny (model prog w) A.in1 (call (.ref f) [.ref x, b]) (fun v s' => ∃ c, v = .bool c ∧ Q (.bool (!c)) s') E s) : wpAny (model prog w) A (richCompare .NotEq (.ref x) b) Q E s := by
  have one : wpAny (model prog w) A (tryCompare (.ref x) "__ne__" b) (fun r s' => ∃ v, r = some v ∧ Q v s') E s := by
    refine try_ne hu X I hs hf hne hm (wpAny_mono h (fun v s' hv => ?_) fun _ _ e => e)
    obtain ⟨c, rfl, hq⟩ := hv
    exact ⟨c, rfl, _, rfl, hq⟩
  unfold richCompare
  simp only [oneThing_ref, cmpInfo_NotEq]
  refine wpAny_holding (wpAny_bind (wpAny_cRoomFor (by omega) ?_))
  refine wpAny_bind (I.type.here (wpAny_bind (hb.here ?_)))
  by_cases q : (Value.ref C != tb) = true
  · rw [if_pos q]
    have e : PySem.W.subIn K tb (.ref C) = some false := by
      rcases Bool.or_eq_true_iff.mp hn with e | e
      · rw [eq_of_beq e] at q; simp at q
      · exact eq_of_beq e
    refine wpAny_bind ((looks_subIn X e).here ?_)
    simp only [Bool.false_eq_true, if_false]
    refine wpAny_bind (wpAny_mono one (fun r s' z => ?_) fun _ _ e => e)
    obtain ⟨v, rfl, hq⟩ := z
    exact wpAny_pure hq
  · rw [if_neg q]
    refine wpAny_bind (wpAny_pure ?_)
    simp only [Bool.false_eq_true, if_false]
    refine wpAny_bind (wpAny_mono one (fun r s' z => ?_) fun _ _ e => e)
    obtain ⟨v, rfl, hq⟩ := z
    exact wpAny_pure hq
end
/-! ### == and != of an own class with an __eq__ of its own -/
/-- the class's facts -/
structure OwnEq (K : Frag) (C f : Addr) (fd : FuncData) : Prop where
  eq : findIn K (.ref C) "__eq__" = some (some (.ref f))
  fn : isFn K (.ref f) = true
  ne : findIn K (.ref C) "__ne__" = some (some (.builtin "object.__ne__"))
  top : mroIn K C (.type "object") = some true
  bd : Binds K fd ["self", "other"] []
/-- the right side's type, as the comparison asks it -/
inductive RightOf (K : Frag) (C : Addr) (H : Hp) : V → Prop where
  | int (i : Int) (h : notFirst K C (.type "int") = true) : RightOf K C H (.int i)
  | str (x : Str) (h : notFirst K C (.type "str") = true) : RightOf K C H (.str x)
  | tup {a : Addr} {xs : List V} (e : SqT K H a xs) (h : notFirst K C (.type "tuple") = true) : RightOf K C H (.ref a)
  | ins {a dx : Addr} {fs : List (Str × V)} (e : H a = some (.ins C dx fs)) : RightOf K C H (.ref a)
section
variable {X : Cx} {k : Nat} {C f : Addr} {fd : FuncData} {sp : Sp}
theorem RightOf.look {pins : List (Addr × Obj)} {σ : L2.St} {H : Hp} {s : Shared} {v : V} {u : Value} (I : Inv X pins σ H s) (r : RightOf X.K C H v) (ru : RelV v u) :
    ∃ tb, Looks (model X.prog X.w) s.heap (typeOf u) tb ∧ notFirst X.K C tb = true := by
  cases r with
  | int i h => obtain ⟨t, rfl⟩ := (show ∃ t, u = Value.int i t from ru); exact ⟨_, Looks.of_pure rfl, h⟩
  | str x h => obtain ⟨t, rfl⟩ := (show ∃ t, u = Value.str x t from ru); exact ⟨_, Looks.of_pure rfl, h⟩
  | @tup a xs e h =>
    cases (show u = Value.ref a from ru)
    obtain ⟨its, _, ⟨o, ho, hc, _⟩, _⟩ := I.tuple e
    exact ⟨.type "tuple", fun A Q E s' kp q => wpAny_typeOf ⟨o, kp _ _ ho, hc⟩ q, h⟩
  | @ins a dx fs e =>
    cases (show u = Value.ref a from ru)
    obtain ⟨mA, J, _⟩ := ins_get I.hok e
    obtain ⟨od, J, _⟩ := J.look
    exact ⟨.ref C, J.type, by simp [notFirst]⟩
/-- what stands for the comparison's wish: a bool comes -/
def rOwnC (C : Addr) (sp : Sp) (g : Bool → Bool) (K : Frag) : R2 := fun x y H Q => ∃ a dx fs, x = .ref a ∧ H a = some (.ins C dx fs) ∧ RightOf K C H y ∧ sp [x, y] H (fun v H' => ∃ c, v = .bl c ∧ Q (.bl (g c)) H') E0
theorem op_ownEq (F : FnOk X.prog X.w X.K X.mg X.base CX0 k f fd ["self", "other"] sp) (O : OwnEq X.K C f fd) (hr : Room k X.A) : OpR X (compareOp .Eq) (rOwnC C sp id X.K) := by
  intro pins s σ H x y v u Q I rx ry h
  obtain ⟨a, dx, fs, rfl, ha, hy, hsp⟩ := h
  cases rx
  obtain ⟨mA, J, _⟩ := ins_get I.hok ha
  obtain ⟨od, J, _⟩ := J.look
  obtain ⟨tb, hb, hn⟩ := hy.look I ry
  obtain ⟨m, hF⟩ := I.fr
  show wpAny (model X.prog X.w) X.A (richCompare .Eq (.ref a) u) (EP X pins σ Q) X.xe s
  refine PySem.W.cmp_K (op := .Eq) hr.units0 hF I.ok.mod.kin J hb hn O.eq O.fn ?_
  refine wpAny_mono (run_fn (dvs := []) (ds := []) (Q := fun v H' => ∃ c, v = .bl c ∧ Q (.bl (id c)) H') (vs := [.ref a, y]) (us := [.ref a, u]) F hr O.bd .nil pass0 I (.cons rfl (.cons ry .nil)) (by simpa using hsp)) (fun v s' hv => ?_) fun _ _ e => e
  obtain ⟨z, H', I', rz, c, rfl, q⟩ := hv
  cases (show v = Value.bool c from rz)
  exact ⟨.bl c, H', I', rfl, q⟩
theorem run_fn_in1 {pins : List (Addr × Obj)} {σ : L2.St} {H : Hp} {s : Shared} {Q : VK} {us : List Value} {vs : List V} {ps : List Str} (F : FnOk X.prog X.w X.K X.mg X.base CX0 k f fd ps sp) (hr : Room (k + 1) X.A) (hb : Binds X.K fd ps [])
    (I : Inv X pins σ H s) (r : Vals vs us) (h : sp vs H Q E0) : wpAny (model X.prog X.w) X.A.in1 (call (.ref f) us) (EP X pins σ Q) X.xe s := by
  have hl : (us ++ []).length = ps.length := by rw [List.append_nil, ← r.length]; exact F.len _ _ _ _ h
  have hb' := hb s us I.kIn hl
  rw [List.append_nil] at hb'
  refine wpAny_call (codeAny_mono (F.run X.A.in1 X.stack s H ⟨us, []⟩ us vs Q E0 hr.in1 I.env0.in1 hb' r h) fun r s' hq => ?_)
  match r, hq with
  | .error e, hq => exact False.elim hq
  | .ok (.ret u), hq => exact I.after hq
  | .ok .next, hq => exact False.elim hq
  | .ok .brk, hq => exact False.elim hq
  | .ok .cont, hq => exact False.elim hq
theorem op_ownNe (F : FnOk X.prog X.w X.K X.mg X.base CX0 k f fd ["self", "other"] sp) (O : OwnEq X.K C f fd) (hr : Room (k + 1) X.A) : OpR X (compareOp .NotEq) (rOwnC C sp (fun c => !c) X.K) := by
  intro pins s σ H x y v u Q I rx ry h
  obtain ⟨a, dx, fs, rfl, ha, hy, hsp⟩ := h
  cases rx
  obtain ⟨mA, J, _⟩ := ins_get I.hok ha
  obtain ⟨od, J, _⟩ := J.look
  obtain ⟨tb, hb, hn⟩ := hy.look I ry
  show wpAny (model X.prog X.w) X.A (richCompare .NotEq (.ref a) u) (EP X pins σ Q) X.xe s
  refine rich_ne (by have := hr.un; omega) I.kIn J hb hn O.eq O.fn O.ne O.top ?_
  refine wpAny_mono (run_fn_in1 (Q := fun v H' => ∃ c, v = .bl c ∧ Q (.bl (!c)) H') (vs := [.ref a, y]) (us := [.ref a, u]) F hr O.bd I (.cons rfl (.cons ry .nil)) hsp) (fun v s' hv => ?_) fun _ _ e => e
  obtain ⟨z, H', I', rz, c, rfl, q⟩ := hv
  cases (show v = Value.bool c from rz)
  exact ⟨c, rfl, .bl (!c), H', I', rfl, q⟩
end
/-! ### calls by keywords alone -/
theorem kbn_of {K : Frag} {fd : FuncData} {ps ks : List Str} {n : Nat} (g : {α : Type} → List α → List α → List α) (hrel : ∀ {vs zs : List V} {us ws : List Value}, Vals vs us → Vals zs ws → Vals (g vs zs) (g us ws))
    (h : ∀ us ws : List Value, us.length = n → ws.length = ks.length → bindArgs fd ⟨us, ks.zip ws⟩ = pure (ps.zip (g us ws))) : KBn K fd ps n ks (fun us ws => g us ws) (fun vs zs => g vs zs) :=
  ⟨fun _ us ws _ h1 h2 => .of_eq (h us ws h1 h2), hrel⟩
section
variable {X : Cx} {CX : CXT} {k n : Nat} {f C : Addr} {fd : FuncData} {ps ks : List Str} {sp : Sp} {E : XK} {x m : Str} {p pos apos : Pos} {o : Expr} {kws : List Keyword} {ta : TE} {tk : TA} {g : List Value → List Value → List Value} {gV : List V → List V → List V}
/-- f(k = v, ..) -/
theorem pe_callN0 (F : FnOk X.prog X.w X.K X.mg X.base CX k f fd ps sp) (hr : Room k X.A) (hg : Gl X x) (hm : X.mg x = some (.ref f)) (hk : PySem.W.keepIn X.K (.ref f) = true) (hb : KBn X.K fd ps 0 ks g gV) (hx : Passes CX X E) (hkw : PK X kws tk)
    (hall : (backToKw pos (keywordEach kws X.env)).all (·.1.isSome) = true := by rfl) (hks : (backToKw pos (keywordEach kws X.env)).filterMap (·.1) = ks := by rfl)
    (hdb : (x == ("__debug__" : Str)) = false := by decide) (hpl : ((backTo pos (starEach [] X.env)).any (·.1) || (backToKw pos (keywordEach kws X.env)).any (·.1.isNone)) = false := by rfl) :
    PE X (.Call (.Name x p) [] kws pos) (tCallN 0 ks.length sp gV E tNil tk) := by
  constructor
  intro pins s σ H Q I h
  refine wpAny_Call_Name_kw (ld_glob I hg hm ?_ hdb)
  refine PySem.W.callWith_KW0 (h₀ := X.base) I.ok.mod.kin hk hall (thn (hkw.run pos pins s σ H _ I h) fun ws s2 hv => ?_) hpl
  obtain ⟨zs, H2, I2, rz, l1, l2, q2⟩ := hv
  refine ⟨I2.kIn, ?_⟩
  rw [hks]
  exact run_fnN (us := []) (vs := []) F hr hb hx I2 .nil rz rfl l2 q2
/-- o.m(k = v, ..) -/
def tMethN (C : Addr) (m : Str) (n : Nat) (sp : Sp) (gV : List V → List V → List V) (E : XK) (ta : TE) (tk : TA) : TE := fun σ H Q => ta σ H fun x H1 => ∃ a dx fs, x = .ref a ∧ H1 a = some (.ins C dx fs) ∧ fs.lookup m = none ∧
  tk σ H1 fun zs H2 => zs.length = n ∧ sp (gV [x] zs) H2 Q E
theorem pe_methN0 {pl : Sem Bool} (he : PE X o ta) (c : Cls X.K C) (hm : Meth X.K C m f) (F : FnOk X.prog X.w X.K X.mg X.base CX k f fd ps sp) (hr : Room k X.A) (hb : KBn X.K fd ps 1 ks g gV) (hx : Passes CX X E) (hkw : PK X kws tk)
    (hall : (backToKw pos (keywordEach kws X.env)).all (·.1.isSome) = true := by rfl) (hks : (backToKw pos (keywordEach kws X.env)).filterMap (·.1) = ks := by rfl)
    (hpl : ((backTo pos (starEach [] X.env)).any (·.1) || (backToKw pos (keywordEach kws X.env)).any (·.1.isNone)) = false := by rfl)
    (ht : eval (.Call (.Attribute o m apos) [] kws pos) X.env = (do
      let ov ← eval o X.env
      standAt apos.atName
      let (f, first) ← holding [ov] (getMethod ov m pl)
      callWith pos f first (backTo pos (starEach [] X.env)) (backToKw pos (keywordEach kws X.env))) := by rfl) :
    PE X (.Call (.Attribute o m apos) [] kws pos) (tMethN C m ks.length sp gV E ta tk) := by
  constructor
  intro pins s σ H Q I h
  refine PySem.W.methodCall_KW (pl := pl) (thn (he.run pins s σ H _ I h) fun u s1 hv => ?_) ht
  obtain ⟨x, H1, I1, rx, a, dx, fs, ex, ea, l, q⟩ := hv
  subst ex
  obtain rfl : u = Value.ref a := rx
  refine getmeth_ok I1 ea c hm l ?_
  refine PySem.W.callWith_KW0 (first := [.ref a]) (h₀ := X.base) I1.ok.mod.kin hm.kp hall (thn (hkw.run pos pins s1 σ H1 _ I1 q) fun ws s2 hv => ?_) hpl
  obtain ⟨zs, H2, I2, rz, l2, q2⟩ := hv
  refine ⟨I2.kIn, ?_⟩
  rw [hks]
  exact run_fnN (n := 1) (us := [.ref a]) (vs := [.ref a]) F hr hb hx I2 (.cons rfl .nil) rz rfl (by simpa using l2) q2
end
end Z
namespace Z
open PySem PySem.Spec PyProof.Rows L2
/-! ### the law's end, for a law that is called while no repr runs -/
theorem law_callG {P : Program} {w : World} {K : PySem.W.Frag} {mg mb : Str → Option Value} {k : Nat} {fa a : Addr} {fd : FuncData} {x : Str} {sp : Sp} {s₁ : Shared} {vs : List Value} {ns : List Int}
    (KX : K.In s₁.heap) (hns : s₁.heap.Ns mainGlobals mg) (hb : s₁.heap.Ns builtinsNs mb) (hbb : ∀ x : Str, x ≠ "__name__" → mb x = bootBuiltins x) (hlim : s₁.heap.NoLimit) (hg : s₁.gens = #[])
    (ha : s₁.heap.get? a = some { cls := .type "list", data := .seq vs.toArray }) (hi : IntsAre vs ns) (hl : ns.length ≤ sizeLine) (hr : Room k callerA)
    (F : ∀ base : Heap, K.In base → base.Ns mainGlobals mg → FnG P w K mg base k fa fd [x] sp) (hbind : ∀ (s : Shared) (u : Value), BindsTo s fd ⟨[u], []⟩ [(x, u)])
    (hsp : ∀ H : Hp, Only H → SqL K H a (ns.map V.int) → sp [.ref a] H (fun v _ => v = .bl true) fun _ _ _ => False) :
    codeAny (model P w) callerA (.call (.ref fa) ⟨[.ref a], []⟩) (fun r s' => r = .ok (.ret (.bool true)) ∧ OldK s₁.heap s'.heap ∧ s'.os = s₁.os ∧ AllBare s'.gens) s₁ := by
  have rv := vals_ints hi
  have lenV := hi.length
  suffices core : ∀ H : Hp, Only H → SqL K H a (ns.map V.int) → HOk P w H s₁.heap → (∀ b, H b ≠ none → b = a) → (H a ≠ none → K.lookup a = none) →
      codeAny (model P w) callerA (.call (.ref fa) ⟨[.ref a], []⟩) (fun r s' => r = .ok (.ret (.bool true)) ∧ OldK s₁.heap s'.heap ∧ s'.os = s₁.os ∧ AllBare s'.gens) s₁ by
    cases hk : K.lookup a with
    | some o =>
      have e := KX a o hk
      rw [ha] at e
      cases e
      have none0 : ∀ (b : Addr) (u : HO), (fun _ => none : Hp) b = some u → False := fun b u z => by cases (show (none : Option HO) = some u from z)
      refine core (fun _ => none) (fun _ => .inl rfl) (.inr ⟨_, vs.toArray, _, hk, rfl, rfl, rfl, ?_, by simpa using rv⟩) (fun b u z => (none0 b u z).elim) (fun b z => absurd rfl z) fun z => absurd rfl z
      rw [List.size_toArray, lenV]
      exact hl
    | none =>
      let sc : HO := .frz { cls := .type "list", data := .seq vs.toArray } (.lst (ns.map V.int))
      refine core (fun b => if b = a then some sc else none) (fun b => ?_) (.inl (.inr ⟨{ cls := .type "list", data := .seq vs.toArray }, if_pos rfl⟩)) (fun b u z => ?_) (fun b z => ?_) fun _ => hk
      · by_cases e : b = a
        · exact .inr ⟨_, _, if_pos e⟩
        · exact .inl (if_neg e)
      · by_cases e : b = a
        · subst e
          have z' : some sc = some u := (if_pos rfl).symm.trans z
          cases z'
          exact ⟨ha, by rw [List.length_map]; exact hl, vs, _, rv, ha⟩
        · cases (if_neg e).symm.trans z
      · by_cases e : b = a
        · exact e
        · exact absurd (if_neg e) z
  intro H hO hS hok hA hK
  have isA : ∀ {b : Addr}, H b ≠ none → s₁.heap.get? b = some { cls := .type "list", data := .seq vs.toArray } := fun {b} z => by rw [hA b z]; exact ha
  have noD : ∀ {b : Addr} {o : Obj} {es : Array DictEntry} {ep : Nat}, s₁.heap.get? b = some o → o.data = .dict es ep → H b = none := fun {b o es ep} e d => by
    by_cases z : H b = none
    · exact z
    · rw [isA z] at e
      cases e
      cases (show Data.seq vs.toArray _ = Data.dict es ep from d)
  have nsK : ∀ {b : Addr} {m : Str → Option Value}, s₁.heap.Ns b m → (hidT s₁.heap H).Ns b m := fun n => by
    obtain ⟨o, es, ep, e, d, r⟩ := n
    exact ⟨o, es, ep, hidT_get e (noD e d), d, r⟩
  have hKb : K.In (hidT s₁.heap H) := fun b o e => hidT_get (KX b o e) (by
    by_cases z : H b = none
    · exact z
    · have eb := hA b z
      subst eb
      rw [hK z] at e
      cases e)
  have hM : Mod K mg (hidT s₁.heap H) := ⟨hKb, nsK hns, ⟨mb, nsK hb, hbb⟩, let ⟨mc, h1, h2⟩ := hlim; ⟨mc, nsK h1, h2⟩⟩
  have nil0 : ∀ b : Addr, b ∉ ([] : List Addr) := fun b => by simp
  have e0 : Env0 P w K mg (hidT s₁.heap H) callerA [] s₁ H := ⟨rfl, hM, fun b o e => of_hidT e, Nat.le_of_eq (hidT_size _ _), trivial, fun b hb => absurd hb (nil0 b), hok, .of_eq hg⟩
  refine codeAny_mono ((F _ hKb (nsK hns)).run callerA [] s₁ H ⟨[.ref a], []⟩ [.ref a] [.ref a] _ _ hr rfl e0 (hbind s₁ (.ref a)) (.cons rfl .nil) (hsp H hO hS)) fun r s' h => ?_
  match r, h with
  | .error e, h => exact False.elim h
  | .ok .next, h => exact False.elim h
  | .ok .brk, h => exact False.elim h
  | .ok .cont, h => exact False.elim h
  | .ok (.ret u), h =>
    obtain ⟨v, H', os, bare, un, hok', r', q⟩ := h
    cases (show v = .bl true from q)
    cases (show u = Value.bool true from r')
    refine ⟨rfl, OldK.of_keep fun b o e => ?_, os, bare⟩
    by_cases z : H b = none
    · exact un.keep b o e z (nil0 b) (by simp)
    · rcases hO b with y | ⟨ob, xs, y⟩
      · exact absurd y z
      · obtain ⟨e1, _⟩ := hok b _ y
        obtain ⟨e2, _⟩ := hok' b _ (un.frzs b ob _ y)
        rw [e] at e1
        cases e1
        exact e2
/-- the goal that k_head leaves, from the law's promise -/
theorem walkG {l : PySem.W.OpenLaw} {n k : Nat} {q : Program} {loose : List Str} {XP : (Str → Option Value) → Heap → Prop} {YP : World → Heap → Prop} {d : DefRec} {K : Params → PySem.W.Frag} {sp : World → Sp} {x : Str}
    (hn : l.most = some n) (hn2 : n ≤ sizeLine) (hdf : d.params.defaults = []) (hr : Room k callerA) (hY : ∀ (w : World) (h : Heap), YP w h → (K w.params).In h)
    (F : ∀ (w : World) (mg : Str → Option Value) (fa : Addr) (h : Heap), (K w.params).In h → h.Ns mainGlobals mg → mg d.name = some (.ref fa) →
      ∃ fd : FuncData, (∀ (s : Shared) (u : Value), BindsTo s fd ⟨[u], []⟩ [(x, u)]) ∧ ∀ base : Heap, (K w.params).In base → base.Ns mainGlobals mg → FnG l.prog w (K w.params) mg base k fa fd [x] (sp w))
    (hsp : ∀ (w : World) (H : Hp) (a : Addr) (ns : List Int), ns.length ≤ n → Only H → SqL (K w.params) H a (ns.map V.int) → sp w [.ref a] H (fun v _ => v = .bl true) fun _ _ _ => False) :
    PySem.W.WalkO q loose XP YP l.row.toRowW d [] (fun f vs => PySem.call f vs) := by
  refine Att.attach_call hn hdf fun w s₀ s₁ mg mb fa o pm cd doc a vs ns G Y ho hd hcd hmg hobj hints hlen hg => ?_
  have KX := hY w _ Y
  obtain ⟨fd, hb, hF⟩ := F w mg fa _ KX G.T.g hmg
  exact law_callG KX G.T.g G.T.b G.T.builtins G.T.nolimit hg hobj hints (Nat.le_trans hlen hn2) hr hF hb fun H hO hS => hsp w H a ns hlen hO hS
end Z
namespace K1
open PySem PySem.Spec L2 Z
def topS (i : Nat) : Stmt := PySem.Challenge.pw_arrowcells_k01_whole_stores_and_their_te.main.body.getD i (.Pass ⟨0, 0, 0, 0⟩)
abbrev s_is_number : Stmt := topS 12
abbrev N_is_number : List Str := ["value"]
theorem sc_is_number : FnScope N_is_number ["value"] (defScope s_is_number) := ⟨rfl, rfl, rfl, by decide +kernel, rfl, by decide +kernel, by decide +kernel⟩
abbrev s_is_whole : Stmt := topS 13
abbrev N_is_whole : List Str := ["value", "low", "high"]
theorem sc_is_whole : FnScope N_is_whole ["value", "low", "high"] (defScope s_is_whole) := ⟨rfl, rfl, rfl, by decide +kernel, rfl, by decide +kernel, by decide +kernel⟩
abbrev s_is_place : Stmt := topS 14
abbrev N_is_place : List Str := ["value"]
theorem sc_is_place : FnScope N_is_place ["value"] (defScope s_is_place) := ⟨rfl, rfl, rfl, by decide +kernel, rfl, by decide +kernel, by decide +kernel⟩
abbrev s_is_letter : Stmt := topS 15
abbrev N_is_letter : List Str := ["value"]
theorem sc_is_letter : FnScope N_is_letter ["value"] (defScope s_is_letter) := ⟨rfl, rfl, rfl, by decide +kernel, rfl, by decide +kernel, by decide +kernel⟩
abbrev s_is_tuple_of : Stmt := topS 16
abbrev N_is_tuple_of : List Str := ["value", "many"]
theorem sc_is_tuple_of : FnScope N_is_tuple_of ["value", "many"] (defScope s_is_tuple_of) := ⟨rfl, rfl, rfl, by decide +kernel, rfl, by decide +kernel, by decide +kernel⟩
abbrev s_number_in : Stmt := topS 17
abbrev N_number_in : List Str := ["word", "high", "sign", "number"]
theorem sc_number_in : FnScope N_number_in ["word", "high"] (defScope s_number_in) := ⟨rfl, rfl, rfl, by decide +kernel, rfl, by decide +kernel, by decide +kernel⟩
abbrev s_init : Stmt := inClass (topS 21) 0
abbrev N_init : List Str := ["self", "names", "cells", "wrong"]
theorem sc_init : FnScope N_init ["self", "names", "cells"] (defScope s_init) := ⟨rfl, rfl, rfl, by decide +kernel, rfl, by decide +kernel, by decide +kernel⟩
abbrev s_eq : Stmt := inClass (topS 21) 1
abbrev N_eq : List Str := ["self", "other"]
theorem sc_eq : FnScope N_eq ["self", "other"] (defScope s_eq) := ⟨rfl, rfl, rfl, by decide +kernel, rfl, by decide +kernel, by decide +kernel⟩
abbrev s_take : Stmt := inClass (topS 21) 2
abbrev N_take : List Str := ["self", "names", "cells", "letter", "_", "place"]
theorem sc_take : FnScope N_take ["self", "names", "cells"] (defScope s_take) := ⟨rfl, rfl, rfl, by decide +kernel, rfl, by decide +kernel, by decide +kernel⟩
abbrev s_at : Stmt := inClass (topS 21) 3
abbrev N_at : List Str := ["self", "letter"]
theorem sc_at : FnScope N_at ["self", "letter"] (defScope s_at) := ⟨rfl, rfl, rfl, by decide +kernel, rfl, by decide +kernel, by decide +kernel⟩
abbrev s_arrow : Stmt := inClass (topS 21) 4
abbrev N_arrow : List Str := ["self", "place"]
theorem sc_arrow : FnScope N_arrow ["self", "place"] (defScope s_arrow) := ⟨rfl, rfl, rfl, by decide +kernel, rfl, by decide +kernel, by decide +kernel⟩
abbrev s_is_gone : Stmt := inClass (topS 21) 5
abbrev N_is_gone : List Str := ["self", "place"]
theorem sc_is_gone : FnScope N_is_gone ["self", "place"] (defScope s_is_gone) := ⟨rfl, rfl, rfl, by decide +kernel, rfl, by decide +kernel, by decide +kernel⟩
abbrev s_are_store_names : Stmt := topS 22
abbrev N_are_store_names : List Str := ["value", "before", "pair"]
theorem sc_are_store_names : FnScope N_are_store_names ["value"] (defScope s_are_store_names) := ⟨rfl, rfl, rfl, by decide +kernel, rfl, by decide +kernel, by decide +kernel⟩
abbrev s_wrong_cell : Stmt := topS 23
abbrev N_wrong_cell : List Str := ["cells", "before", "index", "pair"]
theorem sc_wrong_cell : FnScope N_wrong_cell ["cells"] (defScope s_wrong_cell) := ⟨rfl, rfl, rfl, by decide +kernel, rfl, by decide +kernel, by decide +kernel⟩
abbrev s_store_text : Stmt := topS 24
abbrev N_store_text : List Str := ["names", "cells", "leads", "arrows", "letter", "place", "to"]
theorem sc_store_text : FnScope N_store_text ["names", "cells"] (defScope s_store_text) := ⟨rfl, rfl, rfl, by decide +kernel, rfl, by decide +kernel, by decide +kernel⟩
abbrev s_store_in : Stmt := topS 25
abbrev N_store_in : List Str := ["text", "halves", "names", "cells", "word"]
theorem sc_store_in : FnScope N_store_in ["text"] (defScope s_store_in) := ⟨rfl, rfl, rfl, by decide +kernel, rfl, by decide +kernel, by decide +kernel⟩
abbrev s_read_store : Stmt := topS 26
abbrev N_read_store : List Str := ["text", "store"]
theorem sc_read_store : FnScope N_read_store ["text"] (defScope s_read_store) := ⟨rfl, rfl, rfl, by decide +kernel, rfl, by decide +kernel, by decide +kernel⟩
abbrev s_name_in : Stmt := topS 27
abbrev N_name_in : List Str := ["word", "letter", "_", "place"]
theorem sc_name_in : FnScope N_name_in ["word"] (defScope s_name_in) := ⟨rfl, rfl, rfl, by decide +kernel, rfl, by decide +kernel, by decide +kernel⟩
abbrev s_cell_in : Stmt := topS 28
abbrev N_cell_in : List Str := ["word", "place", "_", "to"]
theorem sc_cell_in : FnScope N_cell_in ["word"] (defScope s_cell_in) := ⟨rfl, rfl, rfl, by decide +kernel, rfl, by decide +kernel, by decide +kernel⟩
abbrev s_law_jug : Stmt := topS 30
abbrev N_law_jug : List Str := ["_law_script", "_law_turn", "_law_seed", "_law_each", "_law_cell", "_law_great"]
theorem sc_law_jug : FnScope N_law_jug ["_law_script", "_law_turn"] (defScope s_law_jug) := ⟨rfl, rfl, rfl, by decide +kernel, rfl, by decide +kernel, by decide +kernel⟩
abbrev s_law_take : Stmt := topS 31
abbrev N_law_take : List Str := ["_law_jug_here", "_law_many", "_law_figure"]
theorem sc_law_take : FnScope N_law_take ["_law_jug_here", "_law_many"] (defScope s_law_take) := ⟨rfl, rfl, rfl, by decide +kernel, rfl, by decide +kernel, by decide +kernel⟩
abbrev s_law_one_of : Stmt := topS 32
abbrev N_law_one_of : List Str := ["_law_jug_here", "_law_some"]
theorem sc_law_one_of : FnScope N_law_one_of ["_law_jug_here", "_law_some"] (defScope s_law_one_of) := ⟨rfl, rfl, rfl, by decide +kernel, rfl, by decide +kernel, by decide +kernel⟩
abbrev s_law_letters : Stmt := topS 33
abbrev N_law_letters : List Str := ["_law_jug_here", "_law_many", "_law_found", "_law_turn", "_law_near", "_law_left", "_law_letter"]
theorem sc_law_letters : FnScope N_law_letters ["_law_jug_here", "_law_many"] (defScope s_law_letters) := ⟨rfl, rfl, rfl, by decide +kernel, rfl, by decide +kernel, by decide +kernel⟩
abbrev s_law_drawn_cells : Stmt := topS 34
abbrev N_law_drawn_cells : List Str := ["_law_jug_here", "_law_most", "_law_many", "_law_last", "_law_places", "_law_turn", "_law_goals", "_law_cells", "_law_at", "_law_place", "_law_goal"]
theorem sc_law_drawn_cells : FnScope N_law_drawn_cells ["_law_jug_here", "_law_most"] (defScope s_law_drawn_cells) := ⟨rfl, rfl, rfl, by decide +kernel, rfl, by decide +kernel, by decide +kernel⟩
abbrev s_law_store_text : Stmt := topS 35
abbrev N_law_store_text : List Str := ["_law_names", "_law_cells", "_law_tail", "_law_place", "_law_goal", "_law_letter"]
theorem sc_law_store_text : FnScope N_law_store_text ["_law_names", "_law_cells"] (defScope s_law_store_text) := ⟨rfl, rfl, rfl, by decide +kernel, rfl, by decide +kernel, by decide +kernel⟩
abbrev s_law_arrows : Stmt := topS 36
abbrev N_law_arrows : List Str := ["_law_cells", "_law_found", "_law_place", "_law_goal"]
theorem sc_law_arrows : FnScope N_law_arrows ["_law_cells"] (defScope s_law_arrows) := ⟨rfl, rfl, rfl, by decide +kernel, rfl, by decide +kernel, by decide +kernel⟩
abbrev s_law_turned : Stmt := topS 37
abbrev N_law_turned : List Str := ["_law_jug_here", "_law_names", "_law_cells", "_law_goals", "_law_goal", "_law_at"]
theorem sc_law_turned : FnScope N_law_turned ["_law_jug_here", "_law_names", "_law_cells", "_law_goals"] (defScope s_law_turned) := ⟨rfl, rfl, rfl, by decide +kernel, rfl, by decide +kernel, by decide +kernel⟩
abbrev s_law_tells : Stmt := topS 38
abbrev N_law_tells : List Str := ["_law_made", "_law_names", "_law_cells", "_law_letters_here", "_law_told", "_law_each"]
theorem sc_law_tells : FnScope N_law_tells ["_law_made", "_law_names", "_law_cells"] (defScope s_law_tells) := ⟨rfl, rfl, rfl, by decide +kernel, rfl, by decide +kernel, by decide +kernel⟩
abbrev s_law_places_right : Stmt := topS 39
abbrev N_law_places_right : List Str := ["_law_made", "_law_names", "_law_cells", "_law_places", "_law_place", "_law_arrows_here", "_law_heads", "_law_goals", "_law_is_gone", "_law_letter", "_law_goal"]
theorem sc_law_places_right : FnScope N_law_places_right ["_law_made", "_law_names", "_law_cells", "_law_places"] (defScope s_law_places_right) := ⟨rfl, rfl, rfl, by decide +kernel, rfl, by decide +kernel, by decide +kernel⟩
abbrev s_law_right : Stmt := topS 40
abbrev N_law_right : List Str := ["_law_jug_here", "_law_letters_here", "_law_cells", "_law_goals", "_law_names", "_law_made", "_law_other", "_law_read", "_law_late_names", "_law_late_cells", "_law_late", "_law_is_same", "_law_places", "_law_letter"]
theorem sc_law_right : FnScope N_law_right ["_law_jug_here"] (defScope s_law_right) := ⟨rfl, rfl, rfl, by decide +kernel, rfl, by decide +kernel, by decide +kernel⟩
abbrev s_law : Stmt := topS 41
abbrev N_law : List Str := ["_law_script", "_law_turn"]
theorem sc_law : FnScope N_law ["_law_script"] (defScope s_law) := ⟨rfl, rfl, rfl, by decide +kernel, rfl, by decide +kernel, by decide +kernel⟩

def DefAt (K : PySem.W.Frag) (mg : Str → Option Value) (x : Str) (st : Stmt) (ps : List Str) : Prop := ∃ (f : Addr) (fd : FuncData), Fun K x x st f fd ∧ mg x = some (.ref f) ∧ Binds K fd ps []
def MethAt (K : PySem.W.Frag) (C : Addr) (m q : Str) (st : Stmt) (ps : List Str) : Prop := ∃ (f : Addr) (fd : FuncData), Fun K m q st f fd ∧ Meth K C m f ∧ Binds K fd ps []
def InitAt (K : PySem.W.Frag) (C : Addr) (q : Str) (st : Stmt) (ps : List Str) : Prop := ∃ (f : Addr) (fd : FuncData), Fun K "__init__" q st f fd ∧ Mk K C f ∧ Binds K fd ps []
def EqAt (K : PySem.W.Frag) (C : Addr) (q : Str) (st : Stmt) : Prop := ∃ (f : Addr) (fd : FuncData), Fun K "__eq__" q st f fd ∧ OwnEq K C f fd
structure Txt (K : PySem.W.Frag) (mg : Str → Option Value) (C : Addr) : Prop where
  b_isinstance : mg "isinstance" = none
  b_int : mg "int" = none
  b_bool : mg "bool" = none
  b_str : mg "str" = none
  b_len : mg "len" = none
  b_tuple : mg "tuple" = none
  b_dict : mg "dict" = none
  b_enumerate : mg "enumerate" = none
  b_range : mg "range" = none
  b_divmod : mg "divmod" = none
  b_abs : mg "abs" = none
  b_sorted : mg "sorted" = none
  b_repr : mg "repr" = none
  b_all : mg "all" = none
  b_max : mg "max" = none
  b_min : mg "min" = none
  c_LETTERS : ∃ t, mg "LETTERS" = some (.str "abcdefghijklmnopqrstuvwxyz" t)
  c_FIGURES : ∃ t, mg "FIGURES" = some (.str "0123456789" t)
  c_END : ∃ t, mg "END" = some (.int 0 t)
  c_LAST_PLACE : ∃ t, mg "LAST_PLACE" = some (.int 999 t)
  c_MOST_NAMES : ∃ t, mg "MOST_NAMES" = some (.int 4 t)
  c_MOST_CELLS : ∃ t, mg "MOST_CELLS" = some (.int 500 t)
  mgC : mg "Store" = some (.ref C)
  cl : Cls K C
  n_names : NoAttr K C "names"
  n_cells : NoAttr K C "cells"
  n_letters : NoAttr K C "letters"
  n_text : NoAttr K C "text"
  n_places : NoAttr K C "places"
  n_arrows : NoAttr K C "arrows"
  n_led_to : NoAttr K C "led_to"
  isC : PySem.W.findIn K (.ref C) "__class__" = some (some (.builtin "object.__class__"))
  isG : PySem.W.specialIn K (.builtin "object.__class__") "__get__" = some (some (.builtin "getset_descriptor.__get__"))
  isT : PySem.W.takesIn K (.builtin "object.__class__") = some true
  isM : PySem.W.mroIn K C (.type "object") = some true
  k_self : PySem.W.kitOne K (.ref C) (.ref C) = some true
  k_str : PySem.W.kitOne K (.type "str") (.ref C) = some false
  k_int : PySem.W.kitOne K (.type "int") (.ref C) = some false
  k_tup : PySem.W.kitOne K (.type "tuple") (.ref C) = some false
  f_str : PySem.W.notFirst K C (.type "str") = true
  f_int : PySem.W.notFirst K C (.type "int") = true
  f_tup : PySem.W.notFirst K C (.type "tuple") = true
  d_is_number : DefAt K mg "is_number" s_is_number ["value"]
  d_is_whole : DefAt K mg "is_whole" s_is_whole ["value", "low", "high"]
  d_is_place : DefAt K mg "is_place" s_is_place ["value"]
  d_is_letter : DefAt K mg "is_letter" s_is_letter ["value"]
  d_is_tuple_of : DefAt K mg "is_tuple_of" s_is_tuple_of ["value", "many"]
  d_number_in : DefAt K mg "number_in" s_number_in ["word", "high"]
  d_init : InitAt K C "Store.__init__" s_init ["self", "names", "cells"]
  d_eq : EqAt K C "Store.__eq__" s_eq
  d_take : MethAt K C "take" "Store.take" s_take ["self", "names", "cells"]
  d_at : MethAt K C "at" "Store.at" s_at ["self", "letter"]
  d_arrow : MethAt K C "arrow" "Store.arrow" s_arrow ["self", "place"]
  d_is_gone : MethAt K C "is_gone" "Store.is_gone" s_is_gone ["self", "place"]
  d__are_store_names : DefAt K mg "_are_store_names" s_are_store_names ["value"]
  d__wrong_cell : DefAt K mg "_wrong_cell" s_wrong_cell ["cells"]
  d__store_text : DefAt K mg "_store_text" s_store_text ["names", "cells"]
  d_store_in : DefAt K mg "store_in" s_store_in ["text"]
  d_read_store : DefAt K mg "read_store" s_read_store ["text"]
  d__name_in : DefAt K mg "_name_in" s_name_in ["word"]
  d__cell_in : DefAt K mg "_cell_in" s_cell_in ["word"]
  d__law_jug : DefAt K mg "_law_jug" s_law_jug ["_law_script", "_law_turn"]
  d__law_take : DefAt K mg "_law_take" s_law_take ["_law_jug_here", "_law_many"]
  d__law_one_of : DefAt K mg "_law_one_of" s_law_one_of ["_law_jug_here", "_law_some"]
  d__law_letters : DefAt K mg "_law_letters" s_law_letters ["_law_jug_here", "_law_many"]
  d__law_drawn_cells : DefAt K mg "_law_drawn_cells" s_law_drawn_cells ["_law_jug_here", "_law_most"]
  d__law_store_text : DefAt K mg "_law_store_text" s_law_store_text ["_law_names", "_law_cells"]
  d__law_arrows : DefAt K mg "_law_arrows" s_law_arrows ["_law_cells"]
  d__law_turned : DefAt K mg "_law_turned" s_law_turned ["_law_jug_here", "_law_names", "_law_cells", "_law_goals"]
  d__law_tells : DefAt K mg "_law_tells" s_law_tells ["_law_made", "_law_names", "_law_cells"]
  d__law_places_right : DefAt K mg "_law_places_right" s_law_places_right ["_law_made", "_law_names", "_law_cells", "_law_places"]
  d__law_right : DefAt K mg "_law_right" s_law_right ["_law_jug_here"]
  d_law : DefAt K mg "law" s_law ["_law_script"]

section
variable (P : Program) (w : World) (K : PySem.W.Frag) (mg : Str → Option Value) (base : Heap)
/-- what a def of the module promises -/
def Pr (x : Str) (st : Stmt) (k : Nat) (ps : List Str) (sp : Sp) : Prop := ∃ (f : Addr) (fd : FuncData), Fun K x x st f fd ∧ mg x = some (.ref f) ∧ Binds K fd ps [] ∧ FnOk P w K mg base CX0 k f fd ps sp
def PrG (x : Str) (st : Stmt) (k : Nat) (ps : List Str) (sp : Sp) : Prop := ∃ (f : Addr) (fd : FuncData), Fun K x x st f fd ∧ mg x = some (.ref f) ∧ Binds K fd ps [] ∧ FnG P w K mg base k f fd ps sp
def PrM (C : Addr) (m q : Str) (st : Stmt) (k : Nat) (ps : List Str) (sp : Sp) : Prop := ∃ (f : Addr) (fd : FuncData), Fun K m q st f fd ∧ Meth K C m f ∧ Binds K fd ps [] ∧ FnOk P w K mg base CX0 k f fd ps sp
def PrI (C : Addr) (q : Str) (st : Stmt) (k : Nat) (ps : List Str) (sp : Sp) : Prop := ∃ (f : Addr) (fd : FuncData), Fun K "__init__" q st f fd ∧ Mk K C f ∧ Binds K fd ps [] ∧ FnOk P w K mg base CX0 k f fd ps sp
def PrE (C : Addr) (q : Str) (st : Stmt) (k : Nat) (sp : Sp) : Prop := ∃ (f : Addr) (fd : FuncData), Fun K "__eq__" q st f fd ∧ OwnEq K C f fd ∧ FnOk P w K mg base CX0 k f fd ["self", "other"] sp
end
section
variable {X : Cx} {k n : Nat} {C : Addr} {ps ks : List Str} {sp : Sp} {x m q : Str} {st : Stmt} {p pos apos : Pos} {e o : Expr} {es : List Expr} {kws : List Keyword} {ta : TE} {t tk : TA}
theorem pe_globI {i : Int} (hg : Gl X x) (hm : ∃ t, X.mg x = some (.int i t)) (hd : (x == ("__debug__" : Str)) = false := by decide) : PE X (.Name x pos) (tC (.int i)) := by
  obtain ⟨t, e⟩ := hm
  exact pe_glob hg e ⟨t, rfl⟩ hd
theorem pe_globS {i : Str} (hg : Gl X x) (hm : ∃ t, X.mg x = some (.str i t)) (hd : (x == ("__debug__" : Str)) = false := by decide) : PE X (.Name x pos) (tC (.str i)) := by
  obtain ⟨t, e⟩ := hm
  exact pe_glob hg e ⟨t, rfl⟩ hd
theorem pe_bty (n : String) (hg : Gl X x) (hm : X.mg x = none) (hv : bootBuiltins x = some (.type n)) (hn : x ≠ "__name__" := by decide) (hd : (x == ("__debug__" : Str)) = false := by decide) : PE X (.Name x pos) (tC (.ty n)) :=
  pe_bltn hg hm hv (show RelV (.ty n) (.type n) from rfl) hn hd
def tCal (sp : Sp) (t : TA) : TE := fun σ H Q => t σ H fun vs H1 => sp vs H1 Q E0
theorem pcall (G : Pr X.prog X.w X.K X.mg X.base x st k ps sp) (hr : Room k X.A) (ha : PA X (e :: es) t) (hg : Gl X x := by rfl) (hdb : (x == ("__debug__" : Str)) = false := by decide)
    (he : starEach (e :: es) X.env = (false, eval e X.env) :: starEach es X.env := by rfl) (hpl : (backTo pos (starEach es X.env)).any (·.1) = false := by rfl) : PE X (.Call (.Name x p) (e :: es) [] pos) (tCal sp t) := by
  obtain ⟨f, fd, F, gl, bd, G⟩ := G
  have h := pe_call (p := p) (pos := pos) G hr hg gl F.kp bd .nil pass0 ha hdb he hpl
  constructor
  intro pins s σ H Q I hq
  refine h.run pins s σ H Q I ?_
  simpa only [tCall, tCal, List.append_nil] using hq
theorem pcallG (G : PrG X.prog X.w X.K X.mg X.base x st k ps sp) (hr : Room k X.A) (hgd : X.A.guards = some []) (ha : PA X (e :: es) t) (hg : Gl X x := by rfl) (hdb : (x == ("__debug__" : Str)) = false := by decide)
    (he : starEach (e :: es) X.env = (false, eval e X.env) :: starEach es X.env := by rfl) (hpl : (backTo pos (starEach es X.env)).any (·.1) = false := by rfl) : PE X (.Call (.Name x p) (e :: es) [] pos) (tCal sp t) := by
  obtain ⟨f, fd, F, gl, bd, G⟩ := G
  exact pe_callG G hr hgd hg gl F.kp bd ha hdb he hpl
def tMet (C : Addr) (m : Str) (sp : Sp) (ta : TE) (t : TA) : TE := fun σ H Q => ta σ H fun x H1 => ∃ a dx fs, x = .ref a ∧ H1 a = some (.ins C dx fs) ∧ fs.lookup m = none ∧ t σ H1 fun vs H2 => sp (x :: vs) H2 Q E0
theorem pmeth {pl : Sem Bool} (he : PE X o ta) (c : Cls X.K C) (G : PrM X.prog X.w X.K X.mg X.base C m q st k ps sp) (hr : Room k X.A) (ha : PA X (e :: es) t)
    (hst : starEach (e :: es) X.env = (false, eval e X.env) :: starEach es X.env := by rfl) (hpl : (backTo pos (starEach es X.env)).any (·.1) = false := by rfl)
    (ht : eval (.Call (.Attribute o m apos) (e :: es) [] pos) X.env = (do
      let ov ← eval o X.env
      standAt apos.atName
      let (f, first) ← holding [ov] (getMethod ov m pl)
      callWith pos f first (backTo pos (starEach (e :: es) X.env)) (backToKw pos (keywordEach [] X.env))) := by rfl) :
    PE X (.Call (.Attribute o m apos) (e :: es) [] pos) (tMet C m sp ta t) := by
  obtain ⟨f, fd, F, hm, bd, G⟩ := G
  have h := pe_meth (pl := pl) (pos := pos) (apos := apos) he c hm G hr bd .nil pass0 ha hst hpl ht
  constructor
  intro pins s σ H Q I hq
  refine h.run pins s σ H Q I ?_
  simpa only [tMeth, tMet, List.append_nil] using hq
def tMak (C : Addr) (sp : Sp) (t : TA) : TE := fun σ H Q => t σ H fun vs H1 => ∀ x dx, H1 x = none → H1 dx = none → dx ≠ x → sp (.ref x :: vs) (upd (upd H1 dx (.own x)) x (.ins C dx [])) (fun v H2 => v = .non ∧ Q (.ref x) H2) E0
theorem pmake (G : PrI X.prog X.w X.K X.mg X.base C q st k ps sp) (hm : X.mg x = some (.ref C)) (hr : Room (k + 1) X.A) (ha : PA X (e :: es) t) (hg : Gl X x := by rfl) (hdb : (x == ("__debug__" : Str)) = false := by decide)
    (he : starEach (e :: es) X.env = (false, eval e X.env) :: starEach es X.env := by rfl) (hpl : (backTo pos (starEach es X.env)).any (·.1) = false := by rfl) : PE X (.Call (.Name x p) (e :: es) [] pos) (tMak C sp t) := by
  obtain ⟨f, fd, F, M, bd, G⟩ := G
  have h := pe_make (p := p) (pos := pos) M G hr hg hm bd .nil pass0 ha hdb he hpl
  constructor
  intro pins s σ H Q I hq
  refine h.run pins s σ H Q I ?_
  simpa only [tMake, tMak, List.append_nil] using hq
def tOwn (C : Addr) (sp : Sp) (g : Bool → Bool) (K : PySem.W.Frag) : R2 := rOwnC C sp g K
theorem pOwnEq (G : PrE X.prog X.w X.K X.mg X.base C q st k sp) (hr : Room k X.A) : OpR X (compareOp .Eq) (tOwn C sp id X.K) := by
  obtain ⟨f, fd, F, O, G⟩ := G
  exact op_ownEq G O hr
theorem pOwnNe (G : PrE X.prog X.w X.K X.mg X.base C q st k sp) (hr : Room (k + 1) X.A) : OpR X (compareOp .NotEq) (tOwn C sp (fun c => !c) X.K) := by
  obtain ⟨f, fd, F, O, G⟩ := G
  exact op_ownNe G O hr
def gCN (us ws : List α) : List α := match us, ws with
  | [a], [c, n] => [a, n, c]
  | _, _ => []
theorem kb_read_store {K : PySem.W.Frag} {f : Addr} {fd : FuncData} (F : Fun K "read_store" "read_store" s_read_store f fd) : KBn K fd ["text"] 0 ["text"] (fun us ws => us ++ ws) (fun vs zs => vs ++ zs) := by
  obtain ⟨oc, od, kV, doc, pm, an, cdv, ct, osl, rfl, lk, hcd⟩ := F.ex
  exact kbn_of (fun us ws => us ++ ws) (fun h1 h2 => h1.append h2) (fun us ws h1 h2 => match us, ws, h1, h2 with | [], [_], _, _ => rfl)
theorem kb_arrow {K : PySem.W.Frag} {f : Addr} {fd : FuncData} (F : Fun K "arrow" "Store.arrow" s_arrow f fd) : KBn K fd ["self", "place"] 1 ["place"] (fun us ws => us ++ ws) (fun vs zs => vs ++ zs) := by
  obtain ⟨oc, od, kV, doc, pm, an, cdv, ct, osl, rfl, lk, hcd⟩ := F.ex
  exact kbn_of (fun us ws => us ++ ws) (fun h1 h2 => h1.append h2) (fun us ws h1 h2 => match us, ws, h1, h2 with | [_], [_], _, _ => rfl)
theorem kb_at {K : PySem.W.Frag} {f : Addr} {fd : FuncData} (F : Fun K "at" "Store.at" s_at f fd) : KBn K fd ["self", "letter"] 1 ["letter"] (fun us ws => us ++ ws) (fun vs zs => vs ++ zs) := by
  obtain ⟨oc, od, kV, doc, pm, an, cdv, ct, osl, rfl, lk, hcd⟩ := F.ex
  exact kbn_of (fun us ws => us ++ ws) (fun h1 h2 => h1.append h2) (fun us ws h1 h2 => match us, ws, h1, h2 with | [_], [_], _, _ => rfl)
theorem kb_init {K : PySem.W.Frag} {f : Addr} {fd : FuncData} (F : Fun K "__init__" "Store.__init__" s_init f fd) : KBn K fd ["self", "names", "cells"] 1 ["cells", "names"] (fun us ws => gCN us ws) (fun vs zs => gCN vs zs) := by
  obtain ⟨oc, od, kV, doc, pm, an, cdv, ct, osl, rfl, lk, hcd⟩ := F.ex
  refine kbn_of (fun us ws => gCN us ws) (fun h1 h2 => ?_) (fun us ws h1 h2 => match us, ws, h1, h2 with | [_], [_, _], _, _ => rfl)
  match h1, h2 with
  | .cons a .nil, .cons b (.cons c .nil) => exact .cons a (.cons c (.cons b .nil))
  | .nil, _ => exact .nil
  | .cons _ (.cons _ _), _ => exact .nil
  | .cons _ .nil, .nil => exact .nil
  | .cons _ .nil, .cons _ .nil => exact .nil
  | .cons _ .nil, .cons _ (.cons _ (.cons _ _)) => exact .nil
section
variable {g : List Value → List Value → List Value} {gV : List V → List V → List V}
def tCalN (m : Nat) (sp : Sp) (gV : List V → List V → List V) (tk : TA) : TE := fun σ H Q => tk σ H fun zs H2 => zs.length = m ∧ sp (gV [] zs) H2 Q E0
theorem pcallN0 (G : Pr X.prog X.w X.K X.mg X.base x st k ps sp) (hr : Room k X.A) (hb : ∀ {f : Addr} {fd : FuncData}, Fun X.K x x st f fd → KBn X.K fd ps 0 ks g gV) (hkw : PK X kws tk) (hg : Gl X x := by rfl)
    (hall : (backToKw pos (keywordEach kws X.env)).all (·.1.isSome) = true := by rfl) (hks : (backToKw pos (keywordEach kws X.env)).filterMap (·.1) = ks := by rfl)
    (hdb : (x == ("__debug__" : Str)) = false := by decide) (hpl : ((backTo pos (starEach [] X.env)).any (·.1) || (backToKw pos (keywordEach kws X.env)).any (·.1.isNone)) = false := by rfl) :
    PE X (.Call (.Name x p) [] kws pos) (tCalN ks.length sp gV tk) := by
  obtain ⟨f, fd, F, gl, bd, G⟩ := G
  have h := pe_callN0 (p := p) (pos := pos) G hr hg gl F.kp (hb F) pass0 hkw hall hks hdb hpl
  constructor
  intro pins s σ H Q I hq
  refine h.run pins s σ H Q I ?_
  show tk σ H fun zs H2 => ([] : List V).length = 0 ∧ zs.length = ks.length ∧ sp (gV [] zs) H2 Q E0
  simpa only [tCalN, List.length_nil, true_and] using hq
theorem pmethN0 {pl : Sem Bool} (he : PE X o ta) (c : Cls X.K C) (G : PrM X.prog X.w X.K X.mg X.base C m q st k ps sp) (hr : Room k X.A) (hb : ∀ {f : Addr} {fd : FuncData}, Fun X.K m q st f fd → KBn X.K fd ps 1 ks g gV) (hkw : PK X kws tk)
    (hall : (backToKw pos (keywordEach kws X.env)).all (·.1.isSome) = true := by rfl) (hks : (backToKw pos (keywordEach kws X.env)).filterMap (·.1) = ks := by rfl)
    (hpl : ((backTo pos (starEach [] X.env)).any (·.1) || (backToKw pos (keywordEach kws X.env)).any (·.1.isNone)) = false := by rfl)
    (ht : eval (.Call (.Attribute o m apos) [] kws pos) X.env = (do
      let ov ← eval o X.env
      standAt apos.atName
      let (f, first) ← holding [ov] (getMethod ov m pl)
      callWith pos f first (backTo pos (starEach [] X.env)) (backToKw pos (keywordEach kws X.env))) := by rfl) :
    PE X (.Call (.Attribute o m apos) [] kws pos) (tMethN C m ks.length sp gV E0 ta tk) := by
  obtain ⟨f, fd, F, hm, bd, G⟩ := G
  exact pe_methN0 (pl := pl) he c hm G hr (hb F) pass0 hkw hall hks hpl ht
def tMakN (C : Addr) (m : Nat) (sp : Sp) (gV : List V → List V → List V) (tk : TA) : TE := fun σ H Q => tk σ H fun zs H2 => zs.length = m ∧ ∀ x dx, H2 x = none → H2 dx = none → dx ≠ x →
  sp (gV [.ref x] zs) (upd (upd H2 dx (.own x)) x (.ins C dx [])) (fun v H3 => v = .non ∧ Q (.ref x) H3) E0
theorem pmakeK0 (G : PrI X.prog X.w X.K X.mg X.base C q st k ps sp) (hm : X.mg x = some (.ref C)) (hr : Room (k + 1) X.A) (hb : ∀ {f : Addr} {fd : FuncData}, Fun X.K "__init__" q st f fd → KBn X.K fd ps 1 ks g gV) (hkw : PK X kws tk) (hg : Gl X x := by rfl)
    (hall : (backToKw pos (keywordEach kws X.env)).all (·.1.isSome) = true := by rfl) (hks : (backToKw pos (keywordEach kws X.env)).filterMap (·.1) = ks := by rfl) (hdb : (x == ("__debug__" : Str)) = false := by decide)
    (hpl : ((backTo pos (starEach [] X.env)).any (·.1) || (backToKw pos (keywordEach kws X.env)).any (·.1.isNone)) = false := by rfl) :
    PE X (.Call (.Name x p) [] kws pos) (tMakN C ks.length sp gV tk) := by
  obtain ⟨f, fd, F, M, bd, G⟩ := G
  have h := pe_makeK0 (p := p) (pos := pos) M G hr hg hm (hb F) pass0 hkw hall hks hdb hpl
  constructor
  intro pins s σ H Q I hq
  refine h.run pins s σ H Q I ?_
  show tk σ H fun zs H2 => ([] : List V).length = 0 ∧ zs.length = ks.length ∧ ∀ x dx, H2 x = none → H2 dx = none → dx ≠ x → sp (gV [.ref x] zs) (upd (upd H2 dx (.own x)) x (.ins C dx [])) (fun v H3 => v = .non ∧ Q (.ref x) H3) E0
  simpa only [tMakN, List.length_nil, true_and] using hq
end
end
end K1
/-! Heaps, data, promises. -/
namespace K1
open PySem PySem.Spec L2 Z
/-! ### what never changes -/
def Imm (H H' : Hp) : Prop := (∀ b xs, H b = some (.tup xs) → H' b = some (.tup xs)) ∧ ∀ b o u, H b = some (.frz o u) → H' b = some (.frz o u)
theorem Imm.refl (H : Hp) : Imm H H := ⟨fun _ _ h => h, fun _ _ _ h => h⟩
theorem Imm.trans {H H1 H2 : Hp} (a : Imm H H1) (b : Imm H1 H2) : Imm H H2 := ⟨fun c xs h => b.1 c xs (a.1 c xs h), fun c o u h => b.2 c o u (a.2 c o u h)⟩
theorem Imm.of {H H' : Hp} (e : Same H H') : Imm H H' := ⟨fun b xs h => e b _ h, fun b o u h => e b _ h⟩
theorem same_new {H : Hp} {p : Addr} {o : HO} (h : H p = none) : Same H (upd H p o) := fun b x e => by
  rw [upd_ne (ne_of_none e h)]
  exact e
/-- all but the thing at j is as it was -/
def Chg (j : Addr) (H H' : Hp) : Prop := ∀ b o, H b = some o → b ≠ j → H' b = some o
theorem Chg.refl (j : Addr) (H : Hp) : Chg j H H := fun _ _ h _ => h
theorem Chg.trans {j : Addr} {H H1 H2 : Hp} (a : Chg j H H1) (b : Chg j H1 H2) : Chg j H H2 := fun c o h n => b c o (a c o h n) n
theorem Chg.of {j : Addr} {H H' : Hp} (e : Same H H') : Chg j H H' := fun b o h _ => e b o h
theorem Chg.upd {j : Addr} {H : Hp} {o : HO} : Chg j H (upd H j o) := fun b x e n => by
  rw [upd_ne n]
  exact e
def Mu : HO → Prop
  | .tup _ => False
  | .frz _ _ => False
  | _ => True
theorem Chg.imm {j : Addr} {H H' : Hp} {u : HO} (e : Chg j H H') (h : H j = some u) (m : Mu u) : Imm H H' := by
  refine ⟨fun b xs q => e b _ q fun z => ?_, fun b o x q => e b _ q fun z => ?_⟩
  · subst z
    rw [h] at q
    cases q
    exact m
  · subst z
    rw [h] at q
    cases q
    exact m
theorem SqT.imm {K : PySem.W.Frag} {H H' : Hp} {a : Addr} {xs : List V} (e : Imm H H') (h : SqT K H a xs) : SqT K H' a xs := by
  rcases h with (h | ⟨o, h⟩) | h
  · exact .inl (.inl (e.1 _ _ h))
  · exact .inl (.inr ⟨o, e.2 _ _ _ h⟩)
  · exact .inr h
theorem PT.imm {H H' : Hp} {a : Addr} {xs : List V} (e : Imm H H') (h : PT H a xs) : PT H' a xs := by
  obtain ⟨o, q, ho⟩ := h
  exact ⟨o, e.2 _ _ _ q, ho⟩
theorem SqL.chg {K : PySem.W.Frag} {j : Addr} {H H' : Hp} {a : Addr} {xs : List V} (e : Chg j H H') (n : a ≠ j) (h : SqL K H a xs) : SqL K H' a xs := by
  rcases h with (h | ⟨o, h⟩) | h
  · exact .inl (.inl (e _ _ h n))
  · exact .inl (.inr ⟨o, e _ _ h n⟩)
  · exact .inr h
theorem SqT.ty {K : PySem.W.Frag} {H : Hp} {a : Addr} {xs : List V} (h : SqT K H a xs) : TyX K H (.ref a) (.type "tuple") := by
  rcases h with (h | ⟨o, h⟩) | ⟨o, its, n, h, hc, _⟩
  · exact .base (.tup h)
  · exact .fTuple h
  · exact .kTuple h hc
/-! ### tuples of pairs -/
def TP (K : PySem.W.Frag) (H : Hp) (v : V) (ls : List (V × V)) : Prop := ∃ (a : Addr) (rs : List Addr), v = .ref a ∧ PT H a (rs.map V.ref) ∧ Paired (fun b (p : V × V) => SqT K H b [p.1, p.2]) rs ls
theorem Paired.imm {K : PySem.W.Frag} {H H' : Hp} (e : Imm H H') : ∀ {rs : List Addr} {ls : List (V × V)}, Paired (fun b (p : V × V) => SqT K H b [p.1, p.2]) rs ls → Paired (fun b (p : V × V) => SqT K H' b [p.1, p.2]) rs ls
  | _, _, .nil => .nil
  | _, _, .cons h t => .cons (SqT.imm e h) (Paired.imm e t)
theorem TP.imm {K : PySem.W.Frag} {H H' : Hp} {v : V} {ls : List (V × V)} (e : Imm H H') (h : TP K H v ls) : TP K H' v ls := by
  obtain ⟨a, rs, ev, p, q⟩ := h
  exact ⟨a, rs, ev, PT.imm e p, Paired.imm e q⟩
theorem Paired.len {α β : Type} {F : α → β → Prop} : ∀ {l : List α} {m : List β}, Paired F l m → l.length = m.length
  | _, _, .nil => rfl
  | _, _, .cons _ t => congrArg Nat.succ (Paired.len t)
theorem Paired.at {α β : Type} {F : α → β → Prop} : ∀ {l : List α} {m : List β} {i : Nat} {x : α}, Paired F l m → l[i]? = some x → ∃ y, m[i]? = some y ∧ F x y
  | _, _, _, _, .nil, e => by simp at e
  | _, _, 0, _, .cons h _, e => by
    simp at e
    subst e
    exact ⟨_, rfl, h⟩
  | _, _, i + 1, _, .cons _ t, e => by
    obtain ⟨y, h1, h2⟩ := Paired.at (i := i) t (by simpa using e)
    exact ⟨y, by simpa using h1, h2⟩
theorem Paired.snoc {α β : Type} {F : α → β → Prop} {x : α} {y : β} (h : F x y) : ∀ {l : List α} {m : List β}, Paired F l m → Paired F (l ++ [x]) (m ++ [y])
  | _, _, .nil => .cons h .nil
  | _, _, .cons a t => .cons a (Paired.snoc h t)
theorem Paired.app {α β : Type} {F : α → β → Prop} : ∀ {l l2 : List α} {m m2 : List β}, Paired F l m → Paired F l2 m2 → Paired F (l ++ l2) (m ++ m2)
  | _, _, _, _, .nil, h => h
  | _, _, _, _, .cons a t, h => .cons a (Paired.app t h)
/-- the i-th turn over a tuple of pairs -/
theorem pairs_at {K : PySem.W.Frag} {H : Hp} {rs : List Addr} {ls : List (V × V)} {i : Nat} {x : V} (q : Paired (fun b (p : V × V) => SqT K H b [p.1, p.2]) rs ls) (e : (rs.map V.ref)[i]? = some x) :
    ∃ b p, x = .ref b ∧ rs[i]? = some b ∧ ls[i]? = some p ∧ SqT K H b [p.1, p.2] := by
  rw [List.getElem?_map] at e
  cases hb : rs[i]? with
  | none => rw [hb] at e; cases e
  | some b =>
    rw [hb] at e
    cases e
    obtain ⟨p, h1, h2⟩ := Paired.at q hb
    exact ⟨b, p, rfl, rfl, h1, h2⟩
/-! ### the data of a store -/
def ch (c : Nat) : Str := ⟨#[c]⟩
def nV (p : Nat × Int) : V × V := (.str (ch p.1), .int p.2)
def cV (p : Int × Int) : V × V := (.int p.1, .int p.2)
structure NOk (ns : List (Nat × Int)) : Prop where
  one : 1 ≤ ns.length
  four : ns.length ≤ 4
  let_ : ∀ p ∈ ns, 97 ≤ p.1 ∧ p.1 ≤ 122
  pl : ∀ p ∈ ns, 0 ≤ p.2 ∧ p.2 ≤ 999
  asc : (ns.map (·.1)).Pairwise (· < ·)
structure COk (cs : List (Int × Int)) : Prop where
  few : cs.length ≤ 400
  pl : ∀ p ∈ cs, 1 ≤ p.1 ∧ p.1 ≤ 999 ∧ 0 ≤ p.2 ∧ p.2 ≤ 999
  asc : (cs.map (·.1)).Pairwise (· < ·)
def numS (i : Int) : Str := Str.ofString (toString i)
def nameW (p : Nat × Int) : Str := ch p.1 ++ Str.ofString "=" ++ numS p.2
def cellW (p : Int × Int) : Str := numS p.1 ++ Str.ofString ">" ++ numS p.2
def sp1 : Str := Str.ofString " "
def nTxt (ns : List (Nat × Int)) : Str := Txt.join sp1 (ns.map nameW)
def cTxt (cs : List (Int × Int)) : Str := if cs = [] then Str.ofString "none" else Txt.join sp1 (cs.map cellW)
def stTxt (ns : List (Nat × Int)) (cs : List (Int × Int)) : Str := nTxt ns ++ Str.ofString " | " ++ cTxt cs
def lTxt (ns : List (Nat × Int)) : Str := Txt.join Str.empty (ns.map fun p => ch p.1)
def goals (ns : List (Nat × Int)) (cs : List (Int × Int)) : List Int := ns.map (·.2) ++ cs.map (·.2)
def lookC (cs : List (Int × Int)) (i : Int) : V := match cs.find? (fun p => decide (p.1 = i)) with
  | some p => .int p.2
  | none => .non
def isC (cs : List (Int × Int)) (i : Int) : Bool := cs.any fun p => decide (p.1 = i)
def goneB (ns : List (Nat × Int)) (cs : List (Int × Int)) (i : Int) : Bool := !decide (i = 0) && (!isC cs i && decide (i ∈ goals ns cs))
/-! ### a store -/
def flds (v u : V) (lt tx : Str) (pd ad ld : Addr) : List (Str × V) :=
  [("names", v), ("cells", u), ("letters", .str lt), ("text", .str tx), ("places", .ref pd), ("arrows", .ref ad), ("led_to", .ref ld)]
def kN (ns : List (Nat × Int)) : List (Key × V) := ns.map fun p => (Sum.inr (ch p.1), V.int p.2)
def kC (cs : List (Int × Int)) : List (Key × V) := cs.map fun p => (Sum.inl p.1, V.int p.2)
structure StoreAt (K : PySem.W.Frag) (C : Addr) (H : Hp) (x : Addr) (v u : V) (ns : List (Nat × Int)) (cs : List (Int × Int)) (dx pd ad ld : Addr) (ks : List (Key × V)) : Prop where
  ob : H x = some (.ins C dx (flds v u (lTxt ns) (stTxt ns cs) pd ad ld))
  nm : TP K H v (ns.map nV)
  ce : TP K H u (cs.map cV)
  pd_ : H pd = some (.dK (kN ns))
  ad_ : H ad = some (.dK (kC cs))
  ld_ : H ld = some (.dK ks)
  led : ∀ i : Int, (valV ks (Sum.inl i : Key)).isSome = decide (i ∈ goals ns cs)
  nok : NOk ns
  cok : COk cs
def St (K : PySem.W.Frag) (C : Addr) (H : Hp) (x : Addr) (ns : List (Nat × Int)) (cs : List (Int × Int)) : Prop := ∃ v u dx pd ad ld ks, StoreAt K C H x v u ns cs dx pd ad ld ks
theorem St.same {K : PySem.W.Frag} {C : Addr} {H H' : Hp} {x : Addr} {ns : List (Nat × Int)} {cs : List (Int × Int)} (e : Same H H') (h : St K C H x ns cs) : St K C H' x ns cs := by
  obtain ⟨v, u, dx, pd, ad, ld, ks, S⟩ := h
  exact ⟨v, u, dx, pd, ad, ld, ks, e _ _ S.ob, S.nm.imm (.of e), S.ce.imm (.of e), e _ _ S.pd_, e _ _ S.ad_, e _ _ S.ld_, S.led, S.nok, S.cok⟩
theorem St.chg {K : PySem.W.Frag} {C j : Addr} {H H' : Hp} {x : Addr} {ns : List (Nat × Int)} {cs : List (Int × Int)} {l : List V} (e : Chg j H H') (hj : H j = some (.lst l)) (h : St K C H x ns cs) : St K C H' x ns cs := by
  obtain ⟨v, u, dx, pd, ad, ld, ks, S⟩ := h
  have im : Imm H H' := e.imm hj trivial
  have n : ∀ {b : Addr} {o : HO}, H b = some o → o ≠ .lst l → H' b = some o := fun q d => e _ _ q (ne_of q hj d)
  exact ⟨v, u, dx, pd, ad, ld, ks, n S.ob (fun z => nomatch z), S.nm.imm im, S.ce.imm im, n S.pd_ (fun z => nomatch z), n S.ad_ (fun z => nomatch z), n S.ld_ (fun z => nomatch z), S.led, S.nok, S.cok⟩
/-! ### promises -/
def JugAt (H : Hp) (j : Addr) : Prop := ∃ g s c : Int, H j = some (.lst [.int g, .int s, .int c]) ∧ -(2 ^ 64) < s ∧ s < 2 ^ 64
section
variable (K : PySem.W.Frag) (C : Addr)
def sp_is_number : Sp := fun vs H Q _ => ∃ (i : Int), vs = [.int i] ∧ Q (.bl true) H
def sp_is_whole : Sp := fun vs H Q _ => ∃ (i : Int) (lo : Int) (hi : Int), vs = [.int i, .int lo, .int hi] ∧ lo ≤ i ∧ i ≤ hi ∧ Q (.bl true) H
def sp_is_place : Sp := fun vs H Q _ => ∃ (i : Int), vs = [.int i] ∧ 0 ≤ i ∧ i ≤ 999 ∧ Q (.bl true) H
def sp_is_letter : Sp := fun vs H Q _ => ∃ (c : Nat), vs = [.str (ch c)] ∧ 97 ≤ c ∧ c ≤ 122 ∧ Q (.bl true) H
def sp_is_tuple_of : Sp := fun vs H Q _ => ∃ (a : Addr) (xs : List V), vs = [.ref a, .int (xs.length : Int)] ∧ SqT K H a xs ∧ Q (.bl true) H
def sp_number_in : Sp := fun vs H Q _ => ∃ i : Int, vs = [.str (numS i), .int 999] ∧ 0 ≤ i ∧ i ≤ 999 ∧ Q (.int i) H
def sp_are_store_names : Sp := fun vs H Q _ => ∃ (v : V) (ns : List (Nat × Int)), vs = [v] ∧ TP K H v (ns.map nV) ∧ NOk ns ∧ Q (.bl true) H
def sp_wrong_cell : Sp := fun vs H Q _ => ∃ (v : V) (cs : List (Int × Int)), vs = [v] ∧ TP K H v (cs.map cV) ∧ COk cs ∧ ∀ (H' : Hp), Same H H' → Q .non H'
def sp_store_text : Sp := fun vs H Q _ => ∃ (v : V) (u : V) (ns : List (Nat × Int)) (cs : List (Int × Int)), vs = [v, u] ∧ TP K H v (ns.map nV) ∧ TP K H u (cs.map cV) ∧ NOk ns ∧ COk cs ∧ ∀ (H' : Hp), Same H H' → Q (.str (stTxt ns cs)) H'
def sp_init : Sp := fun vs H Q _ => ∃ (x : Addr) (dx : Addr) (v : V) (u : V) (ns : List (Nat × Int)) (cs : List (Int × Int)), vs = [.ref x, v, u] ∧ H x = some (.ins C dx []) ∧ TP K H v (ns.map nV) ∧ TP K H u (cs.map cV) ∧ NOk ns ∧ COk cs ∧
  ∀ (H' : Hp), St K C H' x ns cs → Chg x H H' → Q .non H'
def sp_take : Sp := fun vs H Q _ => ∃ (x : Addr) (dx : Addr) (v : V) (u : V) (ns : List (Nat × Int)) (cs : List (Int × Int)), vs = [.ref x, v, u] ∧ H x = some (.ins C dx []) ∧ TP K H v (ns.map nV) ∧ TP K H u (cs.map cV) ∧ NOk ns ∧ COk cs ∧
  ∀ (H' : Hp), St K C H' x ns cs → Chg x H H' → Q .non H'
def sp_eq : Sp := fun vs H Q _ => ∃ (x : Addr) (y : V) (ns : List (Nat × Int)) (cs : List (Int × Int)), vs = [.ref x, y] ∧ St K C H x ns cs ∧
  ((∃ (x' : Addr) (ns' : List (Nat × Int)) (cs' : List (Int × Int)), y = .ref x' ∧ St K C H x' ns' cs' ∧ Q (.bl (decide (ns = ns' ∧ cs = cs'))) H) ∨ (((∃ (z : Str), y = .str z) ∨ (∃ (i : Int), y = .int i) ∨ ∃ (a : Addr) (xs : List V), y = .ref a ∧ SqT K H a xs) ∧ Q (.bl false) H))
def sp_at : Sp := fun vs H Q _ => ∃ (x : Addr) (ns : List (Nat × Int)) (cs : List (Int × Int)) (p : Nat × Int), vs = [.ref x, .str (ch p.1)] ∧ St K C H x ns cs ∧ p ∈ ns ∧ Q (.int p.2) H
def sp_arrow : Sp := fun vs H Q _ => ∃ (x : Addr) (ns : List (Nat × Int)) (cs : List (Int × Int)) (i : Int), vs = [.ref x, .int i] ∧ St K C H x ns cs ∧ 0 ≤ i ∧ i ≤ 999 ∧ Q (lookC cs i) H
def sp_is_gone : Sp := fun vs H Q _ => ∃ (x : Addr) (ns : List (Nat × Int)) (cs : List (Int × Int)) (i : Int), vs = [.ref x, .int i] ∧ St K C H x ns cs ∧ 0 ≤ i ∧ i ≤ 999 ∧ Q (.bl (goneB ns cs i)) H
def sp_name_in : Sp := fun vs H Q _ => ∃ p : Nat × Int, vs = [.str (nameW p)] ∧ 97 ≤ p.1 ∧ p.1 ≤ 122 ∧ 0 ≤ p.2 ∧ p.2 ≤ 999 ∧ ∀ (H' : Hp) (b : Addr), Same H H' → H b = none → H' b = some (.tup [(nV p).1, (nV p).2]) → Q (.ref b) H'
def sp_cell_in : Sp := fun vs H Q _ => ∃ p : Int × Int, vs = [.str (cellW p)] ∧ 0 ≤ p.1 ∧ p.1 ≤ 999 ∧ 0 ≤ p.2 ∧ p.2 ≤ 999 ∧ ∀ (H' : Hp) (b : Addr), Same H H' → H b = none → H' b = some (.tup [(cV p).1, (cV p).2]) → Q (.ref b) H'
def sp_read_store : Sp := fun vs H Q _ => ∃ (ns : List (Nat × Int)) (cs : List (Int × Int)), vs = [.str (stTxt ns cs)] ∧ NOk ns ∧ COk cs ∧ ∀ (H' : Hp) (x : Addr), Same H H' → H x = none → St K C H' x ns cs → Q (.ref x) H'
def sp_store_in : Sp := fun vs H Q _ => ∃ (ns : List (Nat × Int)) (cs : List (Int × Int)), vs = [.str (stTxt ns cs)] ∧ NOk ns ∧ COk cs ∧ ∀ (H' : Hp) (x : Addr), Same H H' → H x = none → St K C H' x ns cs → Q (.ref x) H'
def sp_law_jug : Sp := fun vs H Q _ => ∃ (a : Addr) (ns : List Int) (t : Int), vs = [.ref a, .int t] ∧ SqL K H a (ns.map V.int) ∧ 0 ≤ t ∧ t ≤ 1000 ∧ ns.length ≤ 63 ∧ ∀ (H' : Hp) (j : Addr), Same H H' → H j = none → JugAt H' j → Q (.ref j) H'
def sp_law_take : Sp := fun vs H Q _ => ∃ (j : Addr) (m : Int), vs = [.ref j, .int m] ∧ JugAt H j ∧ 1 ≤ m ∧ m < 1000000 ∧ ∀ (H' : Hp) (k : Int), Chg j H H' → JugAt H' j → 0 ≤ k → k < m → Q (.int k) H'
def sp_law_one_of : Sp := fun vs H Q _ => ∃ (j : Addr) (l : Addr) (xs : List V), vs = [.ref j, .ref l] ∧ JugAt H j ∧ l ≠ j ∧ SqL K H l xs ∧ xs ≠ [] ∧ xs.length < 1000000 ∧ ∀ (H' : Hp) (x : V), Chg j H H' → JugAt H' j → x ∈ xs → Q x H'
def sp_law_letters : Sp := fun vs H Q _ => ∃ (j : Addr) (m : Int), vs = [.ref j, .int m] ∧ JugAt H j ∧ 1 ≤ m ∧ m ≤ 4 ∧ ∀ H' p (cs : List Nat), Chg j H H' → JugAt H' j → H p = none → H' p = some (.lst (cs.map fun c => V.str (ch c))) → (cs.length : Int) = m →
  (∀ c ∈ cs, 97 ≤ c ∧ c ≤ 122) → cs.Pairwise (· < ·) → Q (.ref p) H'
def sp_law_drawn_cells : Sp := fun vs H Q _ => ∃ (j : Addr) (m : Int), vs = [.ref j, .int m] ∧ JugAt H j ∧ 0 ≤ m ∧ m ≤ 30 ∧ ∀ H' t pc pg (rs : List Addr) (cs : List (Int × Int)) (gs : List Int), Chg j H H' → JugAt H' j → H' t = some (.tup [.ref pc, .ref pg]) →
  H pc = none → H' pc = some (.lst (rs.map V.ref)) → Paired (fun b (p : V × V) => SqT K H' b [p.1, p.2]) rs (cs.map cV) → H pg = none → H' pg = some (.lst (gs.map V.int)) → gs ≠ [] → gs.length ≤ 100 → (∀ g ∈ gs, 0 ≤ g ∧ g ≤ 999) → COk cs → Q (.ref t) H'
def sp_law_arrows : Sp := fun vs H Q _ => ∃ (u : V) (cs : List (Int × Int)), vs = [u] ∧ TP K H u (cs.map cV) ∧ COk cs ∧ ∀ (H' : Hp) (d : Addr), Same H H' → H d = none → H' d = some (.dK (kC cs)) → Q (.ref d) H'
def sp_law_turned : Sp := fun vs H Q _ => ∃ (j : Addr) (v : V) (u : V) (g : Addr) (ns : List (Nat × Int)) (cs : List (Int × Int)) (gs : List Int), vs = [.ref j, v, u, .ref g] ∧ JugAt H j ∧ g ≠ j ∧ H g = some (.lst (gs.map V.int)) ∧ gs ≠ [] ∧ gs.length ≤ 100 ∧ (∀ i ∈ gs, 0 ≤ i ∧ i ≤ 999) ∧ TP K H v (ns.map nV) ∧ TP K H u (cs.map cV) ∧ NOk ns ∧ COk cs ∧
  ∀ (H' : Hp) (t : Addr) (v' : V) (u' : V) (ns' : List (Nat × Int)) (cs' : List (Int × Int)), Chg j H H' → JugAt H' j → SqT K H' t [v', u'] → TP K H' v' (ns'.map nV) → TP K H' u' (cs'.map cV) → NOk ns' → COk cs' → Q (.ref t) H'
def sp_law_tells : Sp := fun vs H Q _ => ∃ (x : Addr) (v : V) (u : V) (ns : List (Nat × Int)) (cs : List (Int × Int)), vs = [.ref x, v, u] ∧ St K C H x ns cs ∧ TP K H v (ns.map nV) ∧ TP K H u (cs.map cV) ∧ ∀ (H' : Hp), Same H H' → Q (.bl true) H'
def sp_law_places_right : Sp := fun vs H Q _ => ∃ (x : Addr) (v : V) (u : V) (l : Addr) (ns : List (Nat × Int)) (cs : List (Int × Int)) (ps : List Int), vs = [.ref x, v, u, .ref l] ∧ St K C H x ns cs ∧ TP K H v (ns.map nV) ∧ TP K H u (cs.map cV) ∧ H l = some (.lst (ps.map V.int)) ∧ ps ≠ [] ∧ (∀ i ∈ ps, 0 ≤ i ∧ i ≤ 999) ∧ ∀ (H' : Hp), Same H H' → Q (.bl true) H'
def sp_law_right : Sp := fun vs H Q _ => ∃ (j : Addr), vs = [.ref j] ∧ JugAt H j ∧ ∀ (H' : Hp), Chg j H H' → Q (.bl true) H'
def sp_law : Sp := fun vs H Q _ => ∃ (a : Addr) (ns : List Int), vs = [.ref a] ∧ SqL K H a (ns.map V.int) ∧ ns.length ≤ 63 ∧ ∀ (H' : Hp), Q (.bl true) H'
end
end K1
/-! Walks over anything; texts; small lemmas. -/
namespace K1
open PySem PySem.Spec L2 Z
theorem for_it {J : It} {n : Nat} {g : TG} {tb : TS} {D : Ends} {σ : L2.St} {H : Hp} (Pv : Nat → L2.St → Hp → Prop) (h0 : Pv 0 σ H) (go : ∀ i σ H, i < n → Pv i σ H → J.go i H) (stop : ∀ σ H, Pv n σ H → J.stop n H)
    (hs : ∀ i v σ H H', i < n → Pv i σ H → J.yld i H v H' → g v σ H' fun σ2 H2 => tb { D with nx := Pv (i + 1), ct := Pv (i + 1), bk := D.nx } σ2 H2) (hd : ∀ σ H, Pv n σ H → D.nx σ H) :
    ∃ W : Nat → Nat → L2.St → Hp → Prop, (∃ m, W 0 m σ H) ∧ ∀ i m σ H, W i m σ H →
      (J.stop i H ∧ D.nx σ H) ∨ (J.go i H ∧ ∃ N : L2.St → Hp → Prop, (∀ σ' H', N σ' H' → ∃ m', m' < m ∧ W (i + 1) m' σ' H') ∧ ∀ x H', J.yld i H x H' → g x σ H' fun σ2 H2 => tb { D with nx := N, ct := N, bk := D.nx } σ2 H2) := by
  refine ⟨fun i m σ H => m = n - i ∧ i ≤ n ∧ Pv i σ H, ⟨n, by simp, Nat.zero_le _, h0⟩, ?_⟩
  rintro i m σ H ⟨rfl, hi, p⟩
  by_cases hlt : i < n
  · exact .inr ⟨go i σ H hlt p, Pv (i + 1), fun σ' H' p' => ⟨n - (i + 1), by omega, rfl, hlt, p'⟩, fun x H' y => hs i x σ H H' hlt p y⟩
  · have e : i = n := by omega
    subst e
    exact .inl ⟨stop σ H p, hd σ H p⟩
theorem lc_it {J : It} {n : Nat} {g : TG} {tt : TT} {te : TE} {vs : List Nat} {σ : L2.St} {H1 : Hp} {D : Addr} {Qd : Hp → Prop} (Pv : Nat → Hp → Prop) (h0 : Pv 0 (upd H1 D (.lst []))) (go : ∀ i H, i < n → Pv i H → J.go i H) (stop : ∀ H, Pv n H → J.stop n H)
    (hs : ∀ i x H H', i < n → Pv i H → J.yld i H x H' → g x (wipe σ vs) H' fun σ2 H2 => wipe σ2 vs = wipe σ vs ∧ tt σ2 H2 fun b H3 =>
      if b = true then te σ2 H3 fun y H4 => ∃ acc, H4 D = some (.lst acc) ∧ acc.length < sizeLine ∧ Pv (i + 1) (upd H4 D (.lst (acc ++ [y]))) else Pv (i + 1) H3) (hd : ∀ H, Pv n H → Qd H) :
    ∃ W : Nat → Nat → Hp → Prop, (∃ m, W 0 m (upd H1 D (.lst []))) ∧ ∀ i m H, W i m H →
      (J.stop i H ∧ Qd H) ∨ (J.go i H ∧ ∃ Nx : Hp → Prop, (∀ H', Nx H' → ∃ m', m' < m ∧ W (i + 1) m' H') ∧ ∀ x H', J.yld i H x H' → g x (wipe σ vs) H' fun σ2 H2 => wipe σ2 vs = wipe σ vs ∧ tt σ2 H2 fun b H3 =>
        if b = true then te σ2 H3 fun y H4 => ∃ acc, H4 D = some (.lst acc) ∧ acc.length < sizeLine ∧ Nx (upd H4 D (.lst (acc ++ [y]))) else Nx H3) := by
  refine ⟨fun i m H => m = n - i ∧ i ≤ n ∧ Pv i H, ⟨n, by simp, Nat.zero_le _, h0⟩, ?_⟩
  rintro i m H ⟨rfl, hi, p⟩
  by_cases hlt : i < n
  · exact .inr ⟨go i H hlt p, Pv (i + 1), fun H' p' => ⟨n - (i + 1), by omega, rfl, hlt, p'⟩, fun x H' y => hs i x H H' hlt p y⟩
  · have e : i = n := by omega
    subst e
    exact .inl ⟨stop H p, hd H p⟩
theorem lt_none {c : Nat} : decide ((Str.ofString "").cps.toList < (ch c).cps.toList) = true := by
  have e : (Str.ofString "").cps.toList = [] := by decide +kernel
  rw [e]
  exact decide_eq_true (List.nil_lt_cons _ _)
theorem lt_sign {a c : Nat} (h : a < c) : decide ((ch a).cps.toList < (ch c).cps.toList) = true := decide_eq_true (List.cons_lt_cons_iff.mpr (.inl h))
theorem asc_at {α : Type} {f : α → Nat} {ls : List α} (h : (ls.map f).Pairwise (· < ·)) {i : Nat} {p q : α} (e : ls[i]? = some p) (e2 : ls[i + 1]? = some q) : f p < f q := by
  rw [List.pairwise_map] at h
  obtain ⟨h1, rfl⟩ := List.getElem?_eq_some_iff.mp e
  obtain ⟨h2, rfl⟩ := List.getElem?_eq_some_iff.mp e2
  exact List.pairwise_iff_getElem.mp h _ _ h1 h2 (Nat.lt_succ_self _)
theorem asc_atI {α : Type} {f : α → Int} {ls : List α} (h : (ls.map f).Pairwise (· < ·)) {i : Nat} {p q : α} (e : ls[i]? = some p) (e2 : ls[i + 1]? = some q) : f p < f q := by
  rw [List.pairwise_map] at h
  obtain ⟨h1, rfl⟩ := List.getElem?_eq_some_iff.mp e
  obtain ⟨h2, rfl⟩ := List.getElem?_eq_some_iff.mp e2
  exact List.pairwise_iff_getElem.mp h _ _ h1 h2 (Nat.lt_succ_self _)
theorem map_at {α β : Type} {f : α → β} {ls : List α} {i : Nat} {y : β} (e : (ls.map f)[i]? = some y) : ∃ x, ls[i]? = some x ∧ y = f x := by
  rw [List.getElem?_map] at e
  cases h : ls[i]? with
  | none => rw [h] at e; cases e
  | some x => rw [h] at e; exact ⟨x, rfl, (Option.some.inj e).symm⟩
/-- a comprehension over a tuple of pairs that makes nothing -/
theorem lc_pairs {α : Type} {K : PySem.W.Frag} {rs : List Addr} {ls : List α} {a : Addr} {g : TG} {te : TE} {vs : List Nat} {σ : L2.St} {H1 : Hp} {D : Addr} {Qd : Hp → Prop} (emb : α → V × V) (f : α → V)
    (hT : PT H1 a (rs.map V.ref)) (hp : Paired (fun b (p : V × V) => SqT K H1 b [p.1, p.2]) rs (ls.map emb)) (hD : H1 D = none) (hz : ls.length ≤ 1000)
    (hs : ∀ b p H (R : V → Hp → Prop), Same H1 H → SqT K H b [(emb p).1, (emb p).2] → p ∈ ls → R (f p) H → g (.ref b) (wipe σ vs) H fun σ2 H2 => wipe σ2 vs = wipe σ vs ∧ te σ2 H2 R)
    (hd : ∀ H, Same H1 H → H D = some (.lst (ls.map f)) → Qd H) :
    ∃ W : Nat → Nat → Hp → Prop, (∃ m, W 0 m (upd H1 D (.lst []))) ∧ ∀ i m H, W i m H →
      ((Itt K a).stop i H ∧ Qd H) ∨ ((Itt K a).go i H ∧ ∃ Nx : Hp → Prop, (∀ H', Nx H' → ∃ m', m' < m ∧ W (i + 1) m' H') ∧ ∀ x H', (Itt K a).yld i H x H' → g x (wipe σ vs) H' fun σ2 H2 => wipe σ2 vs = wipe σ vs ∧ tYes σ2 H2 fun b H3 =>
        if b = true then te σ2 H3 fun y H4 => ∃ acc, H4 D = some (.lst acc) ∧ acc.length < sizeLine ∧ Nx (upd H4 D (.lst (acc ++ [y]))) else Nx H3) := by
  have hl : rs.length = ls.length := by rw [Paired.len hp, List.length_map]
  refine lc_tup (xs := rs.map V.ref) (fun i H => Same H1 H ∧ H D = some (.lst ((ls.take i).map f))) ⟨same_new hD, upd_same⟩ (fun i H _ h => (PT.same h.1 hT).sq) (fun i x H hx h => ?_) (fun H h => hd H h.1 ?_)
  · obtain ⟨sm, hDl⟩ := h
    obtain ⟨b, p, rfl, e1, e2, hq⟩ := pairs_at (Paired.imm (.of sm) hp) hx
    obtain ⟨q, e3, rfl⟩ := map_at e2
    have hi : i < ls.length := (List.getElem?_eq_some_iff.mp e3).1
    refine hs b q H (fun y H4 => ∃ acc, H4 D = some (.lst acc) ∧ acc.length < sizeLine ∧ Same H1 (upd H4 D (.lst (acc ++ [y]))) ∧ upd H4 D (.lst (acc ++ [y])) D = some (.lst ((ls.take (i + 1)).map f))) sm hq (List.mem_of_getElem? e3) ⟨_, hDl, ?_, fun c o e => ?_, ?_⟩
    · rw [List.length_map, List.length_take]
      exact small1000 (by omega)
    · have nb : c ≠ D := ne_of_none e hD
      rw [upd_ne nb]
      exact sm _ _ e
    · rw [upd_same, List.take_add_one, e3, List.map_append]
      rfl
  · have := h.2
    rw [List.length_map, hl, List.take_length] at this
    exact this
theorem lcP {α : Type} {K : PySem.W.Frag} {rs : List Addr} {ls : List α} {a : Addr} {i : Nat} {g : TG} {te : TE} {vs : List Nat} {σ : L2.St} {H : Hp} {Q : VK} (emb : α → V × V) (f : α → V) (hv : σ[i]? = some (some (.ref a)))
    (hT : PT H a (rs.map V.ref)) (hp : Paired (fun b (p : V × V) => SqT K H b [p.1, p.2]) rs (ls.map emb)) (hz : ls.length ≤ 1000)
    (hs : ∀ b p H' (R : V → Hp → Prop), Same H H' → SqT K H' b [(emb p).1, (emb p).2] → p ∈ ls → R (f p) H' → g (.ref b) (wipe σ vs) H' fun σ2 H2 => wipe σ2 vs = wipe σ vs ∧ te σ2 H2 R)
    (hd : ∀ H' D, Same H H' → H D = none → H' D = some (.lst (ls.map f)) → Q (.ref D) H') : tLc (iTup K (tVar i)) g tYes te vs σ H Q :=
  ⟨_, hv, a, rfl, ⟨_, hT.sq⟩, fun D hD => lc_pairs emb f hT hp hD hz hs fun H' sm hl => hd H' D sm hD hl⟩
/-- a walk over a tuple of pairs -/
theorem for_pairs {K : PySem.W.Frag} {rs : List Addr} {ls : List (V × V)} {a : Addr} {g : TG} {tb : TS} {D : Ends} {σ : L2.St} {H H0 : Hp} (Pv : Nat → L2.St → Hp → Prop) (h0 : Pv 0 σ H)
    (hT : PT H0 a (rs.map V.ref)) (hp : Paired (fun b (p : V × V) => SqT K H0 b [p.1, p.2]) rs ls) (hI : ∀ i σ H, Pv i σ H → Imm H0 H)
    (hs : ∀ i b p σ H, rs[i]? = some b → ls[i]? = some p → SqT K H b [p.1, p.2] → Pv i σ H → g (.ref b) σ H fun σ2 H2 => tb { D with nx := Pv (i + 1), ct := Pv (i + 1), bk := D.nx } σ2 H2) (hd : ∀ σ H, Pv ls.length σ H → D.nx σ H) :
    ∃ W : Nat → Nat → L2.St → Hp → Prop, (∃ m, W 0 m σ H) ∧ ∀ i m σ H, W i m σ H →
      ((Itt K a).stop i H ∧ D.nx σ H) ∨ ((Itt K a).go i H ∧ ∃ N : L2.St → Hp → Prop, (∀ σ' H', N σ' H' → ∃ m', m' < m ∧ W (i + 1) m' σ' H') ∧ ∀ x H', (Itt K a).yld i H x H' → g x σ H' fun σ2 H2 => tb { D with nx := N, ct := N, bk := D.nx } σ2 H2) := by
  have hl : rs.length = ls.length := Paired.len hp
  refine for_it (n := ls.length) Pv h0 (fun i σ H hi p => ⟨rs.map V.ref, (rs.map V.ref)[i]'(by simpa using hl ▸ hi), (PT.imm (hI _ _ _ p) hT).sq, List.getElem?_eq_getElem _⟩) (fun σ H p => ⟨rs.map V.ref, (PT.imm (hI _ _ _ p) hT).sq, by simp [hl]⟩) (fun i v σ H H' hi p y => ?_) hd
  obtain ⟨rfl, y⟩ := y
  obtain ⟨b, q, rfl, e1, e2, hq⟩ := pairs_at (Paired.imm (hI _ _ _ p) hp) (y _ (PT.imm (hI _ _ _ p) hT).sq)
  exact hs i b q σ H' e1 e2 hq p
/-- the same, each with its place -/
theorem for_enumP {K : PySem.W.Frag} {rs : List Addr} {ls : List (V × V)} {a : Addr} {g : TG} {tb : TS} {D : Ends} {σ : L2.St} {H H0 : Hp} (Pv : Nat → L2.St → Hp → Prop) (h0 : Pv 0 σ H)
    (hT : PT H0 a (rs.map V.ref)) (hp : Paired (fun b (p : V × V) => SqT K H0 b [p.1, p.2]) rs ls) (hI : ∀ i σ H, Pv i σ H → Same H0 H)
    (hs : ∀ i b p σ H t, rs[i]? = some b → ls[i]? = some p → SqT K H b [p.1, p.2] → Pv i σ H → H t = none → g (.ref t) σ (upd H t (.tup [.int (i : Nat), .ref b])) fun σ2 H2 => tb { D with nx := Pv (i + 1), ct := Pv (i + 1), bk := D.nx } σ2 H2) (hd : ∀ σ H, Pv ls.length σ H → D.nx σ H) :
    ∃ W : Nat → Nat → L2.St → Hp → Prop, (∃ m, W 0 m σ H) ∧ ∀ i m σ H, W i m σ H →
      ((IteT K a).stop i H ∧ D.nx σ H) ∨ ((IteT K a).go i H ∧ ∃ N : L2.St → Hp → Prop, (∀ σ' H', N σ' H' → ∃ m', m' < m ∧ W (i + 1) m' σ' H') ∧ ∀ x H', (IteT K a).yld i H x H' → g x σ H' fun σ2 H2 => tb { D with nx := N, ct := N, bk := D.nx } σ2 H2) := by
  have hl : rs.length = ls.length := Paired.len hp
  refine for_it (n := ls.length) Pv h0 (fun i σ H hi p => ⟨rs.map V.ref, (rs.map V.ref)[i]'(by simpa using hl ▸ hi), (PT.same (hI _ _ _ p) hT).sq, List.getElem?_eq_getElem _⟩) (fun σ H p => ⟨rs.map V.ref, (PT.same (hI _ _ _ p) hT).sq, by simp [hl]⟩) (fun i v σ H H' hi p y => ?_) hd
  obtain ⟨t, x, rfl, hn, rfl, y⟩ := y
  obtain ⟨b, q, rfl, e1, e2, hq⟩ := pairs_at (Paired.imm (.of (hI _ _ _ p)) hp) (y _ (PT.same (hI _ _ _ p) hT).sq)
  exact hs i b q σ H t e1 e2 hq p hn
/-! ### numbers as texts -/
theorem numS_nat {i : Int} (h : 0 ≤ i) : numS i = Str.ofString (toString ((i.toNat : Nat) : Int)) := by
  unfold numS
  rw [Int.toNat_of_nonneg h]
theorem tl_numS {i : Int} (h : 0 ≤ i) : TL.tl (numS i) = TL.numL i.toNat := by
  rw [numS_nat h]
  exact TL.tl_num _
theorem num_facts : ∀ n : Fin 1000, (TL.numL n.val).length ≤ 3 ∧ TL.numL n.val ≠ [] ∧ (TL.numL n.val = [48] ∨ (TL.numL n.val)[0]? ≠ some 48) := by decide +kernel
theorem num_len {i : Int} (h : 0 ≤ i) (h2 : i ≤ 999) : (numS i).length ≤ 3 := by
  rw [TL.len_tl, tl_numS h]
  exact (num_facts ⟨i.toNat, by omega⟩).1
theorem num_pos {i : Int} (h : 0 ≤ i) (h2 : i ≤ 999) : 1 ≤ (numS i).length := by
  rw [TL.len_tl, tl_numS h]
  have := (num_facts ⟨i.toNat, by omega⟩).2.1
  exact List.length_pos_iff.mpr this
theorem digit_in {c : Nat} (h1 : 48 ≤ c) (h2 : c ≤ 57) : decide (c ∈ (Str.ofString "0123456789").cps.toList) = true := by
  have e : (Str.ofString "0123456789").cps.toList = (List.range 10).map (· + 48) := by decide +kernel
  rw [e]
  exact decide_eq_true (List.mem_map.mpr ⟨c - 48, List.mem_range.mpr (by omega), by omega⟩)
theorem letter_in {c : Nat} (h1 : 97 ≤ c) (h2 : c ≤ 122) : decide (c ∈ (Str.ofString "abcdefghijklmnopqrstuvwxyz").cps.toList) = true := by
  have e : (Str.ofString "abcdefghijklmnopqrstuvwxyz").cps.toList = (List.range 26).map (· + 97) := by decide +kernel
  rw [e]
  exact decide_eq_true (List.mem_map.mpr ⟨c - 97, List.mem_range.mpr (by omega), by omega⟩)
theorem num_int {i : Int} (h : 0 ≤ i) (h2 : i ≤ 999) : PySem.intText? (numS i) = some i := by
  rw [numS_nat h, TL.int_num, Int.toNat_of_nonneg h]
  exact Nat.le_trans (num_facts ⟨i.toNat, by omega⟩).1 (by decide)
theorem num_log {i : Int} (h : 0 ≤ i) (h2 : i ≤ 999) : i.natAbs.log2 < 1920 := by
  have e : i.natAbs.log2 ≤ i.natAbs := Nat.log2_le_self _
  omega
theorem str_ne {x y : Str} (h : TL.tl x ≠ TL.tl y) : decide (V.str x = V.str y) = false := decide_eq_false fun e => h (by cases e; rfl)
theorem z0_tl : TL.tl (Str.ofString "0") = [48] := by decide +kernel
theorem e_tl : TL.tl (Str.ofString "") = [] := by decide +kernel
theorem n999 : (Str.ofString (toString (999 : Int))).length = 3 := by decide +kernel
theorem num_dig {i : Int} (h : 0 ≤ i) : ∀ c ∈ TL.tl (numS i), 48 ≤ c ∧ c ≤ 57 := fun c hc => by
  rw [tl_numS h] at hc
  refine ⟨?_, ?_⟩
  · by_cases z : c < 48
    · exact absurd hc (TL.numL_free (.inl z))
    · omega
  · by_cases z : 57 < c
    · exact absurd hc (TL.numL_free (.inr z))
    · omega
theorem num_head {i : Int} (h : 0 ≤ i) (h2 : i ≤ 999) : ∃ c t, TL.tl (numS i) = c :: t ∧ (c = 48 → numS i = Str.ofString "0") := by
  have F := num_facts ⟨i.toNat, by omega⟩
  have e := tl_numS h
  rcases hx : TL.tl (numS i) with _ | ⟨c, t⟩
  · exact absurd (e.symm.trans hx) F.2.1
  · refine ⟨c, t, rfl, fun z => ?_⟩
    subst z
    have hx2 := e.symm.trans hx
    rcases F.2.2 with q | q
    · apply TL.ext_tl
      rw [z0_tl, e]
      exact q
    · exact absurd (by rw [hx2]; rfl) q
theorem at_nat {α : Type} {xs : List α} {i : Nat} {x : α} (h : xs[i]? = some x) : atI xs (i : Int) = some x := by
  have hi : i < xs.length := (List.getElem?_eq_some_iff.mp h).1
  have e : ixN xs.length (i : Int) = some i := by
    unfold ixN
    rw [if_pos (by omega), if_pos (by omega)]
    rfl
  show (ixN xs.length (i : Int)).bind _ = _
  rw [e]
  exact h
theorem at_first {α : Type} {xs : List α} {x : α} : atI (x :: xs) 0 = some x := at_nat (i := 0) rfl
theorem at_snd {α : Type} {xs : List α} {x y : α} : atI (x :: y :: xs) 1 = some y := at_nat (i := 1) rfl
theorem asc_uniq {α β : Type} {f : α → β} {R : β → β → Prop} (irr : ∀ b, ¬ R b b) : ∀ {ls : List α}, (ls.map f).Pairwise R → ∀ {p q : α}, p ∈ ls → q ∈ ls → f p = f q → p = q
  | x :: t, h, p, q, hp, hq, e => by
    rw [List.map_cons, List.pairwise_cons] at h
    rcases List.mem_cons.mp hp with rfl | hp' <;> rcases List.mem_cons.mp hq with rfl | hq'
    · rfl
    · exact absurd (e ▸ h.1 (f q) (List.mem_map_of_mem hq')) (irr _)
    · exact absurd (e ▸ h.1 (f p) (List.mem_map_of_mem hp')) (irr _)
    · exact asc_uniq irr h.2 hp' hq' e
theorem val_n {ns : List (Nat × Int)} (ok : NOk ns) {p : Nat × Int} (h : p ∈ ns) : valV (kN ns) (Sum.inr (ch p.1) : Key) = some (.int p.2) := by
  unfold valV kN
  rw [List.find?_map]
  cases hf : ns.find? ((fun kv : Key × V => decide (kv.1 = Sum.inr (ch p.1))) ∘ fun p => (Sum.inr (ch p.1), V.int p.2)) with
  | none =>
    have := List.find?_eq_none.mp hf p h
    simp at this
  | some q =>
    have h1 := List.find?_some hf
    have h2 := List.mem_of_find?_eq_some hf
    have e : q.1 = p.1 := by
      simp only [Function.comp, decide_eq_true_eq, Sum.inr.injEq] at h1
      have := congrArg (fun s : Str => s.cps.toList) h1
      simpa [ch] using this
    have := asc_uniq (f := fun p : Nat × Int => p.1) (fun b => Nat.lt_irrefl b) ok.asc h2 h e
    subst this
    rfl
theorem find_c (cs : List (Int × Int)) (i : Int) : valV (kC cs) (Sum.inl i : Key) = (cs.find? fun p => decide (p.1 = i)).map fun p => V.int p.2 := by
  unfold valV kC
  rw [List.find?_map, Option.map_map]
  have e : ((fun kv : Key × V => decide (kv.1 = Sum.inl i)) ∘ fun p : Int × Int => ((Sum.inl p.1 : Key), V.int p.2)) = fun p => decide (p.1 = i) := by
    funext p
    simp
  rw [e]
  rfl
theorem look_c (cs : List (Int × Int)) (i : Int) : (valV (kC cs) (Sum.inl i : Key)).getD .non = lookC cs i := by
  rw [find_c]
  unfold lookC
  cases cs.find? fun p => decide (p.1 = i) <;> rfl
theorem some_c (cs : List (Int × Int)) (i : Int) : (valV (kC cs) (Sum.inl i : Key)).isSome = isC cs i := by
  rw [find_c, Option.isSome_map]
  unfold isC
  rw [Bool.eq_iff_iff, List.find?_isSome, List.any_eq_true]
theorem ch_len (c : Nat) : (ch c).length = 1 := rfl
theorem len_app (a b : Str) : (a ++ b).length = a.length + b.length := by
  rw [TL.len_tl, TL.len_tl, TL.len_tl, TL.tl_append, List.length_append]
theorem emp_app (a : Str) : Str.empty ++ a = a := TL.ext_tl (by rw [TL.tl_append]; rfl)
theorem nameW_len {p : Nat × Int} (h : 0 ≤ p.2) (h2 : p.2 ≤ 999) : (nameW p).length ≤ 5 := by
  have := num_len h h2
  have e : (Str.ofString "=").length = 1 := by decide +kernel
  unfold nameW
  rw [len_app, len_app, ch_len, e]
  omega
theorem cellW_len {p : Int × Int} (h : 0 ≤ p.1) (h2 : p.1 ≤ 999) (h3 : 0 ≤ p.2) (h4 : p.2 ≤ 999) : (cellW p).length ≤ 7 := by
  have a := num_len h h2
  have b := num_len h3 h4
  have e : (Str.ofString ">").length = 1 := by decide +kernel
  unfold cellW
  rw [len_app, len_app, e]
  omega
theorem eq1_len : (Str.ofString "=").length = 1 := by decide +kernel
theorem gt1_len : (Str.ofString ">").length = 1 := by decide +kernel
theorem sp1_len : (Str.ofString " ").length = 1 := by decide +kernel
theorem bar_len : (Str.ofString " | ").length = 3 := by decide +kernel
theorem none_len : (Str.ofString "none").length = 4 := by decide +kernel
theorem nameW_eq (p : Nat × Int) : Str.empty ++ ch p.1 ++ Str.ofString "=" ++ Str.ofString (toString p.2) = nameW p := by
  rw [emp_app]
  rfl
theorem cellW_eq (p : Int × Int) : Str.empty ++ Str.ofString (toString p.1) ++ Str.ofString ">" ++ Str.ofString (toString p.2) = cellW p := by
  rw [emp_app]
  rfl
theorem sum_len {k : Nat} : ∀ {ys : List Str}, (∀ y ∈ ys, y.length ≤ k) → (ys.map fun x => x.length).sum ≤ k * ys.length
  | [], _ => by simp
  | y :: t, h => by
    have := sum_len (ys := t) fun z hz => h z (List.mem_cons_of_mem _ hz)
    have h1 := h y List.mem_cons_self
    rw [List.map_cons, List.sum_cons, List.length_cons, Nat.mul_succ]
    omega
theorem tl_glue (y : Str) (l : List Str) : TL.tl (Txt.join y l) = TL.joinL (TL.tl y) (l.map TL.tl) := by
  rw [TL.join_eq, TL.tl_join]
theorem joinL_len {k : Nat} {S : List Nat} : ∀ {l : List (List Nat)}, (∀ y ∈ l, y.length ≤ k) → (TL.joinL S l).length ≤ (k + S.length) * l.length
  | [], _ => by simp [TL.joinL]
  | [y], h => by
    have := h y List.mem_cons_self
    simp only [TL.joinL, List.length_cons, List.length_nil]
    omega
  | y :: z :: t, h => by
    have h1 := h y List.mem_cons_self
    have h2 := joinL_len (S := S) (l := z :: t) fun q hq => h q (List.mem_cons_of_mem _ hq)
    simp only [TL.joinL, List.length_append, List.length_cons, Nat.mul_succ] at h2 ⊢
    omega
theorem glue_len {k : Nat} {y : Str} {l : List Str} (h : ∀ z ∈ l, z.length ≤ k) : (Txt.join y l).length ≤ (k + y.length) * l.length := by
  have := joinL_len (k := k) (S := TL.tl y) (l := l.map TL.tl) fun z hz => by
    obtain ⟨q, hq, rfl⟩ := List.mem_map.mp hz
    rw [← TL.len_tl]
    exact h q hq
  rw [TL.len_tl, tl_glue, TL.len_tl y]
  rw [List.length_map] at this
  exact this
theorem nTxt_len {ns : List (Nat × Int)} (ok : NOk ns) : (nTxt ns).length ≤ 24 := by
  have h := glue_len (k := 5) (y := sp1) (l := ns.map nameW) fun y hy => by
    obtain ⟨p, hp, rfl⟩ := List.mem_map.mp hy
    exact nameW_len (ok.pl p hp).1 (ok.pl p hp).2
  have e : sp1.length = 1 := sp1_len
  have := ok.four
  rw [List.length_map, e] at h
  unfold nTxt
  omega
theorem cs_le {cs : List (Int × Int)} (ok : COk cs) : ∀ y ∈ cs.map cellW, y.length ≤ 7 := fun y hy => by
  obtain ⟨p, hp, rfl⟩ := List.mem_map.mp hy
  obtain ⟨a, b, c, d⟩ := ok.pl p hp
  exact cellW_len (by omega) b c d
theorem cTxt_len {cs : List (Int × Int)} (ok : COk cs) : (cTxt cs).length ≤ 3204 := by
  have h := glue_len (k := 7) (y := sp1) (l := cs.map cellW) (cs_le ok)
  have e : sp1.length = 1 := sp1_len
  have := ok.few
  have e2 := none_len
  rw [List.length_map, e] at h
  unfold cTxt
  split
  · omega
  · omega
theorem glue_nil {y : Str} : Txt.join y [] = Str.empty := TL.ext_tl (by rw [tl_glue]; rfl)
theorem glue_pos {k : Nat} {S : List Nat} : ∀ {l : List (List Nat)}, l ≠ [] → (∀ y ∈ l, 1 ≤ y.length) → 1 ≤ (TL.joinL S l).length
  | [y], _, h => h y List.mem_cons_self
  | y :: z :: t, _, h => by
    have h1 := h y List.mem_cons_self
    simp only [TL.joinL, List.length_append]
    omega
theorem cells_pos {cs : List (Int × Int)} (h : cs ≠ []) : 1 ≤ (Txt.join sp1 (cs.map cellW)).length := by
  rw [TL.len_tl, tl_glue]
  refine glue_pos (k := 0) (by simpa using h) fun y hy => ?_
  obtain ⟨q, hq, rfl⟩ := List.mem_map.mp hy
  obtain ⟨p, hp, rfl⟩ := List.mem_map.mp hq
  rw [← TL.len_tl]
  unfold cellW
  rw [len_app, len_app, gt1_len]
  omega
theorem none_of {H H' : Hp} {b : Addr} (e : Same H H') (h : H' b = none) : H b = none := by
  cases q : H b with
  | none => rfl
  | some o => rw [e _ _ q] at h; cases h
theorem sl_le {n : Nat} (h : n ≤ 100000) : n ≤ sizeLine := by
  rw [sizeLine_eq]
  omega
end K1
/-! Data: what it shows, when it is alike. -/
namespace K1
open PySem PySem.Spec L2 Z
def nP (p : Nat × Int) : PyData := .tuple [.str (ch p.1), .int p.2]
def cP (p : Int × Int) : PyData := .tuple [.int p.1, .int p.2]
def nD (ns : List (Nat × Int)) : PyData := .tuple (ns.map nP)
def cD (cs : List (Int × Int)) : PyData := .tuple (cs.map cP)
theorem dp_pairs {α : Type} {K : PySem.W.Frag} {H : Hp} {emb : α → V × V} {dat : α → PyData} (go : ∀ b p, SqT K H b [(emb p).1, (emb p).2] → Dp K H (.ref b) (dat p)) :
    ∀ {rs : List Addr} {ls : List α}, Paired (fun b (p : V × V) => SqT K H b [p.1, p.2]) rs (ls.map emb) → DpAll K H (rs.map V.ref) (ls.map dat)
  | [], [], _ => .nil
  | _ :: _, _ :: _, .cons h t => .cons (go _ _ h) (dp_pairs go t)
theorem dp_n {K : PySem.W.Frag} {H : Hp} {v : V} {ns : List (Nat × Int)} (h : TP K H v (ns.map nV)) : Dp K H v (nD ns) := by
  obtain ⟨a, rs, rfl, ht, hp⟩ := h
  exact .tup ht.sq (dp_pairs (dat := nP) (fun b p q => .tup q (.cons (.str _) (.cons (.int _) .nil))) hp)
theorem dp_c {K : PySem.W.Frag} {H : Hp} {v : V} {cs : List (Int × Int)} (h : TP K H v (cs.map cV)) : Dp K H v (cD cs) := by
  obtain ⟨a, rs, rfl, ht, hp⟩ := h
  exact .tup ht.sq (dp_pairs (dat := cP) (fun b p q => .tup q (.cons (.int _) (.cons (.int _) .nil))) hp)
theorem dp_ints {K : PySem.W.Frag} {H : Hp} : ∀ xs : List Int, DpAll K H (xs.map V.int) (xs.map PyData.int)
  | [] => .nil
  | _ :: t => .cons (.int _) (dp_ints t)
theorem eqv_all {α : Type} [DecidableEq α] {dat : α → PyData} (go : ∀ a b, (dat a).eqv (dat b) = decide (a = b)) : ∀ l m : List α, PyData.eqvAll (l.map dat) (m.map dat) = decide (l = m)
  | [], [] => by simp [PyData.eqvAll]
  | [], _ :: _ => by simp [PyData.eqvAll]
  | _ :: _, [] => by simp [PyData.eqvAll]
  | a :: l, b :: m => by
    rw [List.map_cons, List.map_cons, PyData.eqvAll, go, eqv_all go l m, Bool.eq_iff_iff]
    simp
theorem ch_inj {a b : Nat} : (ch a == ch b) = decide (a = b) := by
  rw [Bool.eq_iff_iff]
  simp only [beq_iff_eq, decide_eq_true_eq]
  refine ⟨fun e => ?_, fun e => by rw [e]⟩
  have := congrArg (fun s : Str => s.cps.toList) e
  simpa [ch] using this
theorem eqv_n (l m : List (Nat × Int)) : (nD l).eqv (nD m) = decide (l = m) := by
  refine Eq.trans (by simp only [nD, PyData.eqv]) (eqv_all (dat := nP) (fun a b => ?_) l m)
  simp only [nP, PyData.eqv, PyData.eqvAll, ch_inj, Bool.and_true]
  rw [Bool.eq_iff_iff]
  simp only [Bool.and_eq_true, decide_eq_true_eq, beq_iff_eq]
  exact ⟨fun h => Prod.ext h.1 h.2, fun h => by rw [h]; exact ⟨rfl, rfl⟩⟩
theorem eqv_c (l m : List (Int × Int)) : (cD l).eqv (cD m) = decide (l = m) := by
  refine Eq.trans (by simp only [cD, PyData.eqv]) (eqv_all (dat := cP) (fun a b => ?_) l m)
  simp only [cP, PyData.eqv, PyData.eqvAll, Bool.and_true]
  rw [Bool.eq_iff_iff]
  simp only [Bool.and_eq_true, decide_eq_true_eq, beq_iff_eq]
  exact ⟨fun h => Prod.ext h.1 h.2, fun h => by rw [h]; exact ⟨rfl, rfl⟩⟩
/-- small: what it shows, how deep it is -/
structure Fit (d : PyData) (n m : Nat) : Prop where
  len : d.shown.length ≤ n
  ok : d.showable = true
  nod : d.hasDict = false
  dep : d.depth ≤ m
theorem fit_le {d : PyData} {n m n' m' : Nat} (h : Fit d n m) (a : n ≤ n') (b : m ≤ m') : Fit d n' m' := ⟨Nat.le_trans h.len a, h.ok, h.nod, Nat.le_trans h.dep b⟩
theorem fit_non : Fit .none 5 0 := ⟨by decide +kernel, rfl, rfl, Nat.le_refl _⟩
theorem fit_bl (b : Bool) : Fit (.bool b) 5 0 := ⟨by cases b <;> decide +kernel, rfl, rfl, Nat.le_refl _⟩
theorem fit_int {i : Int} (h : 0 ≤ i) (h2 : i ≤ 999) : Fit (.int i) 5 0 := ⟨by
  have := num_len h h2
  show (Str.ofString (toString i)).length ≤ 5
  unfold numS at this
  omega, by show decide _ = true; exact decide_eq_true (num_log h h2), rfl, Nat.le_refl _⟩
theorem fit_str {x : Str} {n : Nat} (h : ∀ c ∈ TL.tl x, c < 16 ^ 8) (hn : x.length ≤ n) : Fit (.str x) (10 * n + 2) 0 := ⟨by
  have := StrLaws.reprText_len x h
  show (reprText x).length ≤ _
  omega, rfl, rfl, Nat.le_refl _⟩
theorem fit_all {k m : Nat} : ∀ {ds : List PyData}, (∀ d ∈ ds, Fit d k m) → ((PyData.shownAll ds).map (·.length)).sum ≤ k * ds.length ∧ (PyData.shownAll ds).length = ds.length ∧ PyData.showableAll ds = true ∧ PyData.hasDictAll ds = false ∧ PyData.depthAll ds ≤ m
  | [], _ => ⟨by simp [PyData.shownAll], by simp [PyData.shownAll], by simp [PyData.showableAll], by simp [PyData.hasDictAll], by simp [PyData.depthAll]⟩
  | d :: t, h => by
    obtain ⟨a, b, c, e, f⟩ := fit_all (ds := t) fun x hx => h x (List.mem_cons_of_mem _ hx)
    have q := h d List.mem_cons_self
    have q1 := q.len
    have q4 := q.dep
    refine ⟨?_, ?_, ?_, ?_, ?_⟩
    · simp only [PyData.shownAll, List.map_cons, List.sum_cons, List.length_cons, Nat.mul_succ]
      omega
    · simp only [PyData.shownAll, List.length_cons, b]
    · simp only [PyData.showableAll, q.ok, c, Bool.and_true]
    · simp only [PyData.hasDictAll, q.nod, e, Bool.or_false]
    · simp only [PyData.depthAll]
      omega
theorem fit_list {k m : Nat} {ds : List PyData} (h : ∀ d ∈ ds, Fit d k m) : Fit (.list ds) ((k + 2) * ds.length + 3) (m + 1) := by
  obtain ⟨a, b, c, e, f⟩ := fit_all h
  have l := listText_len_le (PyData.shownAll ds)
  refine ⟨?_, ?_, ?_, ?_⟩
  · simp only [PyData.shown]
    rw [b] at l
    rw [Nat.add_mul]
    omega
  · simp only [PyData.showable, c]
  · simp only [PyData.hasDict, e]
  · simp only [PyData.depth]
    omega
theorem piled_sum (ts : List Str) : piled ts = (ts.map (·.length)).sum + 2 * ts.length := by
  induction ts with
  | nil => rfl
  | cons t r ih => rw [piled_cons, ih, List.map_cons, List.sum_cons, List.length_cons]; omega
theorem tup_len (ts : List Str) : (tupleText ts).length ≤ (ts.map (·.length)).sum + 2 * ts.length + 3 := by
  unfold tupleText
  rw [len_app, len_app]
  have e1 : (("(" : Str)).length = 1 := by decide +kernel
  have e2 : ((if ts.length == 1 then ",)" else ")" : String) : Str).length ≤ 2 := by
    split <;> decide +kernel
  rw [e1]
  rcases ts with _ | ⟨t, r⟩
  · have e3 : (Str.join ", " ([] : List Str)).length = 0 := rfl
    rw [e3]
    omega
  · have := join_length_add (t :: r) (by simp)
    rw [piled_sum] at this
    omega
theorem fit_tup {k m : Nat} {ds : List PyData} (h : ∀ d ∈ ds, Fit d k m) : Fit (.tuple ds) ((k + 2) * ds.length + 3) (m + 1) := by
  obtain ⟨a, b, c, e, f⟩ := fit_all h
  have l := tup_len (PyData.shownAll ds)
  refine ⟨?_, ?_, ?_, ?_⟩
  · simp only [PyData.shown]
    rw [b] at l
    rw [Nat.add_mul]
    omega
  · simp only [PyData.showable, c]
  · simp only [PyData.hasDict, e]
  · simp only [PyData.depth]
    omega
theorem ch_small {c : Nat} (h : c ≤ 122) : ∀ d ∈ TL.tl (ch c), d < 16 ^ 8 := fun d hd => by
  have : d = c := by simpa [ch] using hd
  subst this
  exact Nat.lt_of_le_of_lt h (by decide)
theorem fit_n {ns : List (Nat × Int)} (ok : NOk ns) : Fit (nD ns) 135 2 := by
  have h := fit_tup (k := 31) (m := 1) (ds := ns.map nP) fun d hd => by
    obtain ⟨p, hp, rfl⟩ := List.mem_map.mp hd
    refine fit_le (fit_tup (k := 12) (m := 0) fun d hd => ?_) (show (12 + 2) * 2 + 3 ≤ 31 by decide) (by decide)
    rcases List.mem_cons.mp hd with rfl | hd
    · exact fit_str (n := 1) (ch_small (ok.let_ p hp).2) (Nat.le_refl _)
    · rcases List.mem_cons.mp hd with rfl | hd
      · exact fit_le (fit_int (ok.pl p hp).1 (ok.pl p hp).2) (by decide) (by decide)
      · cases hd
  have := ok.four
  rw [List.length_map] at h
  have e : (31 + 2) * ns.length + 3 ≤ 135 := by omega
  exact fit_le h e (by decide)
theorem fit_c {cs : List (Int × Int)} (ok : COk cs) : Fit (cD cs) 7603 2 := by
  have h := fit_tup (k := 17) (m := 1) (ds := cs.map cP) fun d hd => by
    obtain ⟨p, hp, rfl⟩ := List.mem_map.mp hd
    obtain ⟨a, b, c, e⟩ := ok.pl p hp
    refine fit_le (fit_tup (k := 5) (m := 0) fun d hd => ?_) (show (5 + 2) * 2 + 3 ≤ 17 by decide) (by decide)
    rcases List.mem_cons.mp hd with rfl | hd
    · exact fit_int (by omega) b
    · rcases List.mem_cons.mp hd with rfl | hd
      · exact fit_int c e
      · cases hd
  have := ok.few
  rw [List.length_map] at h
  have e : (17 + 2) * cs.length + 3 ≤ 7603 := by omega
  exact fit_le h e (by decide)
theorem shaped_all {α : Type} {dat : α → PyData} (go : ∀ a, (dat a).canLay0 = true) : ∀ l : List α, PyData.canLayAll0 (l.map dat) = true
  | [] => by simp [PyData.canLayAll0]
  | a :: t => by rw [List.map_cons, PyData.canLayAll0, go, shaped_all go t]; rfl
theorem shape_n {ns : List (Nat × Int)} (ok : NOk ns) : SeqAt.shaped (nD ns) = true := by
  have e1 : ∀ l : List (Nat × Int), (∀ p ∈ l, p.1 ≤ 122) → PyData.canLayAll0 (l.map nP) = true := by
    intro l
    induction l with
    | nil => intro _; simp [PyData.canLayAll0]
    | cons p t ih =>
      intro h
      have h1 := h p List.mem_cons_self
      have : PyData.strOk (ch p.1) = true := by
        show (#[p.1] : Array Nat).all (· < 0x110000) = true
        simp
        omega
      simp only [List.map_cons, PyData.canLayAll0, nP, PyData.canLay0, this, ih fun q hq => h q (List.mem_cons_of_mem _ hq), Bool.and_true]
  have e2 := (fit_n ok).dep
  unfold SeqAt.shaped
  rw [Bool.and_eq_true, decide_eq_true_eq]
  refine ⟨?_, by omega⟩
  simp only [nD, PyData.canLay0]
  exact e1 ns fun p hp => (ok.let_ p hp).2
theorem shape_c {cs : List (Int × Int)} (ok : COk cs) : SeqAt.shaped (cD cs) = true := by
  have e2 := (fit_c ok).dep
  unfold SeqAt.shaped
  rw [Bool.and_eq_true, decide_eq_true_eq]
  refine ⟨?_, by omega⟩
  simp only [cD, PyData.canLay0]
  exact shaped_all (dat := cP) (fun a => by simp only [cP, PyData.canLay0, PyData.canLayAll0, Bool.and_true]) cs
theorem valV_none {kvs : List (Key × V)} {k : Key} (h : k ∉ kvs.map (·.1)) : valV kvs k = none := by
  cases e : valV kvs k with
  | none => rfl
  | some v => exact absurd (valV_in e) h
theorem merge_id : ∀ (more kvs : List (Key × V)), ((kvs ++ more).map (·.1)).Nodup → mergeK kvs more = kvs ++ more
  | [], kvs, _ => by simp [mergeK]
  | p :: t, kvs, h => by
    have hn : p.1 ∉ kvs.map (·.1) := by
      rw [List.map_append, List.nodup_append] at h
      exact fun z => h.2.2 _ z _ (List.mem_map_of_mem List.mem_cons_self) rfl
    have e : mergeK kvs (p :: t) = mergeK (putK kvs p.1 p.2) t := rfl
    rw [e, putK_new _ (valV_none hn), merge_id t _ (by simpa using h)]
    simp
theorem nodup_n {ns : List (Nat × Int)} (ok : NOk ns) : ((kN ns).map (·.1)).Nodup := by
  unfold kN
  rw [List.map_map]
  refine List.pairwise_map.mpr ((List.pairwise_map.mp ok.asc).imp fun {p q} h e => ?_)
  simp only [Function.comp, Sum.inr.injEq] at e
  have := congrArg (fun s : Str => s.cps.toList) e
  simp [ch] at this
  omega
theorem nodup_c {cs : List (Int × Int)} (ok : COk cs) : ((kC cs).map (·.1)).Nodup := by
  unfold kC
  rw [List.map_map]
  refine List.pairwise_map.mpr ((List.pairwise_map.mp ok.asc).imp fun {p q} h e => ?_)
  simp only [Function.comp, Sum.inl.injEq] at e
  omega
theorem merge_n {ns : List (Nat × Int)} (ok : NOk ns) : mergeK [] (kN ns) = kN ns := merge_id (kN ns) [] (by simpa using nodup_n ok)
theorem merge_c {cs : List (Int × Int)} (ok : COk cs) : mergeK [] (kC cs) = kC cs := merge_id (kC cs) [] (by simpa using nodup_c ok)
theorem pair_n {K : PySem.W.Frag} {H : Hp} : ∀ {rs : List Addr} {ns : List (Nat × Int)}, Paired (fun b (p : V × V) => SqT K H b [p.1, p.2]) rs (ns.map nV) → Paired (fun p (kv : Key × V) => SqT K H p [kV kv.1, kv.2]) rs (kN ns)
  | [], [], _ => .nil
  | _ :: _, _ :: _, .cons h t => .cons h (pair_n t)
theorem pair_c {K : PySem.W.Frag} {H : Hp} : ∀ {rs : List Addr} {cs : List (Int × Int)}, Paired (fun b (p : V × V) => SqT K H b [p.1, p.2]) rs (cs.map cV) → Paired (fun p (kv : Key × V) => SqT K H p [kV kv.1, kv.2]) rs (kC cs)
  | [], [], _ => .nil
  | _ :: _, _ :: _, .cons h t => .cons h (pair_c t)
/-- a dict of the seconds of pairs, all with the value true -/
theorem dcP {K : PySem.W.Frag} {rs : List Addr} {ls : List (V × V)} {gs : List Int} {te : TE} {g : TG} {tk tv : TE} {vs : List Nat} {σ : L2.St} {H : Hp} {Q : VK}
    (hte : ∀ R : VK, (∀ a H1, Same H H1 → PT H1 a (rs.map V.ref) → R (.ref a) H1) → te σ H R)
    (hp : Paired (fun b (p : V × V) => SqT K H b [p.1, p.2]) rs ls) (hg : ls.map (·.2) = gs.map V.int) (hz : ls.length ≤ 1000)
    (hs : ∀ (b : Addr) (p : V × V) (i : Int) H' (R : V → V → Hp → Prop), Same H H' → SqT K H' b [p.1, V.int i] → R (.int i) (.bl true) H' → g (.ref b) (wipe σ vs) H' fun σ2 H2 => wipe σ2 vs = wipe σ vs ∧ tk σ2 H2 fun y H4 => tv σ2 H4 fun z H5 => R y z H5)
    (hd : ∀ H' D kvs, Same H H' → H D = none → H' D = some (.dK kvs) → (∀ j : Int, (valV kvs (Sum.inl j : Key)).isSome = decide (j ∈ gs)) → Q (.ref D) H') : tDc (iTup K te) g tYes tk tv vs σ H Q := by
  refine hte _ fun a H1 sm hT => ⟨a, rfl, ⟨_, hT.sq⟩, fun D hD => ?_⟩
  have hp1 := Paired.imm (.of sm) hp
  have hl : rs.length = ls.length := Paired.len hp
  have hgl : ls.length = gs.length := by simpa using congrArg List.length hg
  have hDn : H D = none := by
    cases e : H D with
    | none => rfl
    | some o => rw [sm _ _ e] at hD; cases hD
  refine dc_tup (xs := rs.map V.ref) (fun i H' => Same H1 H' ∧ ∃ kvs : List (Key × V), H' D = some (.dK kvs) ∧ kvs.length ≤ i ∧ ∀ j : Int, (valV kvs (Sum.inl j : Key)).isSome = decide (j ∈ gs.take i)) ⟨same_new hD, [], upd_same, Nat.le_refl _, fun j => by simp [valV_nil]⟩
    (fun i H _ h => (PT.same h.1 hT).sq) (fun i x H' hx h => ?_) (fun H' h => ?_)
  · obtain ⟨s2, kvs, hk, kl, hv⟩ := h
    obtain ⟨b, p, rfl, e1, e2, hq⟩ := pairs_at (Paired.imm (.of s2) hp1) hx
    have hi : i < ls.length := (List.getElem?_eq_some_iff.mp e2).1
    have e3 : (gs.map V.int)[i]? = some p.2 := by rw [← hg, List.getElem?_map, e2]; rfl
    obtain ⟨z, e4, e5⟩ := map_at e3
    rw [e5] at hq
    refine hs b p z H' (fun y z2 H5 => ∃ kvs k, y = kV k ∧ H5 D = some (.dK kvs) ∧ kvs.length < sizeLine ∧ (Same H1 (upd H5 D (.dK (putK kvs k z2))) ∧ ∃ kvs' : List (Key × V), upd H5 D (.dK (putK kvs k z2)) D = some (.dK kvs') ∧ kvs'.length ≤ i + 1 ∧ ∀ j : Int, (valV kvs' (Sum.inl j : Key)).isSome = decide (j ∈ gs.take (i + 1)))) (sm.trans s2) hq
      ⟨kvs, Sum.inl z, rfl, hk, ?_, fun c o e => ?_, _, upd_same, ?_, fun j => ?_⟩
    · exact small1000 (by omega)
    · have nb : c ≠ D := ne_of_none e hD
      rw [upd_ne nb]
      exact s2 _ _ e
    · exact Nat.le_trans (length_putK _ _ _) (by omega)
    · rw [valV_put, List.take_add_one, e4]
      by_cases ej : j = z
      · subst ej
        rw [if_pos rfl]
        simp
      · rw [if_neg (fun q => ej (Sum.inl.inj q)), hv]
        simp [ej]
  · obtain ⟨s2, kvs, hk, _, hv⟩ := h
    rw [List.length_map, hl, hgl, List.take_length] at hv
    exact hd H' D kvs (sm.trans s2) hDn hk hv
/-- t + u, a tuple behind it -/
theorem cat_pt {K : PySem.W.Frag} {H : Hp} {a b : Addr} {xs ys : List V} {R : VK} (ha : PT H a xs) (hb : PT H b ys) (hz : xs.length + ys.length ≤ 10000) (k : ∀ t H1, Same H H1 → PT H1 t (xs ++ ys) → R (.ref t) H1) : rCatP K (.ref a) (.ref b) H R := by
  refine ⟨a, b, xs, ys, rfl, rfl, ha.sq, hb.sq, sl_le (by omega), fun e => k b H (fun _ _ h => h) (by subst e; exact hb), fun _ e => k a H (fun _ _ h => h) (by subst e; rw [List.append_nil]; exact ha), fun _ _ p o hn ho => k p _ (same_new hn) (PT.new ho)⟩
end K1
/-! Comprehensions that make pairs; the signs of a store's text. -/
namespace K1
open PySem PySem.Spec L2 Z
theorem lcMk {α : Type} {K : PySem.W.Frag} {ls : List α} {te : TE} {g : TG} {tel : TE} {vs : List Nat} {σ : L2.St} {H : Hp} {Q : VK} (wd : α → V) (G : α → V × V → Prop) (Pre : Addr → Hp → Prop)
    (hte : ∀ R : VK, (∀ l H1, Pre l H1 → R (.ref l) H1) → te σ H R) (hz : ls.length ≤ 1000) (hq : ∀ l H1, Pre l H1 → ∃ xs, SqL K H1 l xs)
    (hb : ∀ l H1 D, Pre l H1 → H1 D = none → ∃ Iv : Hp → Prop, Iv H1 ∧ (∀ H' o, Iv H' → Iv (upd H' D o)) ∧ (∀ H', Iv H' → SqL K H' l (ls.map wd)) ∧
      (∀ p H' acc (R : V → Hp → Prop), p ∈ ls → Iv H' → H' D = some (.lst acc) → (∀ b q H'', Iv H'' → Imm H' H'' → H'' D = some (.lst acc) → G p q → SqT K H'' b [q.1, q.2] → R (.ref b) H'') →
        g (wd p) (wipe σ vs) H' fun σ2 H2 => wipe σ2 vs = wipe σ vs ∧ tel σ2 H2 R) ∧
      (∀ H' bs qs, Iv H' → H' D = some (.lst (bs.map V.ref)) → Paired (fun b (p : V × V) => SqT K H' b [p.1, p.2]) bs qs → Paired G ls qs → Q (.ref D) H')) : tLc (iList K te) g tYes tel vs σ H Q := by
  refine hte _ fun l H1 pre => ?_
  refine ⟨l, rfl, hq _ _ pre, fun D hD => ?_⟩
  obtain ⟨Iv, i0, iu, il, ih, id⟩ := hb l H1 D pre hD
  refine lc_it (n := ls.length) (fun i H' => Iv H' ∧ ∃ (bs : List Addr) (qs : List (V × V)), bs.length = i ∧ H' D = some (.lst (bs.map V.ref)) ∧ Paired (fun b (p : V × V) => SqT K H' b [p.1, p.2]) bs qs ∧ Paired G (ls.take i) qs)
    ⟨iu _ _ i0, [], [], rfl, upd_same, .nil, .nil⟩ (fun i H' hi h => ⟨ls.map wd, (ls.map wd)[i]'(by simpa using hi), il _ h.1, List.getElem?_eq_getElem _⟩) (fun H' h => ⟨ls.map wd, il _ h.1, by simp⟩) (fun i x H' H2 hi h y => ?_) (fun H' h => ?_)
  · obtain ⟨iv, bs, qs, hl, hk, hp, hg⟩ := h
    obtain ⟨rfl, y⟩ := y
    obtain ⟨p, e1, rfl⟩ := map_at (y _ (il _ iv))
    refine ih p H2 (bs.map V.ref) _ (List.mem_of_getElem? e1) iv hk fun b q H3 iv3 im hk3 gq hq => ?_
    refine ⟨_, hk3, ?_, iu _ _ iv3, bs ++ [b], qs ++ [q], by simp [hl], ?_, ?_, ?_⟩
    · rw [List.length_map]
      exact small1000 (by omega)
    · rw [upd_same, List.map_append]
      rfl
    · have i4 : Imm H3 (upd H3 D (.lst (bs.map V.ref ++ [.ref b]))) := Chg.imm Chg.upd hk3 trivial
      exact Paired.snoc (F := fun b (p : V × V) => SqT K _ b [p.1, p.2]) (x := b) (y := q) (SqT.imm i4 hq) (Paired.imm (im.trans i4) hp)
    · rw [List.take_add_one, e1]
      exact Paired.snoc gq hg
  · obtain ⟨iv, bs, qs, hl, hk, hp, hg⟩ := h
    rw [List.take_length] at hg
    exact id H' bs qs iv hk hp hg
theorem paired_map {α β : Type} {f : α → β} : ∀ {ls : List α} {qs : List β}, Paired (fun p q => q = f p) ls qs → qs = ls.map f
  | _, _, .nil => rfl
  | _, _, .cons h t => by rw [h, paired_map t]; rfl
theorem mem_glue {S : List Nat} {c : Nat} : ∀ {l : List (List Nat)}, c ∈ TL.joinL S l → c ∈ S ∨ ∃ p ∈ l, c ∈ p
  | [], h => by simp [TL.joinL] at h
  | [y], h => .inr ⟨y, List.mem_cons_self, h⟩
  | y :: z :: t, h => by
    simp only [TL.joinL, List.mem_append] at h
    rcases h with h | h | h
    · exact .inr ⟨y, List.mem_cons_self, h⟩
    · exact .inl h
    · rcases mem_glue (l := z :: t) h with h | ⟨p, hp, hc⟩
      · exact .inl h
      · exact .inr ⟨p, List.mem_cons_of_mem _ hp, hc⟩
theorem eq_tl : TL.tl (Str.ofString "=") = [61] := by decide +kernel
theorem gt_tl : TL.tl (Str.ofString ">") = [62] := by decide +kernel
theorem sp_tl : TL.tl sp1 = [32] := by decide +kernel
theorem bar_tl : TL.tl (Str.ofString " | ") = [32, 124, 32] := by decide +kernel
theorem none_tl : TL.tl (Str.ofString "none") = [110, 111, 110, 101] := by decide +kernel
theorem ch_tl (c : Nat) : TL.tl (ch c) = [c] := rfl
theorem nameW_mem {p : Nat × Int} (l1 : 97 ≤ p.1) (l2 : p.1 ≤ 122) (h : 0 ≤ p.2) {c : Nat} (hc : c ∈ TL.tl (nameW p)) : 48 ≤ c ∧ c ≤ 122 := by
  unfold nameW at hc
  rw [TL.tl_append, TL.tl_append, List.mem_append, List.mem_append, ch_tl, eq_tl] at hc
  rcases hc with (hc | hc) | hc
  · have := List.mem_singleton.mp hc
    omega
  · have := List.mem_singleton.mp hc
    omega
  · have := num_dig h c hc
    omega
theorem cellW_mem {p : Int × Int} (h : 0 ≤ p.1) (h2 : 0 ≤ p.2) {c : Nat} (hc : c ∈ TL.tl (cellW p)) : 48 ≤ c ∧ c ≤ 62 := by
  unfold cellW at hc
  rw [TL.tl_append, TL.tl_append, List.mem_append, List.mem_append, gt_tl] at hc
  rcases hc with (hc | hc) | hc
  · have := num_dig h c hc
    omega
  · have := List.mem_singleton.mp hc
    omega
  · have := num_dig h2 c hc
    omega
theorem nTxt_mem {ns : List (Nat × Int)} (ok : NOk ns) {c : Nat} (hc : c ∈ TL.tl (nTxt ns)) : c ≤ 122 := by
  unfold nTxt at hc
  rw [tl_glue, sp_tl] at hc
  rcases mem_glue hc with h | ⟨q, hq, h⟩
  · have := List.mem_singleton.mp h
    omega
  · obtain ⟨r, hr, rfl⟩ := List.mem_map.mp hq
    obtain ⟨p, hp, rfl⟩ := List.mem_map.mp hr
    exact (nameW_mem (ok.let_ p hp).1 (ok.let_ p hp).2 (ok.pl p hp).1 h).2
theorem cJ_mem {cs : List (Int × Int)} (ok : COk cs) {c : Nat} (hc : c ∈ TL.tl (Txt.join sp1 (cs.map cellW))) : c ≤ 62 := by
  rw [tl_glue, sp_tl] at hc
  rcases mem_glue hc with h | ⟨q, hq, h⟩
  · have := List.mem_singleton.mp h
    omega
  · obtain ⟨r, hr, rfl⟩ := List.mem_map.mp hq
    obtain ⟨p, hp, rfl⟩ := List.mem_map.mp hr
    obtain ⟨a, b, d, e⟩ := ok.pl p hp
    exact (cellW_mem (by omega) d h).2
theorem cTxt_mem {cs : List (Int × Int)} (ok : COk cs) {c : Nat} (hc : c ∈ TL.tl (cTxt cs)) : c ≤ 122 := by
  unfold cTxt at hc
  split at hc
  · rw [none_tl] at hc
    simp only [List.mem_cons, List.not_mem_nil, or_false] at hc
    omega
  · have := cJ_mem ok hc
    omega
theorem stTxt_mem {ns : List (Nat × Int)} {cs : List (Int × Int)} (ok : NOk ns) (ck : COk cs) {c : Nat} (hc : c ∈ TL.tl (stTxt ns cs)) : c < 16 ^ 8 := by
  unfold stTxt at hc
  rw [TL.tl_append, TL.tl_append, List.mem_append, List.mem_append, bar_tl] at hc
  refine Nat.lt_of_le_of_lt (m := 124) ?_ (by decide)
  rcases hc with (hc | hc) | hc
  · have := nTxt_mem ok hc
    omega
  · simp only [List.mem_cons, List.not_mem_nil, or_false] at hc
    omega
  · have := cTxt_mem ck hc
    omega
theorem no_bar {l : List Nat} {i : Nat} (h : l[i + 1]? ≠ some 124) : TL.pre [32, 124, 32] (l.drop i) = false := by
  cases e : TL.pre [32, 124, 32] (l.drop i) with
  | false => rfl
  | true =>
    exfalso
    unfold TL.pre at e
    have e2 := eq_of_beq e
    have : ((l.drop i).take 3)[1]? = some 124 := by
      have e3 : ([32, 124, 32] : List Nat).length = 3 := rfl
      rw [e3] at e2
      rw [e2]
      rfl
    rw [List.getElem?_take, if_pos (by decide), List.getElem?_drop] at this
    exact h this
theorem split_st {ns : List (Nat × Int)} {cs : List (Int × Int)} (ok : NOk ns) (ck : COk cs) : Txt.split (stTxt ns cs) (Str.ofString " | ") = [nTxt ns, cTxt cs] := by
  apply TL.map_tl_inj
  have hne : TL.tl (Str.ofString " | ") ≠ [] := by rw [bar_tl]; simp
  rw [TL.split_spl _ _ hne (TL.kind_ok (by decide +kernel))]
  unfold stTxt
  rw [TL.tl_append, TL.tl_append, bar_tl, List.append_assoc]
  rw [TL.spl_part (by simp) (fun i hi => ?_), TL.spl_last (fun i hi => ?_)]
  · rfl
  · refine no_bar fun z => ?_
    have := cTxt_mem ck (List.mem_of_getElem? z)
    omega
  · refine no_bar fun z => ?_
    by_cases hj : i + 1 < (TL.tl (nTxt ns)).length
    · rw [List.getElem?_append_left hj] at z
      have := nTxt_mem ok (List.mem_of_getElem? z)
      omega
    · have e : i + 1 = (TL.tl (nTxt ns)).length := by omega
      rw [List.getElem?_append_right (by omega), e, Nat.sub_self] at z
      simp at z
theorem split_n {ns : List (Nat × Int)} (ok : NOk ns) : Txt.split (nTxt ns) (Str.ofString " ") = ns.map nameW := by
  refine TL.split_join (s := 32) (S := []) sp_tl (by decide +kernel) ?_ ?_
  · intro z
    have := ok.one
    rw [List.map_eq_nil_iff] at z
    subst z
    simp at this
  · intro q hq h
    obtain ⟨p, hp, rfl⟩ := List.mem_map.mp hq
    have := nameW_mem (ok.let_ p hp).1 (ok.let_ p hp).2 (ok.pl p hp).1 h
    omega
theorem split_c {cs : List (Int × Int)} (ck : COk cs) (h : cs ≠ []) : Txt.split (cTxt cs) (Str.ofString " ") = cs.map cellW := by
  unfold cTxt
  rw [if_neg h]
  refine TL.split_join (s := 32) (S := []) sp_tl (by decide +kernel) (by simpa using h) ?_
  intro q hq h
  obtain ⟨p, hp, rfl⟩ := List.mem_map.mp hq
  obtain ⟨a, b, d, e⟩ := ck.pl p hp
  have := cellW_mem (by omega) d h
  omega
theorem none_iff {cs : List (Int × Int)} (ck : COk cs) : decide (V.str (cTxt cs) = V.str (Str.ofString "none")) = decide (cs = []) := by
  by_cases h : cs = []
  · rw [decide_eq_true h]
    exact decide_eq_true (by unfold cTxt; rw [if_pos h])
  · rw [decide_eq_false h]
    refine str_ne fun e => ?_
    unfold cTxt at e
    rw [if_neg h] at e
    have := cJ_mem ck (c := 110) (by rw [e, none_tl]; simp)
    omega
theorem SqL_same {K : PySem.W.Frag} {H H' : Hp} {a : Addr} {xs : List V} (e : Same H H') (h : SqL K H a xs) : SqL K H' a xs := by
  rcases h with (h | ⟨o, h⟩) | h
  · exact .inl (.inl (e _ _ h))
  · exact .inl (.inr ⟨o, e _ _ h⟩)
  · exact .inr h
theorem at_third {α : Type} {xs : List α} {x y z : α} : atI (x :: y :: z :: xs) 2 = some z := at_nat (i := 2) rfl
theorem fm_range {i m : Int} (h : 0 < m) : 0 ≤ i.fmod m ∧ i.fmod m < m := ⟨Int.fmod_nonneg_of_pos i h, Int.fmod_lt_of_pos i h⟩
theorem op_notIn_seqK {X : Cx} {K : PySem.W.Frag} (h : X.K = K) : OpR X (compareOp .NotIn) (rIn K true) := h ▸ op_notIn_seq
theorem cut_mem {xs : List V} {lo hi : Option Int} {x : V} (h : x ∈ cutV xs lo hi) : x ∈ xs := List.mem_of_mem_drop (List.mem_of_mem_take h)
theorem JugAt.of {H : Hp} {j : Addr} {g s c : Int} (h : H j = some (.lst [.int g, .int s, .int c])) (a : -(2 ^ 64) < s) (b : s < 2 ^ 64) : JugAt H j := ⟨g, s, c, h, a, b⟩
theorem at_of {α : Type} {xs : List α} {k : Int} (h : 0 ≤ k) (h2 : k < xs.length) : ∃ x, x ∈ xs ∧ atI xs k = some x := by
  have hk : k.toNat < xs.length := by omega
  refine ⟨xs[k.toNat], List.getElem_mem _, ?_⟩
  have e := at_nat (xs := xs) (i := k.toNat) (List.getElem?_eq_getElem hk)
  rw [Int.toNat_of_nonneg h] at e
  exact e
end K1
/-! Letters: drawn, kept apart, in order. -/
namespace K1
open PySem PySem.Spec PyProof.Rows L2 Z
theorem nz1 : (1000000007 : Int) ≠ 0 := by decide
theorem nz2 : (2147483399 : Int) ≠ 0 := by decide
theorem nz3 : (2147483563 : Int) ≠ 0 := by decide
def cS (c : Nat) : V := .str (ch c)
theorem inV_ch (c : Nat) : ∀ cs : List Nat, inV (cS c) (cs.map cS) = decide (c ∈ cs)
  | [] => by simp [inV]
  | a :: t => by
    have ih := inV_ch c t
    unfold inV at ih ⊢
    rw [List.map_cons, List.any_cons, ih]
    have : eqV (cS a) (cS c) = decide (a = c) := ch_inj
    rw [this, Bool.eq_iff_iff, Bool.or_eq_true, decide_eq_true_eq, decide_eq_true_eq, decide_eq_true_eq, List.mem_cons]
    exact ⟨fun h => h.imp Eq.symm id, fun h => h.imp Eq.symm id⟩
theorem flat_ch (cs : List Nat) : (cs.map cS).all flatV = true := by
  rw [List.all_map, List.all_eq_true]
  intro c _
  rfl
theorem lcF {K : PySem.W.Frag} {a0 a1 a3 a4 a5 a6 : Option V} {H : Hp} {Q : VK} {w : Str} {cs : List Nat} {p : Addr} (hp : H p = some (.lst (cs.map cS))) (hw : w.cps.size ≤ 100)
    (hd : ∀ H' D, Same H H' → H D = none → H' D = some (.lst ((w.cps.toList.filter fun c => !decide (c ∈ cs)).map cS)) → Q (.ref D) H') :
    tLc (iStr (tC (.str w))) (gName 6) (tTest (tOp (rIn K true) (tVar 6) (tVar 2))) (tVar 6) [6] [a0, a1, some (.ref p), a3, a4, a5, a6] H Q := by
  refine ⟨w, rfl, fun D hD => ?_⟩
  refine lc_it (n := w.cps.size) (fun i H' => Same H H' ∧ H' D = some (.lst (((w.cps.toList.take i).filter fun c => !decide (c ∈ cs)).map cS))) ⟨same_new hD, upd_same⟩ (fun i H' hi _ => hi) (fun H' _ => Nat.le_refl _) (fun i x H' H2 hi h y => ?_) (fun H' h => ?_)
  · obtain ⟨sm, hk⟩ := h
    obtain ⟨rfl, c, hc, rfl⟩ := y
    have hc2 : w.cps.toList[i]? = some c := by rw [Array.getElem?_toList]; exact hc
    refine ⟨rfl, _, rfl, _, rfl, p, _, rfl, .inl (.inl (.inl (sm _ _ hp))), rfl, flat_ch cs, _, rfl, ?_⟩
    show if (!inV (cS c) (cs.map cS)) = true then _ else _
    rw [inV_ch]
    by_cases hm : c ∈ cs
    · rw [decide_eq_true hm]
      refine iteF ⟨sm, ?_⟩
      rw [hk, List.take_add_one, hc2, List.filter_append]
      simp [hm]
    · rw [decide_eq_false hm]
      refine iteT ⟨_, rfl, _, hk, ?_, fun b o e => ?_, ?_⟩
      · rw [List.length_map]
        refine small1000 ?_
        have h1 := List.length_filter_le (fun c => !decide (c ∈ cs)) (w.cps.toList.take i)
        rw [List.length_take] at h1
        omega
      · rw [upd_ne (ne_of_none e hD)]
        exact sm _ _ e
      · rw [upd_same, List.take_add_one, hc2, List.filter_append, List.map_append]
        simp [hm]
        rfl
  · refine hd H' D h.1 hD ?_
    have := h.2
    rw [← Array.length_toList, List.take_length] at this
    exact this
theorem nodup_len : ∀ {S cs : List Nat}, S.Nodup → (∀ c ∈ S, c ∈ cs) → S.length ≤ cs.length
  | [], _, _, _ => Nat.zero_le _
  | a :: t, cs, hS, h => by
    obtain ⟨h1, h2⟩ := List.nodup_cons.mp hS
    have ha := h a List.mem_cons_self
    have := nodup_len (S := t) (cs := cs.erase a) h2 fun c hc => (List.mem_erase_of_ne (fun z : c = a => h1 (z ▸ hc))).mpr (h c (List.mem_cons_of_mem _ hc))
    rw [List.length_erase_of_mem ha] at this
    have := List.length_pos_of_mem ha
    rw [List.length_cons]
    omega
theorem left_pos {S cs : List Nat} (hS : S.Nodup) (h : cs.length < S.length) : S.filter (fun c => !decide (c ∈ cs)) ≠ [] := fun e => by
  have sub : ∀ c ∈ S, c ∈ cs := fun c hc => by
    have := List.filter_eq_nil_iff.mp e c hc
    simpa using this
  have := nodup_len hS sub
  omega
theorem rising_le : ∀ (l : List Nat) (a : Nat), risingS (ch a) (l.map ch) = true → (a :: l).Pairwise (· ≤ ·)
  | [], a, _ => by simp
  | b :: t, a, h => by
    have hb : ltCps [b] [a] = false ∧ risingS (ch b) (t.map ch) = true := by
      have h' : (!ltCps [b] [a] && risingS (ch b) (t.map ch)) = true := h
      rw [Bool.and_eq_true, Bool.not_eq_true'] at h'
      exact h'
    have ih := rising_le t b hb.2
    have hab : a ≤ b := by
      by_cases z : b < a
      · have := hb.1
        simp [ltCps, z] at this
      · omega
    refine List.pairwise_cons.mpr ⟨fun c hc => ?_, ih⟩
    rcases List.mem_cons.mp hc with rfl | hc
    · exact hab
    · exact Nat.le_trans hab (List.rel_of_pairwise_cons ih hc)
theorem sorted_ch {ys : List Str} {cs : List Nat} (hp : ys.Perm (cs.map ch)) (hs : sortedS ys = true) (nd : cs.Nodup) : ∃ l : List Nat, ys = l.map ch ∧ l.Perm cs ∧ l.Pairwise (· < ·) := by
  let hd : Str → Nat := fun s => s.cps.toList.headD 0
  have e1 : ∀ y ∈ ys, ch (hd y) = y := fun y hy => by
    obtain ⟨c, _, rfl⟩ := List.mem_map.mp (hp.mem_iff.mp hy)
    rfl
  have e2 : ys = (ys.map hd).map ch := by
    rw [List.map_map]
    conv => lhs; rw [← List.map_id ys]
    exact (List.map_congr_left fun y hy => (e1 y hy).symm)
  have e3 : (ys.map hd).Perm cs := by
    have := hp.map hd
    rw [List.map_map] at this
    have e : hd ∘ ch = id := rfl
    rw [e, List.map_id] at this
    exact this
  have nd2 : (ys.map hd).Nodup := e3.nodup_iff.mpr nd
  refine ⟨ys.map hd, e2, e3, ?_⟩
  have le : (ys.map hd).Pairwise (· ≤ ·) := by
    generalize hq : ys.map hd = l at e2
    subst e2
    cases l with
    | nil => exact .nil
    | cons a t => exact rising_le t a hs
  exact (List.pairwise_and_iff.mpr ⟨le, nd2⟩).imp fun {a b} h => Nat.lt_of_le_of_ne h.1 h.2
theorem JugAt.same {H H' : Hp} {j : Addr} (e : Same H H') (h : JugAt H j) : JugAt H' j := by
  obtain ⟨g, s, c, q, a, b⟩ := h
  exact ⟨g, s, c, e _ _ q, a, b⟩
theorem jug_upd {H : Hp} {j p : Addr} {o : HO} (n : p ≠ j) (h : JugAt H j) : JugAt (upd H p o) j := by
  obtain ⟨g, s, c, q, a, b⟩ := h
  exact ⟨g, s, c, by rw [upd_ne (Ne.symm n)]; exact q, a, b⟩
theorem JugAt.ne {H : Hp} {j p : Addr} (h : JugAt H j) (hp : H p = none) : p ≠ j := by
  obtain ⟨g, s, c, q, a, b⟩ := h
  exact fun z => by rw [z, q] at hp; cases hp
theorem JugAt.neL {H : Hp} {j p : Addr} {o : HO} (h : JugAt H j) (hp : H p = some o) (n : ∀ l, o ≠ .lst l) : p ≠ j := by
  obtain ⟨g, s, c, q, a, b⟩ := h
  exact fun z => by
    rw [z, q] at hp
    exact n _ (Option.some.inj hp).symm
theorem chg_new {j p : Addr} {H H' : Hp} {o : HO} (c : Chg j H H') (hp : H p = none) : Chg j H (upd H' p o) := fun b x e n => by
  rw [upd_ne (ne_of_none e hp)]
  exact c b x e n
theorem none_chg {j p : Addr} {H H' : Hp} (c : Chg j H H') (hj : JugAt H' j) (hp : H' p = none) : H p = none := by
  cases e : H p with
  | none => rfl
  | some o => rw [c p o e (hj.ne hp)] at hp; cases hp
theorem near_let : ∀ c ∈ (Str.ofString "xyzuvw").cps.toList, 97 ≤ c ∧ c ≤ 122 := by
  have e : (Str.ofString "xyzuvw").cps.toList = [120, 121, 122, 117, 118, 119] := by decide +kernel
  rw [e]
  decide
theorem all_let : ∀ c ∈ (Str.ofString "abcdefghijklmnopqrstuvwxyz").cps.toList, 97 ≤ c ∧ c ≤ 122 := by
  have e : (Str.ofString "abcdefghijklmnopqrstuvwxyz").cps.toList = (List.range 26).map (· + 97) := by decide +kernel
  rw [e]
  decide
theorem near_n : (Str.ofString "xyzuvw").cps.toList.length = 6 := by decide +kernel
theorem all_n : (Str.ofString "abcdefghijklmnopqrstuvwxyz").cps.toList.length = 26 := by decide +kernel
theorem chg_imm {j : Addr} {H H' : Hp} (c : Chg j H H') (h : JugAt H j) : Imm H H' := by
  obtain ⟨g, s, n, q, _, _⟩ := h
  exact c.imm q trivial
theorem ints_mem {xs : List Int} {x : V} (h : x ∈ xs.map V.int) : ∃ i, x = .int i ∧ i ∈ xs := by
  obtain ⟨i, hi, rfl⟩ := List.mem_map.mp h
  exact ⟨i, rfl, hi⟩
theorem sl_pt {K : PySem.W.Frag} {H : Hp} {a : Addr} {xs : List V} {lo hi : Option Int} {Q : VK} (h : PT H a xs) (k : ∀ t H1, Same H H1 → PT H1 t (cutV xs lo hi) → Q (.ref t) H1) : rSlP K (.ref a) lo hi H Q := by
  refine ⟨a, xs, rfl, h.sq, fun e => k a H (fun _ _ h => h) ?_, fun _ p o hp ho => k p _ (same_new hp) (PT.new ho)⟩
  have : cutV xs lo hi = xs := by
    unfold cutV
    rw [e.1, e.2, List.drop_zero, Nat.sub_zero, List.take_length]
  rw [this]
  exact h
theorem cut_take {xs : List V} {i : Nat} (h : i ≤ xs.length) : cutV xs none (some (i : Int)) = xs.take i := by
  unfold cutV
  rw [HT.sIx_nat]
  show (xs.drop 0).take (min i xs.length - 0) = xs.take i
  rw [List.drop_zero, Nat.min_eq_left h, Nat.sub_zero]
theorem cut_drop {xs : List V} {i : Nat} (h : i < xs.length) : cutV xs (some ((i : Int) + 1)) none = xs.drop (i + 1) := by
  have e : ((i : Int) + 1) = ((i + 1 : Nat) : Int) := by omega
  unfold cutV
  rw [e, HT.sIx_nat]
  show (xs.drop (min (i + 1) xs.length)).take (xs.length - min (i + 1) xs.length) = xs.drop (i + 1)
  rw [Nat.min_eq_left (by omega), List.take_of_length_le (by rw [List.length_drop]; exact Nat.le_refl _)]
theorem set_fst {α β : Type} {g : β} : ∀ {l : List (α × β)} {i : Nat} {q : α × β}, l[i]? = some q → (l.set i (q.1, g)).map (·.1) = l.map (·.1)
  | [], _, _, h => by simp at h
  | x :: t, 0, q, h => by
    simp at h
    subst h
    rfl
  | x :: t, i + 1, q, h => by
    rw [List.set_cons_succ, List.map_cons, List.map_cons, set_fst (by simpa using h)]
theorem Paired.take {α β : Type} {F : α → β → Prop} : ∀ (i : Nat) {l : List α} {m : List β}, Paired F l m → Paired F (l.take i) (m.take i)
  | 0, _, _, _ => .nil
  | _ + 1, _, _, .nil => .nil
  | i + 1, _, _, .cons h t => .cons h (Paired.take i t)
theorem Paired.drop {α β : Type} {F : α → β → Prop} : ∀ (i : Nat) {l : List α} {m : List β}, Paired F l m → Paired F (l.drop i) (m.drop i)
  | 0, _, _, h => h
  | _ + 1, _, _, .nil => .nil
  | i + 1, _, _, .cons _ t => Paired.drop i t
theorem nok_set {ns : List (Nat × Int)} {i : Nat} {q : Nat × Int} {g : Int} (ok : NOk ns) (h : ns[i]? = some q) (h0 : 0 ≤ g) (h9 : g ≤ 999) : NOk (ns.set i (q.1, g)) := by
  have hq := List.mem_of_getElem? h
  refine ⟨by rw [List.length_set]; exact ok.one, by rw [List.length_set]; exact ok.four, fun p hp => ?_, fun p hp => ?_, by rw [set_fst h]; exact ok.asc⟩
  · rcases List.mem_or_eq_of_mem_set hp with z | rfl
    · exact ok.let_ p z
    · exact ok.let_ q hq
  · rcases List.mem_or_eq_of_mem_set hp with z | rfl
    · exact ok.pl p z
    · exact ⟨h0, h9⟩
theorem cok_set {cs : List (Int × Int)} {i : Nat} {q : Int × Int} {g : Int} (ok : COk cs) (h : cs[i]? = some q) (h0 : 0 ≤ g) (h9 : g ≤ 999) : COk (cs.set i (q.1, g)) := by
  have hq := List.mem_of_getElem? h
  refine ⟨by rw [List.length_set]; exact ok.few, fun p hp => ?_, by rw [set_fst h]; exact ok.asc⟩
  rcases List.mem_or_eq_of_mem_set hp with z | rfl
  · exact ok.pl p z
  · obtain ⟨a, b, _, _⟩ := ok.pl q hq
    exact ⟨a, b, h0, h9⟩
/-- a tuple of pairs with the i-th pair changed -/
theorem tp_set {K : PySem.W.Frag} {H : Hp} {t b : Addr} {rs : List Addr} {ls : List (V × V)} {i : Nat} {x : V × V} (hi : i < ls.length) (ht : PT H t ((rs.map V.ref).take i ++ [V.ref b] ++ (rs.map V.ref).drop (i + 1)))
    (hp : Paired (fun b (p : V × V) => SqT K H b [p.1, p.2]) rs ls) (hb : SqT K H b [x.1, x.2]) : TP K H (.ref t) (ls.set i x) := by
  refine ⟨t, rs.take i ++ [b] ++ rs.drop (i + 1), rfl, by rw [List.map_append, List.map_append, List.map_take, List.map_drop]; exact ht, ?_⟩
  rw [List.set_eq_take_append_cons_drop, if_pos hi]
  have e : ls.take i ++ x :: ls.drop (i + 1) = (ls.take i ++ [x]) ++ ls.drop (i + 1) := by simp
  rw [e]
  exact Paired.app (Paired.snoc (F := fun b (p : V × V) => SqT K H b [p.1, p.2]) (x := b) (y := x) hb (Paired.take i hp)) (Paired.drop (i + 1) hp)
/-- a tuple of pairs, the second of one pair changed -/
theorem change {K : PySem.W.Frag} {H : Hp} {a : Addr} {rs : List Addr} {ls : List (V × V)} {i v : Nat} {x y : V} {go : Int} {σ : L2.St} {Q : VK} (hv : σ[v]? = some (some (.ref a))) (h4 : σ[4]? = some (some (.int go))) (h5 : σ[5]? = some (some (.int (i : Int))))
    (ht : PT H a (rs.map V.ref)) (hp : Paired (fun b (p : V × V) => SqT K H b [p.1, p.2]) rs ls) (hx : ls[i]? = some (x, y)) (hz : ls.length ≤ 1000) (k : ∀ t H', Same H H' → TP K H' (.ref t) (ls.set i (x, .int go)) → Q (.ref t) H') :
    tOp (rCatP K) (tOp (rCatP K) (tSl (rSlP K) (tVar v) tNoPart (tPart (tVar 5))) (tTupP (tCons (tTup (tCons (tOp (rIxT K) (tOp (rIxT K) (tVar v) (tVar 5)) (tC (.int 0))) (tCons (tVar 4) tNil))) tNil)))
      (tSl (rSlP K) (tVar v) (tPart (tOp (rI0 fun i j => .int (i + j)) (tVar 5) (tC (.int 1)))) tNoPart) σ H Q := by
  have hl : rs.length = ls.length := Paired.len hp
  have hi : i < ls.length := (List.getElem?_eq_some_iff.mp hx).1
  have hlm : (rs.map V.ref).length = ls.length := by rw [List.length_map, hl]
  refine ⟨_, hv, _, h5, i, rfl, ?_⟩
  refine sl_pt ht fun t1 H1 s1 p1 => ?_
  rw [cut_take (by rw [hlm]; omega)] at p1
  have hb : rs[i]? = some (rs[i]'(by omega)) := List.getElem?_eq_getElem _
  obtain ⟨q, e2, hq⟩ := Paired.at (Paired.imm (.of s1) hp) hb
  rw [hx] at e2
  cases e2
  refine ⟨_, hv, _, h5, a, _, (i : Int), _, rfl, rfl, (PT.same s1 ht).sq, at_nat (by rw [List.getElem?_map, hb]; rfl), _, _, 0, _, rfl, rfl, hq, at_first, _, h4, by show 2 ≤ sizeLine; exact sl_le (by decide), fun b hbn => ?_⟩
  have s2 := s1.trans (same_new (o := .tup [x, V.int go]) hbn)
  have b2 : upd H1 b (.tup [x, V.int go]) b = some (.tup [x, V.int go]) := upd_same
  have p2 := PT.same (same_new (o := .tup [x, V.int go]) hbn) p1
  generalize upd H1 b (.tup [x, V.int go]) = H2 at s2 b2 p2 ⊢
  refine ⟨by show 1 ≤ sizeLine; exact sl_le (by decide), fun p3 o3 hp3 ho3 => ?_⟩
  have s3 := same_new (o := .frz o3 (.tup [V.ref b])) hp3
  refine cat_pt (PT.same s3 p2) (PT.new ho3) (by rw [List.length_take]; show min i _ + 1 ≤ 10000; omega) fun t4 H4 s4 p4 => ?_
  have s04 := (s2.trans s3).trans s4
  refine ⟨_, hv, _, h5, _, _, rfl, rfl, _, rfl, ?_⟩
  unfold tNoPart
  dsimp only
  refine sl_pt (PT.same s04 ht) fun t5 H5 s5 p5 => ?_
  rw [cut_drop (by rw [hlm]; exact hi)] at p5
  refine cat_pt (PT.same s5 p4) p5 (by rw [List.length_append, List.length_take, List.length_drop, hlm]; show min i _ + 1 + _ ≤ 10000; omega) fun t6 H6 s6 p6 => ?_
  have s06 := (s04.trans s5).trans s6
  exact k t6 H6 s06 (tp_set hi p6 (Paired.imm (.of s06) hp) (.inl (.inl (s6 _ _ (s5 _ _ (s4 _ _ (s3 _ _ b2)))))))
theorem set_map {α β : Type} {f : α → β} (l : List α) (i : Nat) (a : α) : (l.map f).set i (f a) = (l.set i a).map f := by rw [List.map_set]
theorem ix_tupK {X : Cx} {K : PySem.W.Frag} (h : X.K = K) : IxR X (rIxT K) := h ▸ ix_tup
theorem repr_ok {K : PySem.W.Frag} {H : Hp} {a : Addr} {xs : List V} {ds : List PyData} {k m : Nat} (h : SqL K H a xs) (hd : DpAll K H xs ds) (hf : ∀ d ∈ ds, Fit d k m) (hz : (k + 2) * ds.length + 3 ≤ 16000000) (hm : m ≤ 50) :
    Dp K H (.ref a) (.list ds) ∧ (PyData.list ds).showable = true ∧ (PyData.list ds).hasDict = false ∧ (PyData.list ds).depth ≤ 60 ∧ (PyData.list ds).shown.length ≤ sizeLine := by
  have F := fit_list hf
  have e : (PyData.list ds).shown.length ≤ sizeLine := by
    rw [sizeLine_eq]
    have := F.len
    omega
  exact ⟨.lst h hd, F.ok, F.nod, Nat.le_trans F.dep (by omega), e⟩
theorem lTxt_mem {ns : List (Nat × Int)} (ok : NOk ns) : ∀ c ∈ TL.tl (lTxt ns), c < 16 ^ 8 := fun c hc => by
  unfold lTxt at hc
  rw [tl_glue] at hc
  refine Nat.lt_of_le_of_lt (m := 122) ?_ (by decide)
  rcases mem_glue hc with h | ⟨q, hq, h⟩
  · exact absurd h (by show c ∉ TL.tl Str.empty; intro z; cases z)
  · obtain ⟨r, hr, rfl⟩ := List.mem_map.mp hq
    obtain ⟨p, hp, rfl⟩ := List.mem_map.mp hr
    have := List.mem_singleton.mp h
    rw [this]
    exact (ok.let_ p hp).2
theorem lTxt_len {ns : List (Nat × Int)} (ok : NOk ns) : (lTxt ns).length ≤ 4 := by
  have h := glue_len (k := 1) (y := Str.empty) (l := ns.map fun p => ch p.1) fun y hy => by
    obtain ⟨p, hp, rfl⟩ := List.mem_map.mp hy
    exact Nat.le_refl _
  have e : Str.empty.length = 0 := rfl
  have := ok.four
  rw [List.length_map, e] at h
  unfold lTxt
  omega
theorem stTxt_len {ns : List (Nat × Int)} {cs : List (Int × Int)} (ok : NOk ns) (ck : COk cs) : (stTxt ns cs).length ≤ 3231 := by
  have a := nTxt_len ok
  have b := cTxt_len ck
  unfold stTxt
  rw [len_app, len_app, bar_len]
  omega
def tellD (ns : List (Nat × Int)) (cs : List (Int × Int)) : List PyData := [nD ns, cD cs, .str (lTxt ns), .str (stTxt ns cs)]
theorem fit_tell {ns : List (Nat × Int)} {cs : List (Int × Int)} (ok : NOk ns) (ck : COk cs) : ∀ d ∈ tellD ns cs, Fit d 32312 2 := fun d hd => by
  simp only [tellD, List.mem_cons, List.not_mem_nil, or_false] at hd
  rcases hd with rfl | rfl | rfl | rfl
  · exact fit_le (fit_n ok) (by decide) (by decide)
  · exact fit_le (fit_c ck) (by decide) (by decide)
  · exact fit_le (fit_str (lTxt_mem ok) (lTxt_len ok)) (by decide) (by decide)
  · exact fit_le (fit_str (fun c hc => stTxt_mem ok ck hc) (stTxt_len ok ck)) (by decide) (by decide)
theorem fit_ints {ps : List Int} (h : ∀ i ∈ ps, 0 ≤ i ∧ i ≤ 999) : ∀ d ∈ ps.map PyData.int, Fit d 5 0 := fun d hd => by
  obtain ⟨i, hi, rfl⟩ := List.mem_map.mp hd
  exact fit_int (h i hi).1 (h i hi).2
theorem andV_bl {ta tb : TE} {σ : L2.St} {H : Hp} {Q : VK} {c1 c2 : Bool} (h1 : ∀ R : VK, R (.bl c1) H → ta σ H R) (h2 : ∀ R : VK, R (.bl c2) H → tb σ H R) (q : Q (.bl (c1 && c2)) H) : tAndV ta tb σ H Q :=
  h1 _ ⟨c1, rfl, by
    cases c1 with
    | true => exact iteT (h2 _ q)
    | false => exact iteF q⟩
theorem inV_int (z : Int) : ∀ l : List Int, inV (.int z) (l.map V.int) = decide (z ∈ l)
  | [] => by simp [inV]
  | a :: t => by
    have ih := inV_int z t
    unfold inV at ih ⊢
    rw [List.map_cons, List.any_cons, ih]
    have : eqV (.int a) (.int z) = decide (a = z) := by
      show (a == z) = _
      rw [Bool.eq_iff_iff, beq_iff_eq, decide_eq_true_eq]
    rw [this, Bool.eq_iff_iff, Bool.or_eq_true, decide_eq_true_eq, decide_eq_true_eq, decide_eq_true_eq, List.mem_cons]
    exact ⟨fun h => h.imp Eq.symm id, fun h => h.imp Eq.symm id⟩
theorem flat_int (l : List Int) : (l.map V.int).all flatV = true := by
  rw [List.all_map, List.all_eq_true]
  intro c _
  rfl
def lookD (cs : List (Int × Int)) (i : Int) : PyData := match cs.find? (fun p => decide (p.1 = i)) with
  | some p => .int p.2
  | none => .none
theorem dp_look {K : PySem.W.Frag} {H : Hp} (cs : List (Int × Int)) (i : Int) : Dp K H (lookC cs i) (lookD cs i) := by
  unfold lookC lookD
  cases cs.find? fun p => decide (p.1 = i) with
  | none => exact .non
  | some p => exact .int _
theorem fit_look {cs : List (Int × Int)} (ck : COk cs) (i : Int) : Fit (lookD cs i) 5 0 := by
  unfold lookD
  cases h : cs.find? fun p => decide (p.1 = i) with
  | none => exact fit_non
  | some p =>
    obtain ⟨_, _, a, b⟩ := ck.pl p (List.mem_of_find?_eq_some h)
    exact fit_int a b
theorem scal_look (cs : List (Int × Int)) (i : Int) : scal (lookC cs i) (lookC cs i) = true := by
  unfold lookC
  cases cs.find? fun p => decide (p.1 = i) <;> rfl
theorem St.ins {K : PySem.W.Frag} {C : Addr} {H : Hp} {x : Addr} {ns : List (Nat × Int)} {cs : List (Int × Int)} (h : St K C H x ns cs) :
    ∃ (dx : Addr) (fs : List (Str × V)), H x = some (.ins C dx fs) ∧ fs.lookup (Str.ofString "at") = none ∧ fs.lookup (Str.ofString "arrow") = none ∧ fs.lookup (Str.ofString "is_gone") = none := by
  obtain ⟨v, u, dx, pd, ad, ld, ks, S⟩ := h
  exact ⟨dx, _, S.ob, rfl, rfl, rfl⟩
theorem bl_ne {α : Type} [DecidableEq α] (x : α) : V.bl (!decide (x = x)) = V.bl false := by simp
theorem ne0_eq (z : Int) : (!decide (V.int z = V.int 0)) = !decide (z = 0) := by simp
/-- for over a list that a local holds -/
theorem forL {K : PySem.W.Frag} {v : Nat} {l : Addr} {xs : List V} {g : TG} {tb : TS} {D : Ends} {σ : L2.St} {H : Hp} (Pv : Nat → L2.St → Hp → Prop) (hv : σ[v]? = some (some (.ref l))) (h0 : Pv 0 σ H) (hl : ∀ i σ H, i ≤ xs.length → Pv i σ H → SqL K H l xs)
    (hs : ∀ i x σ H, xs[i]? = some x → Pv i σ H → g x σ H fun σ2 H2 => tb { D with nx := Pv (i + 1), ct := Pv (i + 1), bk := D.nx } σ2 H2) (hd : ∀ σ H, Pv xs.length σ H → D.nx σ H) : tFor (iList K (tVar v)) g tb D σ H :=
  ⟨_, hv, l, rfl, ⟨_, hl 0 _ _ (Nat.zero_le _) h0⟩, for_list Pv h0 hl hs hd⟩
end K1
/-! What stands while one turn of the law runs. -/
namespace K1
open PySem PySem.Spec L2 Z
structure RS (K : PySem.W.Frag) (H0 H : Hp) (j : Addr) (v u : V) (pg : Addr) (ns : List (Nat × Int)) (cs : List (Int × Int)) (gs : List Int) : Prop where
  chg : Chg j H0 H
  jug : JugAt H j
  tn : TP K H v (ns.map nV)
  tc : TP K H u (cs.map cV)
  g : H pg = some (.lst (gs.map V.int))
  npg : pg ≠ j
theorem RS.same {K : PySem.W.Frag} {H0 H H' : Hp} {j pg : Addr} {v u : V} {ns : List (Nat × Int)} {cs : List (Int × Int)} {gs : List Int} (e : Same H H') (r : RS K H0 H j v u pg ns cs gs) : RS K H0 H' j v u pg ns cs gs :=
  ⟨r.chg.trans (Chg.of e), r.jug.same e, TP.imm (.of e) r.tn, TP.imm (.of e) r.tc, e _ _ r.g, r.npg⟩
theorem RS.cj {K : PySem.W.Frag} {H0 H H' : Hp} {j pg : Addr} {v u : V} {ns : List (Nat × Int)} {cs : List (Int × Int)} {gs : List Int} (e : Chg j H H') (hj : JugAt H' j) (r : RS K H0 H j v u pg ns cs gs) : RS K H0 H' j v u pg ns cs gs :=
  ⟨r.chg.trans e, hj, TP.imm (chg_imm e r.jug) r.tn, TP.imm (chg_imm e r.jug) r.tc, e _ _ r.g r.npg, r.npg⟩
theorem St.cj {K : PySem.W.Frag} {C j x : Addr} {H H' : Hp} {ns : List (Nat × Int)} {cs : List (Int × Int)} (e : Chg j H H') (hj : JugAt H j) (h : St K C H x ns cs) : St K C H' x ns cs := by
  obtain ⟨g, s, c, q, _, _⟩ := hj
  exact St.chg e q h
theorem same_mk {C : Addr} {H H' : Hp} {x dx : Addr} (hx : H x = none) (hdx : H dx = none) (hne : dx ≠ x) (c : Chg x (upd (upd H dx (.own x)) x (.ins C dx [])) H') : Same H H' := fun b o e => by
  have n1 : b ≠ x := ne_of_none e hx
  have n2 : b ≠ dx := ne_of_none e hdx
  exact c b o (by rw [upd_ne n1, upd_ne n2]; exact e) n1
theorem same_raw {C : Addr} {H : Hp} {x dx : Addr} (hx : H x = none) (hdx : H dx = none) (hne : dx ≠ x) : Same H (upd (upd H dx (.own x)) x (.ins C dx [])) := fun b o e => by
  have n1 : b ≠ x := ne_of_none e hx
  have n2 : b ≠ dx := ne_of_none e hdx
  rw [upd_ne n1, upd_ne n2]
  exact e
theorem names_of : ∀ {lcs : List Nat} {qs : List (V × V)}, Paired (fun c (q : V × V) => ∃ g : Int, q = (cS c, V.int g) ∧ 0 ≤ g ∧ g ≤ 999) lcs qs →
    ∃ ns : List (Nat × Int), qs = ns.map nV ∧ ns.map (·.1) = lcs ∧ ∀ p ∈ ns, 0 ≤ p.2 ∧ p.2 ≤ 999
  | _, _, .nil => ⟨[], rfl, rfl, by simp⟩
  | c :: _, _, .cons ⟨g, e, h⟩ t => by
    obtain ⟨ns, e1, e2, e3⟩ := names_of t
    refine ⟨(c, g) :: ns, by rw [e, e1]; rfl, by rw [List.map_cons, e2], fun p hp => ?_⟩
    rcases List.mem_cons.mp hp with rfl | hp
    · exact h
    · exact e3 p hp
theorem fit_bls {bs : List Bool} : ∀ d ∈ bs.map PyData.bool, Fit d 5 0 := fun d hd => by
  obtain ⟨b, _, rfl⟩ := List.mem_map.mp hd
  exact fit_bl b
theorem dp_bls {K : PySem.W.Frag} {H : Hp} : ∀ bs : List Bool, DpAll K H (bs.map V.bl) (bs.map PyData.bool)
  | [] => .nil
  | _ :: t => .cons (.bl _) (dp_bls t)
theorem repr_bls {K : PySem.W.Frag} {H : Hp} {a : Addr} (bs : List Bool) (h : H a = some (.lst (bs.map V.bl))) (hz : bs.length ≤ 100) :
    Dp K H (.ref a) (.list (bs.map PyData.bool)) ∧ (PyData.list (bs.map PyData.bool)).showable = true ∧ (PyData.list (bs.map PyData.bool)).hasDict = false ∧ (PyData.list (bs.map PyData.bool)).depth ≤ 60 ∧ (PyData.list (bs.map PyData.bool)).shown.length ≤ sizeLine :=
  repr_ok (.inl (.inl h)) (dp_bls bs) fit_bls (by rw [List.length_map]; omega) (by decide)
def two (ns : List (Nat × Int)) (cs : List (Int × Int)) : PyData := .tuple [nD ns, cD cs]
theorem dp_two {K : PySem.W.Frag} {H : Hp} {t : Addr} {v u : V} {ns : List (Nat × Int)} {cs : List (Int × Int)} (h : H t = some (.tup [v, u])) (tn : TP K H v (ns.map nV)) (tc : TP K H u (cs.map cV)) : Dp K H (.ref t) (two ns cs) :=
  .tup (.inl (.inl h)) (.cons (dp_n tn) (.cons (dp_c tc) .nil))
theorem shape_two {ns : List (Nat × Int)} {cs : List (Int × Int)} (ok : NOk ns) (ck : COk cs) : SeqAt.shaped (two ns cs) = true := by
  have a := shape_n ok
  have b := shape_c ck
  have c := (fit_n ok).dep
  have d := (fit_c ck).dep
  unfold SeqAt.shaped at a b ⊢
  rw [Bool.and_eq_true, decide_eq_true_eq] at a b ⊢
  refine ⟨?_, ?_⟩
  · simp only [two, PyData.canLay0, PyData.canLayAll0, a.1, b.1, Bool.and_true]
  · simp only [two, PyData.depth, PyData.depthAll]
    omega
theorem eqv_two (ns ns' : List (Nat × Int)) (cs cs' : List (Int × Int)) : (two ns' cs').eqv (two ns cs) = decide (ns = ns' ∧ cs = cs') := by
  have e : (two ns' cs').eqv (two ns cs) = (decide (ns' = ns) && (decide (cs' = cs) && true)) := by
    simp only [two, PyData.eqv, PyData.eqvAll, eqv_n, eqv_c]
  rw [e, Bool.and_true, Bool.eq_iff_iff, Bool.and_eq_true, decide_eq_true_eq, decide_eq_true_eq, decide_eq_true_eq]
  exact ⟨fun h => ⟨h.1.symm, h.2.symm⟩, fun h => ⟨h.1.symm, h.2.symm⟩⟩
theorem dec_sym (ns ns' : List (Nat × Int)) (cs cs' : List (Int × Int)) : decide (ns' = ns ∧ cs' = cs) = decide (ns = ns' ∧ cs = cs') := by
  rw [Bool.eq_iff_iff, decide_eq_true_eq, decide_eq_true_eq]
  exact ⟨fun h => ⟨h.1.symm, h.2.symm⟩, fun h => ⟨h.1.symm, h.2.symm⟩⟩
theorem at_end {gs : List Int} (h : gs ≠ []) : ∃ z, z ∈ gs ∧ atI (gs.map V.int) (-1) = some (V.int z) := by
  refine ⟨gs.getLast h, List.getLast_mem h, ?_⟩
  have e : gs.map V.int = (gs.dropLast).map V.int ++ [V.int (gs.getLast h)] := by
    conv => lhs; rw [← List.dropLast_concat_getLast h]
    rw [List.map_append]
    rfl
  rw [e]
  exact atI_last _ _
theorem St.get {K : PySem.W.Frag} {C : Addr} {H : Hp} {x : Addr} {ns : List (Nat × Int)} {cs : List (Int × Int)} (h : St K C H x ns cs) :
    ∃ (dx : Addr) (fs : List (Str × V)), H x = some (.ins C dx fs) ∧ fs.lookup (Str.ofString "text") = some (.str (stTxt ns cs)) := by
  obtain ⟨v, u, dx, pd, ad, ld, ks, S⟩ := h
  exact ⟨dx, _, S.ob, rfl⟩
theorem dec_same (ns : List (Nat × Int)) (cs : List (Int × Int)) : decide (ns = ns ∧ cs = cs) = true := by simp
end K1
namespace K1
open PySem PySem.Spec L2 Z
section
variable {P : Program} {w : World} {K : PySem.W.Frag} {mg : Str → Option Value} {base : Heap} {C : Addr}
theorem ok_law_take (T : Txt K mg C)  : Pr P w K mg base "_law_take" s_law_take 1 ["_law_jug_here", "_law_many"] sp_law_take := by
  obtain ⟨f, fd, F, gl, bd⟩ := T.d__law_take
  refine ⟨f, fd, F, gl, bd, F.ok sc_law_take (fun vs H Q E h => ?_) (fun cdv A outer s H vs Q E hr h => ?_)⟩
  · obtain ⟨j, m, rfl, _⟩ := h
    rfl
  · obtain ⟨j, m, rfl, ⟨g, s0, c, hj, b1, b2⟩, m1, m2, k⟩ := h
    have hu := hu_of hr
    refine ⟨_, (pss_cons (ps_if (pt_cmpR op_gt (pe_ix ix_list (pv 0) pe_int (fun _ _ => rfl)) pe_int (nomark _)) (pss_cons (ps_asg (pe_callB call_divmod (by rfl) T.b_divmod (by decide +kernel) (pa_cons (pe_ix ix_list (pv 0) pe_int (fun _ _ => rfl)) (pa_cons (pv 1) pa_nil))) (pg_tup rfl (pgs_cons (pg_sub (pv 0) pe_int set_list) (pgs_cons (pg_name (i := 2) sc_law_take.nd rfl (Or.inl rfl)) pgs_nil))))
      (pss_one (ps_ret (pv 2)))) pss_nil)
      (pss_cons (ps_asg (pe_op op_add (pe_ix ix_list (pv 0) pe_int (fun _ _ => rfl)) pe_int) (pg_sub (pv 0) pe_int set_list))
      (pss_cons (ps_asg (pe_op op_modN (pe_callTy call_int1 (by rfl) T.b_int (by decide +kernel) (pa_cons (pe_op op_add (pe_op op_add (pe_op op_mul (pe_ix ix_list (pv 0) pe_int (fun _ _ => rfl)) (pe_op op_add pe_int (pe_op op_mul pe_int (pe_ix ix_list (pv 0) pe_int (fun _ _ => rfl))))) pe_int) (pe_ix ix_list (pv 0) pe_int (fun _ _ => rfl))) pa_nil)) pe_int) (pg_sub (pv 0) pe_int set_list))
      (pss_one (ps_ret (pe_op op_modN (pe_callTy call_int1 (by rfl) T.b_int (by decide +kernel) (pa_cons (pe_op op_fdivN (pe_ix ix_list (pv 0) pe_int (fun _ _ => rfl)) pe_int) pa_nil)) (pv 1))))))), ?_⟩
    refine ⟨_, rfl, j, _, 0, _, rfl, rfl, .inl (.inl hj), at_first, _, _, rfl, rfl, _, rfl, ?_⟩
    by_cases hg : 0 < g
    · rw [decide_eq_true hg]
      refine iteT ⟨_, rfl, j, _, 0, _, rfl, rfl, .inl (.inl hj), at_first, _, rfl, _, _, rfl, ⟨by omega, by omega⟩, fun t ht => ?_⟩
      have nt : j ≠ t := ne_of_none hj ht
      refine ⟨t, _, rfl, .inl (.inl upd_same), rfl, _, _, rfl, _, rfl, j, _, 0, 0, rfl, rfl, by rw [upd_ne nt]; exact hj, rfl, _, _, rfl, rfl, _, rfl, ?_⟩
      exact k _ (g % m) ((Chg.of (same_new ht)).trans Chg.upd) ⟨g / m, s0, c, upd_same, b1, b2⟩ (Int.emod_nonneg _ (by omega)) (Int.emod_lt_of_pos _ (by omega))
    · rw [decide_eq_false hg]
      refine iteF ⟨_, rfl, j, _, 2, _, rfl, rfl, .inl (.inl hj), at_third, _, _, rfl, rfl, _, rfl, j, _, 2, 2, rfl, rfl, hj, rfl, ?_⟩
      have j1 : upd H j (.lst ([V.int g, V.int s0, V.int c].set 2 (V.int (c + 1)))) j = some (.lst [V.int g, V.int s0, V.int (c + 1)]) := upd_same
      have c1 : Chg j H (upd H j (.lst ([V.int g, V.int s0, V.int c].set 2 (V.int (c + 1))))) := Chg.upd
      generalize upd H j (.lst ([V.int g, V.int s0, V.int c].set 2 (V.int (c + 1)))) = H1 at j1 c1 ⊢
      refine ⟨_, rfl, j, _, 1, _, rfl, rfl, .inl (.inl j1), at_snd, _, rfl, j, _, 2, _, rfl, rfl, .inl (.inl j1), at_third, _, _, rfl, rfl, .inl ⟨by decide, by decide⟩, _, _, rfl, rfl, _, _, rfl, rfl, .inl ⟨b1, b2⟩, _, _, rfl, rfl,
        _, rfl, j, _, 2, _, rfl, rfl, .inl (.inl j1), at_third, _, _, rfl, rfl, .inl ⟨_, rfl, _, _, rfl, rfl, nz3, _, rfl, j, _, 1, 1, rfl, rfl, j1, rfl, ?_⟩⟩
      have hr := fm_range (i := s0 * (40014 + 2 * (c + 1)) + 12211 + (c + 1)) (m := 2147483563) (by decide)
      refine ⟨_, rfl, j, _, 1, _, rfl, rfl, .inl (.inl upd_same), at_snd, _, _, rfl, rfl, ⟨by decide, by decide⟩, .inl ⟨_, rfl, _, rfl, _, _, rfl, rfl, by show m ≠ 0; omega, ?_⟩⟩
      have fr := fm_range (i := (Int.fmod (s0 * (40014 + 2 * (c + 1)) + 12211 + (c + 1)) 2147483563).fdiv 131) (m := m) (by omega)
      exact k _ _ (c1.trans Chg.upd) ⟨_, _, _, upd_same, Int.lt_of_lt_of_le (by decide) hr.1, Int.lt_trans hr.2 (by decide)⟩ fr.1 fr.2
end
end K1
namespace K1
open PySem PySem.Spec L2 Z
section
variable {P : Program} {w : World} {K : PySem.W.Frag} {mg : Str → Option Value} {base : Heap} {C : Addr}
theorem ok_law_one_of (T : Txt K mg C) (G__law_take : Pr P w K mg base "_law_take" s_law_take 1 ["_law_jug_here", "_law_many"] sp_law_take) : Pr P w K mg base "_law_one_of" s_law_one_of 2 ["_law_jug_here", "_law_some"] (sp_law_one_of K) := by
  obtain ⟨f, fd, F, gl, bd⟩ := T.d__law_one_of
  refine ⟨f, fd, F, gl, bd, F.ok sc_law_one_of (fun vs H Q E h => ?_) (fun cdv A outer s H vs Q E hr h => ?_)⟩
  · obtain ⟨j, l, xs, rfl, _⟩ := h
    rfl
  · obtain ⟨j, l, xs, rfl, hj, hne, hl, hx, hm, k⟩ := h
    have hu := hu_of hr
    refine ⟨_, (pss_one (ps_ret (pe_ix ix_list (pv 1) (pcall G__law_take (hr.mono (by decide)) (pa_cons (pv 0) (pa_cons (pe_callB call_len_seq (by rfl) T.b_len (by decide +kernel) (pa_cons (pv 1) pa_nil)) pa_nil))) (fun _ _ => rfl)))), ?_⟩
    have hp := List.length_pos_iff.mpr hx
    refine ⟨_, rfl, _, rfl, _, rfl, l, xs, rfl, .inl hl, j, (xs.length : Int), rfl, hj, by omega, by omega, fun H' i cg hj' i0 im => ?_⟩
    obtain ⟨y, hy, hat⟩ := at_of (xs := xs) i0 im
    exact ⟨l, xs, i, y, rfl, rfl, SqL.chg cg hne hl, hat, k H' y cg hj' hy⟩
end
end K1
namespace K1
open PySem PySem.Spec L2 Z
section
variable {P : Program} {w : World} {K : PySem.W.Frag} {mg : Str → Option Value} {base : Heap} {C : Addr}
theorem ok_law_letters (T : Txt K mg C) (G__law_one_of : Pr P w K mg base "_law_one_of" s_law_one_of 2 ["_law_jug_here", "_law_some"] (sp_law_one_of K)) (G__law_take : Pr P w K mg base "_law_take" s_law_take 1 ["_law_jug_here", "_law_many"] sp_law_take) : Pr P w K mg base "_law_letters" s_law_letters 3 ["_law_jug_here", "_law_many"] sp_law_letters := by
  obtain ⟨f, fd, F, gl, bd⟩ := T.d__law_letters
  refine ⟨f, fd, F, gl, bd, F.ok sc_law_letters (fun vs H Q E h => ?_) (fun cdv A outer s H vs Q E hr h => ?_)⟩
  · obtain ⟨j, m, rfl, _⟩ := h
    rfl
  · obtain ⟨j, m, rfl, hj, m1, m2, k⟩ := h
    have hu := hu_of hr
    refine ⟨_, (pss_cons (ps_set (i := 2) sc_law_letters.nd rfl (Or.inr rfl) (pe_lst pa_nil))
      (pss_cons (ps_for PassesOwn.never rfl (pi_range1 rfl T.b_range (pa_cons (pv 1) pa_nil)) (pg_name (i := 3) sc_law_letters.nd rfl (Or.inl rfl))
      (pss_cons (ps_setLc (i := 4) (own := [("_law_letter", 6)]) (g := gName 6) rfl sc_law_letters.nd rfl rfl (sw_true rfl rfl rfl (by decide +kernel)) (pi_str pe_str) (blkOk_by (own := [("_law_letter", 6)]) (N := N_law_letters) (sc := defScope s_law_letters) (by decide +kernel)) (fun _ _ _ _ _ => (pg_name (i := 6) sc_law_letters.nd rfl (Or.inl rfl))) (fun _ _ _ _ _ => (pts_one (pt_cmpR (op_notIn_seqK (K := K) rfl) (pv 6) (pv 2) (by rfl)))) (fun _ _ _ _ _ => (pv 6)))
      (pss_cons (ps_setLc (i := 5) (own := [("_law_letter", 6)]) (g := gName 6) rfl sc_law_letters.nd rfl rfl (sw_true rfl rfl rfl (by decide +kernel)) (pi_str pe_str) (blkOk_by (own := [("_law_letter", 6)]) (N := N_law_letters) (sc := defScope s_law_letters) (by decide +kernel)) (fun _ _ _ _ _ => (pg_name (i := 6) sc_law_letters.nd rfl (Or.inl rfl))) (fun _ _ _ _ _ => (pts_one (pt_cmpR (op_notIn_seqK (K := K) rfl) (pv 6) (pv 2) (by rfl)))) (fun _ _ _ _ _ => (pv 6)))
      (pss_one (ps_expr (pe_bm PySem.F.plainAttrs_list PySem.F.slot_list_append PySem.F.type_list_append mt_append (pv 2) (pa_cons (pcall G__law_one_of (hr.mono (by decide)) (pa_cons (pv 0) (pa_cons (pe_ifExp (pt_cmpR op_eq (pcall G__law_take (hr.mono (by decide)) (pa_cons (pv 0) (pa_cons pe_int pa_nil))) pe_int (nomark _)) (pv 4) (pv 5)) pa_nil))) pa_nil)))))))
      (pss_one (ps_ret (pe_callB cr_sortedS (by rfl) T.b_sorted (by decide +kernel) (pa_cons (pv 2) pa_nil)))))), ?_⟩
    refine ⟨Nat.zero_le _, fun p hp => ?_⟩
    have np : p ≠ j := hj.ne hp
    refine ⟨_, rfl, m, rfl, by omega, by omega, ?_⟩
    refine for_range (lo := 0) (n := m.toNat) (fun i σ H' => Chg j H H' ∧ JugAt H' j ∧ ∃ cs : List Nat, ∃ x3 x4 x5, σ = [some (.ref j), some (.int m), some (.ref p), x3, x4, x5, none] ∧ H' p = some (.lst (cs.map cS)) ∧ cs.length = i ∧ (∀ c ∈ cs, 97 ≤ c ∧ c ≤ 122) ∧ cs.Nodup)
      ⟨Chg.of (same_new hp), jug_upd np hj, [], _, _, _, rfl, upd_same, rfl, (fun c hc => by cases hc), List.nodup_nil⟩ ?_ ?_
    · rintro i σ H1 hi ⟨c1, hj1, cs, x3, x4, x5, rfl, hk, hl, hc, nd⟩
      unfold gName tSeq tAsg
      dsimp only
      refine lcF hk (by decide +kernel) fun H2 D2 s2 hD2 hd2 => ?_
      refine lcF (s2 _ _ hk) (by decide +kernel) fun H3 D3 s3 hD3 hd3 => ?_
      have hj3 := (hj1.same s2).same s3
      have neD2 : D2 ≠ j := hj1.ne hD2
      have neD3 : D3 ≠ j := (hj1.same s2).ne hD3
      refine ⟨_, rfl, .inl ⟨rfl, _, .inl (.inl (s3 _ _ (s2 _ _ hk)))⟩, _, rfl, _, rfl, j, 2, rfl, hj3, by decide, by decide, fun H4 kk c4 j4 k0 k2 => ⟨rfl, _, rfl, ?_⟩⟩
      generalize decide (V.int kk = V.int 0) = z
      cases z
      · refine iteF ⟨_, rfl, j, D3, _, rfl, j4, neD3, .inl (.inl (c4 _ _ (hd3) neD3)), ?_, ?_, fun H5 x c5 j5 hx => ?_⟩
        · intro z
          exact left_pos (S := (Str.ofString "abcdefghijklmnopqrstuvwxyz").cps.toList) (by decide +kernel) (by rw [all_n]; omega) (List.map_eq_nil_iff.mp z)
        · rw [List.length_map]
          exact Nat.lt_of_le_of_lt (List.length_filter_le _ _) (by decide +kernel)
        obtain ⟨c, hcm, rfl⟩ := List.mem_map.mp hx
        obtain ⟨cS1, cN'⟩ := List.mem_filter.mp hcm
        have cN : c ∉ cs := by simpa using cN'
        have hp5 := c5 _ _ (c4 _ _ (s3 _ _ (s2 _ _ hk)) np) np
        refine ⟨p, _, _, rfl, rfl, hp5, by rw [List.length_map]; exact Nat.lt_of_lt_of_le (show cs.length < 100 by omega) (sl_le (by decide)), ?_⟩
        refine ⟨chg_new (((c1.trans (Chg.of (s2.trans s3))).trans c4).trans c5) hp, ?_, cs ++ [c], _, _, _, rfl, by rw [upd_same, List.map_append]; rfl, by rw [List.length_append, hl]; rfl, ?_, ?_⟩
        · exact jug_upd np j5
        · intro c' hc'
          rcases List.mem_append.mp hc' with z | z
          · exact hc c' z
          · cases List.mem_singleton.mp z
            exact all_let c cS1
        · refine List.nodup_append.mpr ⟨nd, by simp, ?_⟩
          intro u hu v hv e
          cases List.mem_singleton.mp hv
          exact cN (e ▸ hu)
      · refine iteT ⟨_, rfl, j, D2, _, rfl, j4, neD2, .inl (.inl (c4 _ _ (s3 _ _ hd2) neD2)), ?_, ?_, fun H5 x c5 j5 hx => ?_⟩
        · intro z
          exact left_pos (S := (Str.ofString "xyzuvw").cps.toList) (by decide +kernel) (by rw [near_n]; omega) (List.map_eq_nil_iff.mp z)
        · rw [List.length_map]
          exact Nat.lt_of_le_of_lt (List.length_filter_le _ _) (by decide +kernel)
        obtain ⟨c, hcm, rfl⟩ := List.mem_map.mp hx
        obtain ⟨cS1, cN'⟩ := List.mem_filter.mp hcm
        have cN : c ∉ cs := by simpa using cN'
        have hp5 := c5 _ _ (c4 _ _ (s3 _ _ (s2 _ _ hk)) np) np
        refine ⟨p, _, _, rfl, rfl, hp5, by rw [List.length_map]; exact Nat.lt_of_lt_of_le (show cs.length < 100 by omega) (sl_le (by decide)), ?_⟩
        refine ⟨chg_new (((c1.trans (Chg.of (s2.trans s3))).trans c4).trans c5) hp, ?_, cs ++ [c], _, _, _, rfl, by rw [upd_same, List.map_append]; rfl, by rw [List.length_append, hl]; rfl, ?_, ?_⟩
        · exact jug_upd np j5
        · intro c' hc'
          rcases List.mem_append.mp hc' with z | z
          · exact hc c' z
          · cases List.mem_singleton.mp z
            exact near_let c cS1
        · refine List.nodup_append.mpr ⟨nd, by simp, ?_⟩
          intro u hu v hv e
          cases List.mem_singleton.mp hv
          exact cN (e ▸ hu)
    · rintro σ H1 ⟨c1, hj1, cs, x3, x4, x5, rfl, hk, hl, hc, nd⟩
      refine ⟨_, rfl, p, cs.map ch, rfl, .inl (.inl (by rw [List.map_map]; exact hk)), by rw [List.length_map]; omega, fun ys q hperm hsort hq => ?_⟩
      obtain ⟨l, rfl, pl, as⟩ := sorted_ch hperm hsort nd
      have hq0 := none_chg c1 hj1 hq
      exact k _ q l (chg_new c1 hq0) (jug_upd (hj1.ne hq) hj1) hq0 (by rw [upd_same, List.map_map]; rfl) (by rw [pl.length_eq, hl]; omega) (fun c h => hc c (pl.mem_iff.mp h)) as
end
end K1
namespace K1
open PySem PySem.Spec L2 Z
section
variable {P : Program} {w : World} {K : PySem.W.Frag} {mg : Str → Option Value} {base : Heap} {C : Addr}
theorem ok_law_drawn_cells (T : Txt K mg C) (G__law_take : Pr P w K mg base "_law_take" s_law_take 1 ["_law_jug_here", "_law_many"] sp_law_take) (G__law_one_of : Pr P w K mg base "_law_one_of" s_law_one_of 2 ["_law_jug_here", "_law_some"] (sp_law_one_of K)) : Pr P w K mg base "_law_drawn_cells" s_law_drawn_cells 3 ["_law_jug_here", "_law_most"] (sp_law_drawn_cells K) := by
  obtain ⟨f, fd, F, gl, bd⟩ := T.d__law_drawn_cells
  refine ⟨f, fd, F, gl, bd, F.ok sc_law_drawn_cells (fun vs H Q E h => ?_) (fun cdv A outer s H vs Q E hr h => ?_)⟩
  · obtain ⟨j, m, rfl, _⟩ := h
    rfl
  · obtain ⟨j, m, rfl, hj, m1, m2, k⟩ := h
    have hu := hu_of hr
    refine ⟨_, (pss_cons (ps_par3 (i := 2) (j := 3) (l := 4) rfl sc_law_drawn_cells.nd rfl rfl rfl (by decide) (by decide) (by decide) rfl rfl rfl (pa_cons (pcall G__law_take (hr.mono (by decide)) (pa_cons (pv 0) (pa_cons (pe_op op_add (pv 1) pe_int) pa_nil))) (pa_cons (pcall G__law_one_of (hr.mono (by decide)) (pa_cons (pv 0) (pa_cons (pe_lst (pa_cons pe_int (pa_cons pe_int (pa_cons pe_int (pa_cons pe_int (pa_cons pe_int pa_nil)))))) pa_nil))) (pa_cons (pe_lst pa_nil) pa_nil))) (by rfl))
      (pss_cons (ps_for PassesOwn.never rfl (pi_range1 rfl T.b_range (pa_cons (pv 2) pa_nil)) (pg_name (i := 5) sc_law_drawn_cells.nd rfl (Or.inl rfl))
      (pss_cons (ps_set (i := 3) sc_law_drawn_cells.nd rfl (Or.inl rfl) (pe_op op_add (pe_op op_add (pv 3) pe_int) (pe_callTy call_int1 (by rfl) T.b_int (by decide +kernel) (pa_cons (pe_cmpR op_eq (pcall G__law_take (hr.mono (by decide)) (pa_cons (pv 0) (pa_cons pe_int pa_nil))) pe_int (nomark _)) pa_nil))))
      (pss_one (ps_expr (pe_bm PySem.F.plainAttrs_list PySem.F.slot_list_append PySem.F.type_list_append mt_append (pv 4) (pa_cons (pv 3) pa_nil))))))
      (pss_cons (ps_par (i := 6) (j := 7) rfl sc_law_drawn_cells.nd rfl rfl (by decide) rfl rfl (pa_cons (pe_op op_cat (pe_op op_cat (pe_lst (pa_cons pe_int pa_nil)) (pv 4)) (pe_lst (pa_cons (pe_op op_add (pv 3) pe_int) (pa_cons (pe_op op_add (pv 3) pe_int) pa_nil)))) (pa_cons (pe_lst pa_nil) pa_nil)) (by rfl))
      (pss_cons (ps_for PassesOwn.never rfl (pi_enum rfl T.b_enumerate (pa_cons (pv 4) pa_nil)) (pg_tup rfl (pgs_cons (pg_name (i := 8) sc_law_drawn_cells.nd rfl (Or.inl rfl)) (pgs_cons (pg_name (i := 9) sc_law_drawn_cells.nd rfl (Or.inl rfl)) pgs_nil)))
      (pss_cons (ps_set (i := 10) sc_law_drawn_cells.nd rfl (Or.inl rfl) (pe_ix ix_list (pv 6) (pe_op op_add (pv 8) pe_int) (fun _ _ => rfl)))
      (pss_cons (ps_if (pt_cmpR op_gt (pcall G__law_take (hr.mono (by decide)) (pa_cons (pv 0) (pa_cons pe_int pa_nil))) pe_int (nomark _)) (pss_one (ps_set (i := 10) sc_law_drawn_cells.nd rfl (Or.inl rfl) (pcall G__law_one_of (hr.mono (by decide)) (pa_cons (pv 0) (pa_cons (pv 6) pa_nil))))) pss_nil)
      (pss_one (ps_expr (pe_bm PySem.F.plainAttrs_list PySem.F.slot_list_append PySem.F.type_list_append mt_append (pv 7) (pa_cons (pe_tup (pa_cons (pv 9) (pa_cons (pv 10) pa_nil))) pa_nil)))))))
      (pss_one (ps_ret (pe_tup (pa_cons (pv 7) (pa_cons (pv 6) pa_nil))))))))), ?_⟩
    refine ⟨_, rfl, _, rfl, _, _, rfl, rfl, j, m + 1, rfl, hj, by omega, by omega, fun H1 many c1 j1 n0 n1 => ?_⟩
    refine ⟨_, rfl, by show 5 ≤ sizeLine; exact sl_le (by decide), fun l0 hl0 => ?_⟩
    have nl0 := j1.ne hl0
    refine ⟨j, l0, _, rfl, jug_upd nl0 j1, nl0, .inl (.inl upd_same), by simp, by simp, fun H2 x c2 j2 hx => ?_⟩
    have c02 : Chg j H H2 := (c1.trans (Chg.of (same_new hl0))).trans c2
    obtain ⟨la, rfl, la0, la9⟩ : ∃ z : Int, x = .int z ∧ 0 ≤ z ∧ z ≤ 900 := by
      simp only [List.mem_cons, List.not_mem_nil, or_false] at hx
      rcases hx with rfl | rfl | rfl | rfl | rfl <;> exact ⟨_, rfl, by decide, by decide⟩
    refine ⟨Nat.zero_le _, fun p hp2 => ⟨_, _, _, rfl, ?_⟩⟩
    have hp := none_chg c02 j2 hp2
    have np := j2.ne hp2
    refine ⟨_, rfl, many, rfl, by omega, by omega, ?_⟩
    refine for_range (lo := 0) (n := many.toNat) (fun i σ H' => Chg j H H' ∧ JugAt H' j ∧ ∃ (la : Int) (ps : List Int), ∃ x5, σ = [some (.ref j), some (.int m), some (.int many), some (.int la), some (.ref p), x5, none, none, none, none, none] ∧
      H' p = some (.lst (ps.map V.int)) ∧ ps.length = i ∧ 0 ≤ la ∧ la ≤ 900 + 2 * (i : Int) ∧ (∀ x ∈ ps, 1 ≤ x ∧ x ≤ la) ∧ ps.Pairwise (· < ·)) ⟨chg_new c02 hp, jug_upd np j2, la, [], _, rfl, upd_same, rfl, la0, by omega, (by simp), .nil⟩ ?_ ?_
    · rintro i σ H3 hi ⟨c3, j3, la, ps, x5, rfl, hk, hl, b1, b2, hps, asc⟩
      refine ⟨_, rfl, _, _, rfl, rfl, _, rfl, j, 3, rfl, j3, by decide, by decide, fun H4 kk c4 j4 k0 k3 => ⟨rfl, .inr ⟨_, rfl, _, _, rfl, rfl, ?_⟩⟩⟩
      generalize hd : (if decide (V.int kk = V.int 2) = true then (1 : Int) else 0) = d
      have hd2 : 0 ≤ d ∧ d ≤ 1 := by
        subst hd
        split <;> omega
      have hk4 := c4 _ _ hk np
      refine ⟨_, rfl, .inl ⟨rfl, _, .inl (.inl hk4)⟩, _, rfl, p, _, _, rfl, rfl, hk4, by rw [List.length_map]; exact Nat.lt_of_lt_of_le (show ps.length < 100 by omega) (sl_le (by decide)), ?_⟩
      refine ⟨chg_new (c3.trans c4) hp, jug_upd np j4, la + 1 + d, ps ++ [la + 1 + d], _, rfl, by rw [upd_same, List.map_append]; rfl, by rw [List.length_append, hl]; rfl, by omega, by omega, ?_, ?_⟩
      · intro x hx
        rcases List.mem_append.mp hx with z | z
        · have := hps x z
          omega
        · have := List.mem_singleton.mp z
          omega
      · refine List.pairwise_append.mpr ⟨asc, List.pairwise_singleton _ _, fun u hu v hv => ?_⟩
        have h1 := hps u hu
        have h2 := List.mem_singleton.mp hv
        omega
    rintro σ H3 ⟨c3, j3, la, ps, x5, rfl, hk, hl, b1, b2, hps, asc⟩
    have nl : ps.length ≤ 30 := by omega
    refine ⟨by show 1 ≤ sizeLine; exact sl_le (by decide), fun l1 hl1 => ?_⟩
    have s1 := same_new (o := .lst [V.int 0]) hl1
    refine ⟨_, rfl, l1, p, _, _, rfl, rfl, upd_same, s1 _ _ hk, by rw [List.length_map]; exact sl_le (by show 1 + ps.length ≤ _; omega), fun l2 hl2 => ?_⟩
    have s2 := s1.trans (same_new (o := .lst ([V.int 0] ++ ps.map V.int)) hl2)
    have e2 : upd (upd H3 l1 (.lst [V.int 0])) l2 (.lst ([V.int 0] ++ ps.map V.int)) l2 = some (.lst ([V.int 0] ++ ps.map V.int)) := upd_same
    generalize upd (upd H3 l1 (.lst [V.int 0])) l2 (.lst ([V.int 0] ++ ps.map V.int)) = A2 at s2 e2 ⊢
    refine ⟨_, rfl, _, _, rfl, rfl, _, rfl, _, _, rfl, rfl, by show 2 ≤ sizeLine; exact sl_le (by decide), fun l3 hl3 => ?_⟩
    have s3 := same_new (o := .lst [V.int (la + 1), V.int (la + 2)]) hl3
    refine ⟨l2, l3, _, _, rfl, rfl, s3 _ _ e2, upd_same, by rw [List.length_append, List.length_map]; exact sl_le (by show 1 + ps.length + 2 ≤ _; omega), fun pg hpg => ?_⟩
    have s23 := s2.trans s3
    have gg : ([V.int 0] ++ ps.map V.int) ++ [V.int (la + 1), V.int (la + 2)] = (0 :: (ps ++ [la + 1, la + 2])).map V.int := by simp
    rw [gg]
    have g9 : ∀ x ∈ (0 :: (ps ++ [la + 1, la + 2])), 0 ≤ x ∧ x ≤ 999 := by
      intro x hx
      simp only [List.mem_cons, List.mem_append, List.not_mem_nil, or_false] at hx
      rcases hx with rfl | hx | rfl | rfl
      · omega
      · have := hps x hx
        omega
      · omega
      · omega
    have glen : (0 :: (ps ++ [la + 1, la + 2])).length = ps.length + 3 := by simp
    have gmid : ∀ x ∈ ps, x ≤ 960 := fun x hx => by
      have := hps x hx
      omega
    generalize (0 :: (ps ++ [la + 1, la + 2])) = gs at g9 glen gg ⊢
    have hpg3 := none_of s23 hpg
    have hpg0 := none_chg c3 j3 hpg3
    have npg : pg ≠ j := j3.ne hpg3
    have s4 := s23.trans (same_new (o := .lst (gs.map V.int)) hpg)
    refine ⟨Nat.zero_le _, fun pc hpc => ⟨_, _, rfl, ?_⟩⟩
    have g4 := (same_new (o := .lst []) hpc) pg _ (upd_same (H := upd A2 l3 (.lst [V.int (la + 1), V.int (la + 2)])) (o := .lst (gs.map V.int)))
    have hpc3 := none_of s4 hpc
    have hpc0 := none_chg c3 j3 hpc3
    have npc : pc ≠ j := j3.ne hpc3
    have npp : p ≠ pc := ne_of_none hk hpc3
    have npg' : pg ≠ pc := fun z => by
      rw [← z, upd_same] at hpc
      cases hpc
    have s5 := s4.trans (same_new (o := .lst []) hpc)
    have k5 := upd_same (H := upd (upd A2 l3 (.lst [V.int (la + 1), V.int (la + 2)])) pg (.lst (gs.map V.int))) (a := pc) (o := .lst [])
    generalize upd (upd (upd A2 l3 (.lst [V.int (la + 1), V.int (la + 2)])) pg (.lst (gs.map V.int))) pc (.lst []) = A5 at s5 k5 g4 ⊢
    refine ⟨_, rfl, p, _, rfl, .inl (.inl (s5 _ _ hk)), ?_⟩
    refine K1.for_it (n := ps.length) (fun i σ H' => Chg j H H' ∧ JugAt H' j ∧ H' p = some (.lst (ps.map V.int)) ∧ H' pg = some (.lst (gs.map V.int)) ∧ ∃ (rs : List Addr) (cs : List (Int × Int)), ∃ x8 x9 x10,
      σ = [some (.ref j), some (.int m), some (.int many), some (.int la), some (.ref p), x5, some (.ref pg), some (.ref pc), x8, x9, x10] ∧
      H' pc = some (.lst (rs.map V.ref)) ∧ Paired (fun b (p : V × V) => SqT K H' b [p.1, p.2]) rs (cs.map cV) ∧ cs.map (·.1) = ps.take i ∧ ∀ q ∈ cs, q.2 ∈ gs)
      ⟨c3.trans (Chg.of s5), j3.same s5, s5 _ _ hk, g4, [], [], _, _, _, rfl, k5, .nil, rfl, (by simp)⟩ (fun i σ H' hi h => ⟨ps.map V.int, (ps.map V.int)[i]'(by simpa using hi), .inl (.inl h.2.2.1), List.getElem?_eq_getElem _⟩) (fun σ H' h => ⟨ps.map V.int, .inl (.inl h.2.2.1), by simp⟩) ?_ ?_
    · rintro i v σ H6 H7 hi ⟨c6, j6, p6, g6, rs, cs, x8, x9, x10, rfl, hk6, hp6, hf, hg⟩ ⟨T0, x, rfl, hT, rfl, y⟩
      obtain ⟨z, ez, rfl⟩ := map_at (y _ (.inl (.inl p6)))
      have lr : rs.length = i := by
        rw [Paired.len hp6, List.length_map]
        have := congrArg List.length hf
        rw [List.length_map, List.length_take] at this
        omega
      refine ⟨T0, _, rfl, .inl (.inl upd_same), rfl, _, _, rfl, _, _, rfl, rfl, ?_⟩
      have s7 := same_new (o := .tup [V.int (i : Nat), V.int z]) hT
      generalize upd H6 T0 (.tup [V.int (i : Nat), V.int z]) = H7 at s7 ⊢
      obtain ⟨y0, hy0, hat⟩ := at_of (xs := gs.map V.int) (k := (i : Int) + 2) (by omega) (by rw [List.length_map, glen]; omega)
      obtain ⟨gz, rfl, hgz⟩ := ints_mem hy0
      refine ⟨_, rfl, _, rfl, _, _, rfl, rfl, pg, _, _, _, rfl, rfl, .inl (.inl (s7 _ _ g6)), hat, ?_⟩
      refine ⟨_, rfl, j, 3, rfl, j6.same s7, by decide, by decide, fun H8 kk c8 j8 k0 k3 => ⟨_, _, rfl, rfl, _, rfl, ?_⟩⟩
      generalize decide (0 < kk) = w
      cases w
      · refine iteF ?_
        have cX : Chg j H6 H8 := (Chg.of s7).trans c8
        have iX := chg_imm cX j6
        have jX := j8
        have hgX := hgz
        clear c8 j8
        generalize H8 = HX at *
        generalize gz = gX at *
        refine ⟨_, rfl, .inl ⟨rfl, _, .inl (.inl (cX _ _ hk6 npc))⟩, _, rfl, _, rfl, by show 2 ≤ sizeLine; exact sl_le (by decide), fun b hb => ?_⟩
        have sY := same_new (o := .tup [V.int z, V.int gX]) hb
        have bY : upd HX b (.tup [V.int z, V.int gX]) b = some (.tup [V.int z, V.int gX]) := upd_same
        generalize upd HX b (.tup [V.int z, V.int gX]) = HY at sY bY ⊢
        have kY := sY _ _ (cX _ _ hk6 npc)
        have iZ : Imm HY (upd HY pc (.lst (rs.map V.ref ++ [V.ref b]))) := Chg.imm Chg.upd kY trivial
        refine ⟨pc, _, _, rfl, rfl, kY, by rw [List.length_map, lr]; exact Nat.lt_of_lt_of_le (show i < 100 by omega) (sl_le (by decide)), ?_⟩
        refine ⟨chg_new ((c6.trans cX).trans (Chg.of sY)) hpc0, jug_upd npc (jX.same sY), ?_, ?_, rs ++ [b], cs ++ [(z, gX)], _, _, _, rfl, by rw [upd_same, List.map_append]; rfl, ?_, ?_, ?_⟩
        · rw [upd_ne npp]
          exact sY _ _ (cX _ _ p6 np)
        · rw [upd_ne npg']
          exact sY _ _ (cX _ _ g6 npg)
        · rw [List.map_append]
          exact Paired.snoc (F := fun b (p : V × V) => SqT K _ b [p.1, p.2]) (x := b) (y := cV (z, gX)) (.inl (.inl (iZ.1 _ _ bY))) (Paired.imm ((iX.trans (.of sY)).trans iZ) hp6)
        · rw [List.map_append, hf, List.take_add_one, ez]
          rfl
        · intro q hq
          rcases List.mem_append.mp hq with w | w
          · exact hg q w
          · rw [List.mem_singleton.mp w]
            exact hgX
      · refine iteT ⟨_, rfl, _, rfl, j, pg, _, rfl, j8, npg, .inl (.inl (c8 _ _ (s7 _ _ g6) npg)), ?_, ?_, fun H9 x c9 j9 hx => ?_⟩
        · intro q
          have := congrArg List.length q
          rw [List.length_map, glen] at this
          cases this
        · rw [List.length_map, glen]
          omega
        obtain ⟨gX, rfl, hgX⟩ := ints_mem hx
        have cX : Chg j H6 H9 := ((Chg.of s7).trans c8).trans c9
        have iX := chg_imm cX j6
        have jX := j9
        clear c9 j9 c8 j8
        generalize H9 = HX at *
        refine ⟨_, rfl, .inl ⟨rfl, _, .inl (.inl (cX _ _ hk6 npc))⟩, _, rfl, _, rfl, by show 2 ≤ sizeLine; exact sl_le (by decide), fun b hb => ?_⟩
        have sY := same_new (o := .tup [V.int z, V.int gX]) hb
        have bY : upd HX b (.tup [V.int z, V.int gX]) b = some (.tup [V.int z, V.int gX]) := upd_same
        generalize upd HX b (.tup [V.int z, V.int gX]) = HY at sY bY ⊢
        have kY := sY _ _ (cX _ _ hk6 npc)
        have iZ : Imm HY (upd HY pc (.lst (rs.map V.ref ++ [V.ref b]))) := Chg.imm Chg.upd kY trivial
        refine ⟨pc, _, _, rfl, rfl, kY, by rw [List.length_map, lr]; exact Nat.lt_of_lt_of_le (show i < 100 by omega) (sl_le (by decide)), ?_⟩
        refine ⟨chg_new ((c6.trans cX).trans (Chg.of sY)) hpc0, jug_upd npc (jX.same sY), ?_, ?_, rs ++ [b], cs ++ [(z, gX)], _, _, _, rfl, by rw [upd_same, List.map_append]; rfl, ?_, ?_, ?_⟩
        · rw [upd_ne npp]
          exact sY _ _ (cX _ _ p6 np)
        · rw [upd_ne npg']
          exact sY _ _ (cX _ _ g6 npg)
        · rw [List.map_append]
          exact Paired.snoc (F := fun b (p : V × V) => SqT K _ b [p.1, p.2]) (x := b) (y := cV (z, gX)) (.inl (.inl (iZ.1 _ _ bY))) (Paired.imm ((iX.trans (.of sY)).trans iZ) hp6)
        · rw [List.map_append, hf, List.take_add_one, ez]
          rfl
        · intro q hq
          rcases List.mem_append.mp hq with w | w
          · exact hg q w
          · rw [List.mem_singleton.mp w]
            exact hgX
    rintro σ H6 ⟨c6, j6, p6, g6, rs, cs, x8, x9, x10, rfl, hk6, hp6, hf, hg⟩
    rw [List.take_length] at hf
    have lcs : cs.length = ps.length := by rw [← hf, List.length_map]
    refine ⟨_, rfl, _, rfl, by show 2 ≤ sizeLine; exact sl_le (by decide), fun t htn => ?_⟩
    have st := same_new (o := .tup [V.ref pc, V.ref pg]) htn
    refine k _ t pc pg rs cs gs (c6.trans (Chg.of st)) (j6.same st) upd_same hpc0 (st _ _ hk6) (Paired.imm (.of st) hp6) hpg0 (st _ _ g6) ?_ (by omega) g9 ⟨by omega, ?_, by rw [hf]; exact asc⟩
    · intro q
      rw [q] at glen
      cases glen
    · intro q hq
      have h1 : q.1 ∈ ps := hf ▸ List.mem_map_of_mem hq
      have h2 := hps _ h1
      have h3 := g9 _ (hg q hq)
      omega
end
end K1
namespace K1
open PySem PySem.Spec L2 Z
section
variable {P : Program} {w : World} {K : PySem.W.Frag} {mg : Str → Option Value} {base : Heap} {C : Addr}
theorem ok_is_tuple_of (T : Txt K mg C)  : Pr P w K mg base "is_tuple_of" s_is_tuple_of 1 ["value", "many"] (sp_is_tuple_of K) := by
  obtain ⟨f, fd, F, gl, bd⟩ := T.d_is_tuple_of
  refine ⟨f, fd, F, gl, bd, F.ok sc_is_tuple_of (fun vs H Q E h => ?_) (fun cdv A outer s H vs Q E hr h => ?_)⟩
  · obtain ⟨a, xs, rfl, _⟩ := h
    rfl
  · obtain ⟨a, xs, rfl, h, k⟩ := h
    have hu := hu_of hr
    refine ⟨_, (pss_one (ps_ret (pe_and (pe_callB call_isi (by rfl) T.b_isinstance (by decide +kernel) (pa_cons (pv 0) (pa_cons (pe_bty "tuple" (by rfl) T.b_tuple (by decide +kernel)) pa_nil))) (pe_one (pe_cmpR op_eq (pe_callB call_len_seq (by rfl) T.b_len (by decide +kernel) (pa_cons (pv 0) pa_nil)) (pv 1) (nomark _)))))), ?_⟩
    refine ⟨_, rfl, _, _, _, _, _, rfl, .ty _, SqT.ty h, kit_ty (r := true) (by decide +kernel), _, rfl, ?_⟩
    refine iteT ⟨_, rfl, a, xs, rfl, .inr h, _, rfl, rfl, ?_⟩
    have e : decide (V.int (xs.length : Int) = V.int (xs.length : Int)) = true := decide_eq_true rfl
    rw [e]
    exact k
end
end K1
namespace K1
open PySem PySem.Spec L2 Z
section
variable {P : Program} {w : World} {K : PySem.W.Frag} {mg : Str → Option Value} {base : Heap} {C : Addr}
theorem ok_is_number (T : Txt K mg C)  : Pr P w K mg base "is_number" s_is_number 1 ["value"] sp_is_number := by
  obtain ⟨f, fd, F, gl, bd⟩ := T.d_is_number
  refine ⟨f, fd, F, gl, bd, F.ok sc_is_number (fun vs H Q E h => ?_) (fun cdv A outer s H vs Q E hr h => ?_)⟩
  · obtain ⟨i, rfl, _⟩ := h
    rfl
  · obtain ⟨i, rfl, k⟩ := h
    have hu := hu_of hr
    refine ⟨_, (pss_one (ps_ret (pe_and (pe_callB call_isi (by rfl) T.b_isinstance (by decide +kernel) (pa_cons (pv 0) (pa_cons (pe_bty "int" (by rfl) T.b_int (by decide +kernel)) pa_nil))) (pe_one (pe_not (pe_callB call_isi (by rfl) T.b_isinstance (by decide +kernel) (pa_cons (pv 0) (pa_cons (pe_bty "bool" (by rfl) T.b_bool (by decide +kernel)) pa_nil)))))))), ?_⟩
    refine ⟨_, rfl, _, _, _, _, _, rfl, .ty _, .base (.int i), kit_ty (r := true) (by decide +kernel), _, rfl, ?_⟩
    refine iteT ?_
    exact ⟨_, rfl, _, _, _, _, _, rfl, .ty _, .base (.int i), kit_ty (r := false) (by decide +kernel), _, rfl, k⟩
end
end K1
namespace K1
open PySem PySem.Spec L2 Z
section
variable {P : Program} {w : World} {K : PySem.W.Frag} {mg : Str → Option Value} {base : Heap} {C : Addr}
theorem ok_is_whole (T : Txt K mg C) (G_is_number : Pr P w K mg base "is_number" s_is_number 1 ["value"] sp_is_number) : Pr P w K mg base "is_whole" s_is_whole 2 ["value", "low", "high"] sp_is_whole := by
  obtain ⟨f, fd, F, gl, bd⟩ := T.d_is_whole
  refine ⟨f, fd, F, gl, bd, F.ok sc_is_whole (fun vs H Q E h => ?_) (fun cdv A outer s H vs Q E hr h => ?_)⟩
  · obtain ⟨i, lo, hi, rfl, _⟩ := h
    rfl
  · obtain ⟨i, lo, hi, rfl, h1, h2, k⟩ := h
    have hu := hu_of hr
    refine ⟨_, (pss_one (ps_ret (pe_and (pcall G_is_number (hr.mono (by decide)) (pa_cons (pv 0) pa_nil)) (pe_one (pe_chain op_le op_le (pv 1) (pv 0) (pv 2)))))), ?_⟩
    refine ⟨_, rfl, _, rfl, _, rfl, iteT ?_⟩
    refine ⟨_, rfl, _, rfl, _, _, rfl, rfl, _, rfl, ?_⟩
    rw [decide_eq_true h1]
    refine iteT ⟨_, rfl, _, _, rfl, rfl, ?_⟩
    show Q (.bl (decide (i ≤ hi))) H
    rw [decide_eq_true h2]
    exact k
end
end K1
namespace K1
open PySem PySem.Spec L2 Z
section
variable {P : Program} {w : World} {K : PySem.W.Frag} {mg : Str → Option Value} {base : Heap} {C : Addr}
theorem ok_is_place (T : Txt K mg C) (G_is_whole : Pr P w K mg base "is_whole" s_is_whole 2 ["value", "low", "high"] sp_is_whole) : Pr P w K mg base "is_place" s_is_place 3 ["value"] sp_is_place := by
  obtain ⟨f, fd, F, gl, bd⟩ := T.d_is_place
  refine ⟨f, fd, F, gl, bd, F.ok sc_is_place (fun vs H Q E h => ?_) (fun cdv A outer s H vs Q E hr h => ?_)⟩
  · obtain ⟨i, rfl, _⟩ := h
    rfl
  · obtain ⟨i, rfl, h1, h2, k⟩ := h
    have hu := hu_of hr
    refine ⟨_, (pss_one (ps_ret (pcall G_is_whole (hr.mono (by decide)) (pa_cons (pv 0) (pa_cons (pe_globI rfl T.c_END) (pa_cons (pe_globI rfl T.c_LAST_PLACE) pa_nil)))))), ?_⟩
    exact ⟨_, rfl, i, 0, 999, rfl, h1, h2, k⟩
end
end K1
namespace K1
open PySem PySem.Spec L2 Z
section
variable {P : Program} {w : World} {K : PySem.W.Frag} {mg : Str → Option Value} {base : Heap} {C : Addr}
theorem ok_wrong_cell (T : Txt K mg C) (G_is_tuple_of : Pr P w K mg base "is_tuple_of" s_is_tuple_of 1 ["value", "many"] (sp_is_tuple_of K)) (G_is_place : Pr P w K mg base "is_place" s_is_place 3 ["value"] sp_is_place) : Pr P w K mg base "_wrong_cell" s_wrong_cell 4 ["cells"] (sp_wrong_cell K) := by
  obtain ⟨f, fd, F, gl, bd⟩ := T.d__wrong_cell
  refine ⟨f, fd, F, gl, bd, F.ok sc_wrong_cell (fun vs H Q E h => ?_) (fun cdv A outer s H vs Q E hr h => ?_)⟩
  · obtain ⟨v, cs, rfl, _⟩ := h
    rfl
  · obtain ⟨v, cs, rfl, ⟨a, rs, rfl, ht, hp⟩, ok, k⟩ := h
    have hu := hu_of hr
    refine ⟨_, (pss_cons (ps_set (i := 1) sc_wrong_cell.nd rfl (Or.inl rfl) (pe_globI rfl T.c_END))
      (pss_cons (ps_for PassesOwn.never rfl (pi_enumT rfl T.b_enumerate (pa_cons (pv 0) pa_nil)) (pg_tup rfl (pgs_cons (pg_name (i := 2) sc_wrong_cell.nd rfl (Or.inl rfl)) (pgs_cons (pg_name (i := 3) sc_wrong_cell.nd rfl (Or.inl rfl)) pgs_nil)))
      (pss_cons (ps_if (PW.pt (pw_or (pt_cmpR op_ge (pv 2) (pe_globI rfl T.c_MOST_CELLS) (nomark _)) (pw_or (pt_not (pt_val (pcall G_is_tuple_of (hr.mono (by decide)) (pa_cons (pv 3) (pa_cons pe_int pa_nil))))) (pw_or (pt_not (pt_val (pcall G_is_place (hr.mono (by decide)) (pa_cons (pe_ix ix_tup (pv 3) pe_int (fun _ _ => rfl)) pa_nil)))) (pw_or1 (pt_not (pt_val (pcall G_is_place (hr.mono (by decide)) (pa_cons (pe_ix ix_tup (pv 3) pe_int (fun _ _ => rfl)) pa_nil))))))))) (pss_one (ps_ret (pv 2))) pss_nil)
      (pss_cons (ps_if (pt_cmpR op_le (pe_ix ix_tup (pv 3) pe_int (fun _ _ => rfl)) (pv 1) (nomark _)) (pss_one (ps_ret (pv 2))) pss_nil)
      (pss_one (ps_set (i := 1) sc_wrong_cell.nd rfl (Or.inl rfl) (pe_ix ix_tup (pv 3) pe_int (fun _ _ => rfl)))))))
      (pss_one (ps_ret pe_non)))), ?_⟩
    have o4 := ok.few
    refine ⟨_, rfl, a, _, rfl, ht.sq, ?_⟩
    refine for_enumP (fun i σ H' => Same H H' ∧ ∃ b : Int, ∃ x y, σ = [some (.ref a), some (.int b), x, y] ∧ ∀ p, cs[i]? = some p → b < p.1) ⟨fun b o e => e, _, _, _, rfl, fun p e => (ok.pl p (List.mem_of_getElem? e)).1⟩ ht hp ?_ ?_ ?_
    · rintro i σ H' ⟨s, _⟩
      exact s
    · rintro i b p σ H' t eb ep hq ⟨sm, z, x0, y0, rfl, hlt⟩ hn
      obtain ⟨q, eq, rfl⟩ := map_at ep
      have hm := List.mem_of_getElem? eq
      obtain ⟨p1, p2, p3, p4⟩ := ok.pl q hm
      have hi : i < cs.length := (List.getElem?_eq_some_iff.mp eq).1
      have sm2 : Same H (upd H' t (.tup [.int (i : Nat), .ref b])) := sm.trans (same_new hn)
      have hq2 : SqT K (upd H' t (.tup [.int (i : Nat), .ref b])) b [(cV q).1, (cV q).2] := SqT.imm (.of (same_new hn)) hq
      refine ⟨t, _, rfl, .inl (.inl upd_same), rfl, _, _, rfl, _, _, rfl, rfl, ?_⟩
      refine ⟨_, rfl, _, _, rfl, rfl, false, congrArg V.bl (decide_eq_false (by omega)), iteF ?_⟩
      refine ⟨_, rfl, b, _, rfl, hq2, _, rfl, iteF ?_⟩
      refine ⟨_, rfl, b, _, 0, _, rfl, rfl, hq2, at_first, q.1, rfl, by omega, p2, _, rfl, iteF ?_⟩
      refine ⟨_, rfl, b, _, 1, _, rfl, rfl, hq2, at_snd, q.2, rfl, p3, p4, _, rfl, iteF ?_⟩
      have hz := hlt q eq
      refine ⟨_, rfl, b, _, 0, _, rfl, rfl, hq2, at_first, _, rfl, _, _, rfl, rfl, false, congrArg V.bl (decide_eq_false (by omega)), iteF ?_⟩
      exact ⟨_, rfl, b, _, 0, _, rfl, rfl, hq2, at_first, sm2, _, _, _, rfl, fun p hp => asc_atI ok.asc eq hp⟩
    · rintro σ H' ⟨s, _⟩
      exact k _ s
end
end K1
namespace K1
open PySem PySem.Spec L2 Z
section
variable {P : Program} {w : World} {K : PySem.W.Frag} {mg : Str → Option Value} {base : Heap} {C : Addr}
theorem ok_store_text (T : Txt K mg C)  : Pr P w K mg base "_store_text" s_store_text 1 ["names", "cells"] (sp_store_text K) := by
  obtain ⟨f, fd, F, gl, bd⟩ := T.d__store_text
  refine ⟨f, fd, F, gl, bd, F.ok sc_store_text (fun vs H Q E h => ?_) (fun cdv A outer s H vs Q E hr h => ?_)⟩
  · obtain ⟨v, u, ns, cs, rfl, _⟩ := h
    rfl
  · obtain ⟨v, u, ns, cs, rfl, ⟨a, rs, rfl, ht, hp⟩, ⟨b, qs, rfl, ht2, hp2⟩, ok, ck, k⟩ := h
    have hu := hu_of hr
    refine ⟨_, (pss_cons (ps_set (i := 2) sc_store_text.nd rfl (Or.inl rfl) (pe_join pe_str (pe_lc (own := [("letter", 4), ("place", 5)]) (g := gTup K 2 (gCons (gName 4) (gCons (gName 5) gNil))) (tt := tYes) rfl sc_store_text.nd (pi_tup (pv 0)) (blkOk_by (own := [("letter", 4), ("place", 5)]) (N := N_store_text) (sc := defScope s_store_text) (by decide +kernel)) (fun _ _ _ _ _ => (pg_tup rfl (pgs_cons (pg_name (i := 4) sc_store_text.nd rfl (Or.inl rfl)) (pgs_cons (pg_name (i := 5) sc_store_text.nd rfl (Or.inl rfl)) pgs_nil)))) (fun _ _ _ _ _ => pts_nil) (fun _ _ _ _ _ => (pe_joined (PJ.cons (pe_fmt (pv 4)) (PJ.cons pe_str (PJ.cons (pe_fmt (pv 5)) PJ.nil))))))))
      (pss_cons (ps_set (i := 3) sc_store_text.nd rfl (Or.inl rfl) (pe_join pe_str (pe_lc (own := [("place", 5), ("to", 6)]) (g := gTup K 2 (gCons (gName 5) (gCons (gName 6) gNil))) (tt := tYes) rfl sc_store_text.nd (pi_tup (pv 1)) (blkOk_by (own := [("place", 5), ("to", 6)]) (N := N_store_text) (sc := defScope s_store_text) (by decide +kernel)) (fun _ _ _ _ _ => (pg_tup rfl (pgs_cons (pg_name (i := 5) sc_store_text.nd rfl (Or.inl rfl)) (pgs_cons (pg_name (i := 6) sc_store_text.nd rfl (Or.inl rfl)) pgs_nil)))) (fun _ _ _ _ _ => pts_nil) (fun _ _ _ _ _ => (pe_joined (PJ.cons (pe_fmt (pv 5)) (PJ.cons pe_str (PJ.cons (pe_fmt (pv 6)) PJ.nil))))))))
      (pss_one (ps_ret (pe_joined (PJ.cons (pe_fmt (pv 2)) (PJ.cons pe_str (PJ.cons (pe_fmt (pe_orT (pv 3) (pe_one pe_str))) PJ.nil)))))))), ?_⟩
    have o4 := ok.four
    have c4 := ck.few
    refine ⟨⟨_, rfl⟩, ?_⟩
    refine lcP nV (fun p => V.str (nameW p)) rfl ht hp (by omega) (fun b p H1 R sm hq hm hR => ?_) (fun H1 D sm hD hl => ?_)
    · obtain ⟨p1, p2⟩ := ok.pl p hm
      refine ⟨b, _, rfl, hq, rfl, _, _, rfl, _, _, rfl, rfl, rfl, ?_⟩
      refine ⟨_, rfl, .inl ⟨_, rfl, sl_le (by rw [ch_len]; decide), _, rfl, sl_le (by rw [emp_app, ch_len]; decide), _, rfl, sl_le (by rw [len_app, emp_app, ch_len, eq1_len]; decide), _, rfl, .inr ⟨p.2, rfl, num_log p1 p2, _, rfl, ?_, ?_⟩⟩⟩
      · have := nameW_len p1 p2
        rw [← nameW_eq] at this
        exact sl_le (Nat.le_trans this (by decide))
      · rw [← nameW_eq] at hR
        exact hR
    have sum1 := sum_len (k := 5) (ys := ns.map nameW) (fun y hy => by
      obtain ⟨p, hp, rfl⟩ := List.mem_map.mp hy
      exact nameW_len (ok.pl p hp).1 (ok.pl p hp).2)
    rw [List.length_map] at sum1
    refine ⟨_, _, ns.map nameW, rfl, rfl, .inl (.inl (.inl (by rw [List.map_map]; exact hl))), ?_, ?_⟩
    · rw [List.length_map, sp1_len]
      omega
    refine ⟨⟨_, rfl⟩, ?_⟩
    refine lcP cV (fun p => V.str (cellW p)) rfl (PT.same sm ht2) (Paired.imm (.of sm) hp2) (by omega) (fun b p H3 R sm hq hm hR => ?_) (fun H2 D2 sm2 hD2 hl2 => ?_)
    · obtain ⟨p1, p2, p3, p4⟩ := ck.pl p hm
      have p0 : 0 ≤ p.1 := by omega
      have n1 := num_len p0 p2
      refine ⟨b, _, rfl, hq, rfl, _, _, rfl, _, _, rfl, rfl, rfl, ?_⟩
      refine ⟨_, rfl, .inr ⟨p.1, rfl, num_log p0 p2, _, rfl, sl_le (by rw [emp_app]; exact Nat.le_trans n1 (by decide)), _, rfl, sl_le (by rw [len_app, emp_app, gt1_len]; exact Nat.le_trans (Nat.add_le_add_right n1 1) (by decide)), _, rfl, .inr ⟨p.2, rfl, num_log p3 p4, _, rfl, ?_, ?_⟩⟩⟩
      · have := cellW_len p0 p2 p3 p4
        rw [← cellW_eq] at this
        exact sl_le (Nat.le_trans this (by decide))
      · rw [← cellW_eq] at hR
        exact hR
    have sum2 := sum_len (k := 7) (ys := cs.map cellW) (cs_le ck)
    rw [List.length_map] at sum2
    refine ⟨_, _, cs.map cellW, rfl, rfl, .inl (.inl (.inl (by rw [List.map_map]; exact hl2))), ?_, ?_⟩
    · rw [List.length_map, sp1_len]
      omega
    have L1 := nTxt_len ok
    have L2 := cTxt_len ck
    refine ⟨_, rfl, .inl ⟨_, rfl, sl_le (Nat.le_trans L1 (by decide)), _, rfl, sl_le (by rw [emp_app]; exact Nat.le_trans L1 (by decide)), _, rfl, sl_le (by rw [len_app, emp_app, bar_len]; exact Nat.le_trans (Nat.add_le_add_right L1 3) (by decide)), ?_⟩⟩
    have fin : stTxt ns cs = Str.empty ++ nTxt ns ++ Str.ofString " | " ++ cTxt cs := by rw [emp_app]; rfl
    have kk := k H2 (sm.trans sm2)
    rw [fin] at kk
    have L3 : (Str.empty ++ nTxt ns ++ Str.ofString " | " ++ cTxt cs).length ≤ sizeLine := sl_le (by rw [emp_app, len_app, len_app, bar_len]; omega)
    by_cases hc : cs = []
    · have e : Txt.join (Str.ofString " ") (cs.map cellW) = Str.empty := by rw [hc]; exact glue_nil
      have e2 : cTxt cs = Str.ofString "none" := if_pos hc
      rw [e2] at kk L3
      refine ⟨_, rfl, false, ?_, iteF ?_⟩
      · rw [e]
        exact ⟨Nat.zero_le _, rfl⟩
      · exact .inl ⟨_, rfl, by rw [none_len]; exact sl_le (by decide), _, rfl, L3, kk⟩
    · have e2 : cTxt cs = Txt.join (Str.ofString " ") (cs.map cellW) := if_neg hc
      have e3 := cells_pos hc
      rw [e2] at kk L3 L2
      refine ⟨_, rfl, true, ⟨sl_le (Nat.le_trans L2 (by decide)), ?_⟩, iteT ?_⟩
      · have : ((Txt.join (Str.ofString " ") (cs.map cellW)).length : Int) ≠ 0 := by
          unfold sp1 at e3
          omega
        exact (bne_iff_ne.mpr this).symm
      · exact .inl ⟨_, rfl, sl_le (Nat.le_trans L2 (by decide)), _, rfl, L3, kk⟩
end
end K1
namespace K1
open PySem PySem.Spec L2 Z
section
variable {P : Program} {w : World} {K : PySem.W.Frag} {mg : Str → Option Value} {base : Heap} {C : Addr}
theorem ok_take (T : Txt K mg C) (G__store_text : Pr P w K mg base "_store_text" s_store_text 1 ["names", "cells"] (sp_store_text K)) : PrM P w K mg base C "take" "Store.take" s_take 2 ["self", "names", "cells"] (sp_take K C) := by
  obtain ⟨f, fd, F, gl, bd⟩ := T.d_take
  refine ⟨f, fd, F, gl, bd, F.ok sc_take (fun vs H Q E h => ?_) (fun cdv A outer s H vs Q E hr h => ?_)⟩
  · obtain ⟨x, dx, v, u, ns, cs, rfl, _⟩ := h
    rfl
  · obtain ⟨x, dx, v, u, ns, cs, rfl, hx, hv, hu1, ok, ck, k⟩ := h
    have hu := hu_of hr
    refine ⟨_, (pss_cons (ps_fld (pv 0) (pv 1) rfl)
      (pss_cons (ps_fld (pv 0) (pv 2) rfl)
      (pss_cons (ps_fld (pv 0) (pe_join pe_str (pe_lc (own := [("letter", 3), ("_", 4)]) (g := gTup K 2 (gCons (gName 3) (gCons (gName 4) gNil))) (tt := tYes) rfl sc_take.nd (pi_tup (pv 1)) (blkOk_by (own := [("letter", 3), ("_", 4)]) (N := N_take) (sc := defScope s_take) (by decide +kernel)) (fun _ _ _ _ _ => (pg_tup rfl (pgs_cons (pg_name (i := 3) sc_take.nd rfl (Or.inl rfl)) (pgs_cons (pg_name (i := 4) sc_take.nd rfl (Or.inl rfl)) pgs_nil)))) (fun _ _ _ _ _ => pts_nil) (fun _ _ _ _ _ => (pv 3)))) rfl)
      (pss_cons (ps_fld (pv 0) (pcall G__store_text (hr.mono (by decide)) (pa_cons (pv 1) (pa_cons (pv 2) pa_nil))) rfl)
      (pss_cons (ps_fld (pv 0) (pe_callTy (call_dictT rfl) (by rfl) T.b_dict (by decide +kernel) (pa_cons (pv 1) pa_nil)) rfl)
      (pss_cons (ps_fld (pv 0) (pe_callTy (call_dictT rfl) (by rfl) T.b_dict (by decide +kernel) (pa_cons (pv 2) pa_nil)) rfl)
      (pss_one (ps_fld (pv 0) (pe_dc (own := [("_", 4), ("place", 5)]) (g := gTup K 2 (gCons (gName 4) (gCons (gName 5) gNil))) (tt := tYes) rfl sc_take.nd (pi_tup (pe_op op_catP (pv 1) (pv 2))) (blkOk_by (own := [("_", 4), ("place", 5)]) (N := N_take) (sc := defScope s_take) (by decide +kernel)) (fun _ _ _ _ _ => (pg_tup rfl (pgs_cons (pg_name (i := 4) sc_take.nd rfl (Or.inl rfl)) (pgs_cons (pg_name (i := 5) sc_take.nd rfl (Or.inl rfl)) pgs_nil)))) (fun _ _ _ _ _ => pts_nil) (fun _ _ _ _ _ => (pv 5)) (fun _ _ _ _ _ => pe_bl)) rfl)))))))), ?_⟩
    obtain ⟨a, rs, rfl, ht, hp⟩ := hv
    obtain ⟨b, qs, rfl, ht2, hp2⟩ := hu1
    have o4 := ok.four
    have c4 := ck.few
    refine ⟨_, rfl, _, rfl, x, C, dx, _, rfl, hx, T.cl, T.n_names, of_decide_eq_true rfl, ?_⟩
    refine ⟨_, rfl, _, rfl, x, C, dx, _, rfl, upd_same, T.cl, T.n_cells, of_decide_eq_true rfl, ?_⟩
    generalize e3 : upd (upd H x _) x _ = H3
    have c3 : Chg x H H3 := by
      subst e3
      exact Chg.upd.trans Chg.upd
    have x3 : H3 x = some (.ins C dx [("names", .ref a), ("cells", .ref b)]) := by
      subst e3
      exact upd_same
    clear e3
    have i3 : Imm H H3 := c3.imm hx trivial
    refine ⟨⟨_, rfl⟩, ?_⟩
    refine lcP nV (fun p => V.str (ch p.1)) rfl (PT.imm i3 ht) (Paired.imm i3 hp) (by omega) (fun b p H4 R sm hq hm hR => ?_) (fun H4 D4 s4 hD4 hl4 => ?_)
    · exact ⟨b, _, rfl, hq, rfl, _, _, rfl, _, _, rfl, rfl, rfl, _, rfl, hR⟩
    have l4 : (List.map (fun x => x.length) (ns.map fun p => ch p.1)).sum ≤ 1 * (ns.map fun p => ch p.1).length := sum_len fun y hy => by
      obtain ⟨p, hp, rfl⟩ := List.mem_map.mp hy
      exact Nat.le_refl _
    rw [List.length_map] at l4
    refine ⟨_, _, ns.map fun p => ch p.1, rfl, rfl, .inl (.inl (.inl (by rw [List.map_map]; exact hl4))), ?_, ?_⟩
    · rw [List.length_map]
      have e : (Str.ofString "").length = 0 := by decide +kernel
      rw [e]
      omega
    refine ⟨_, rfl, x, C, dx, _, rfl, s4 _ _ x3, T.cl, T.n_letters, of_decide_eq_true rfl, ?_⟩
    generalize e5 : upd H4 x _ = H5
    have c5 : Chg x H H5 := by
      subst e5
      exact c3.trans ((Chg.of s4).trans Chg.upd)
    have x5 : H5 x = some (.ins C dx [("names", .ref a), ("cells", .ref b), ("letters", .str (lTxt ns))]) := by
      subst e5
      exact upd_same
    clear e5
    have i5 : Imm H H5 := c5.imm hx trivial
    refine ⟨_, rfl, _, rfl, .ref a, .ref b, ns, cs, rfl, ⟨a, rs, rfl, PT.imm i5 ht, Paired.imm i5 hp⟩, ⟨b, qs, rfl, PT.imm i5 ht2, Paired.imm i5 hp2⟩, ok, ck, fun H6 s6 => ?_⟩
    refine ⟨_, rfl, x, C, dx, _, rfl, s6 _ _ x5, T.cl, T.n_text, of_decide_eq_true rfl, ?_⟩
    generalize e7 : upd H6 x _ = H7
    have c7 : Chg x H H7 := by
      subst e7
      exact c5.trans ((Chg.of s6).trans Chg.upd)
    have x7 : H7 x = some (.ins C dx [("names", .ref a), ("cells", .ref b), ("letters", .str (lTxt ns)), ("text", .str (stTxt ns cs))]) := by
      subst e7
      exact upd_same
    clear e7
    have i7 : Imm H H7 := c7.imm hx trivial
    refine ⟨_, rfl, a, rs, kN ns, rfl, PT.imm i7 ht, pair_n (Paired.imm i7 hp), fun pd hpd => ?_⟩
    rw [merge_n ok]
    have n7 : pd ≠ x := fun z => by rw [z, x7] at hpd; cases hpd
    refine ⟨_, rfl, x, C, dx, _, rfl, by rw [upd_ne (Ne.symm n7)]; exact x7, T.cl, T.n_places, of_decide_eq_true rfl, ?_⟩
    generalize e8 : upd (upd H7 pd _) x _ = H8
    have c8 : Chg x H H8 := by
      subst e8
      exact c7.trans ((Chg.of (same_new hpd)).trans Chg.upd)
    have x8 : H8 x = some (.ins C dx [("names", .ref a), ("cells", .ref b), ("letters", .str (lTxt ns)), ("text", .str (stTxt ns cs)), ("places", .ref pd)]) := by
      subst e8
      exact upd_same
    have p8 : H8 pd = some (.dK (kN ns)) := by
      subst e8
      rw [upd_ne n7]
      exact upd_same
    clear e8
    have i8 : Imm H H8 := c8.imm hx trivial
    refine ⟨_, rfl, b, qs, kC cs, rfl, PT.imm i8 ht2, pair_c (Paired.imm i8 hp2), fun ad had => ?_⟩
    rw [merge_c ck]
    have n8 : ad ≠ x := fun z => by rw [z, x8] at had; cases had
    have n9 : ad ≠ pd := fun z => by rw [z, p8] at had; cases had
    refine ⟨_, rfl, x, C, dx, _, rfl, by rw [upd_ne (Ne.symm n8)]; exact x8, T.cl, T.n_arrows, of_decide_eq_true rfl, ?_⟩
    generalize e9 : upd (upd H8 ad _) x _ = H9
    have c9 : Chg x H H9 := by
      subst e9
      exact c8.trans ((Chg.of (same_new had)).trans Chg.upd)
    have x9 : H9 x = some (.ins C dx [("names", .ref a), ("cells", .ref b), ("letters", .str (lTxt ns)), ("text", .str (stTxt ns cs)), ("places", .ref pd), ("arrows", .ref ad)]) := by
      subst e9
      exact upd_same
    have p9 : H9 pd = some (.dK (kN ns)) := by
      subst e9
      rw [upd_ne n7, upd_ne (Ne.symm n9)]
      exact p8
    have a9 : H9 ad = some (.dK (kC cs)) := by
      subst e9
      rw [upd_ne n8]
      exact upd_same
    clear e9
    have i9 : Imm H H9 := c9.imm hx trivial
    have pt := Paired.app (Paired.imm i9 hp) (Paired.imm i9 hp2)
    have ll : (ns.map nV ++ cs.map cV).map (·.2) = (goals ns cs).map V.int := by
      simp only [goals, List.map_append, List.map_map]
      rfl
    have l1 : rs.length = ns.length := by rw [Paired.len hp, List.length_map]
    have l2 : qs.length = cs.length := by rw [Paired.len hp2, List.length_map]
    dsimp only
    unfold sFld
    refine dcP (gs := goals ns cs) (fun R hR => ?_) pt ll (by simp; omega) (fun b p i H' R sm hq hR => ?_) (fun H' D kvs sm hD hk hv => ?_)
    · exact ⟨_, rfl, _, rfl, cat_pt (PT.imm i9 ht) (PT.imm i9 ht2) (by simp; omega) fun t H1 s1 h1 => hR t H1 s1 (by rw [List.map_append]; exact h1)⟩
    · exact ⟨b, _, rfl, hq, rfl, _, _, rfl, _, _, rfl, rfl, rfl, _, rfl, hR⟩
    refine ⟨_, rfl, x, C, dx, _, rfl, sm _ _ x9, T.cl, T.n_led_to, of_decide_eq_true rfl, ?_⟩
    have nD : D ≠ x := fun z => by rw [z, x9] at hD; cases hD
    have nP : pd ≠ x := n7
    generalize eA : upd H' x _ = HA
    have cA : Chg x H HA := by
      subst eA
      exact c9.trans ((Chg.of sm).trans Chg.upd)
    have iA : Imm H HA := cA.imm hx trivial
    refine k HA ⟨.ref a, .ref b, dx, pd, ad, D, kvs, ?_, ⟨a, rs, rfl, PT.imm iA ht, Paired.imm iA hp⟩, ⟨b, qs, rfl, PT.imm iA ht2, Paired.imm iA hp2⟩, ?_, ?_, ?_, hv, ok, ck⟩ cA
    · subst eA
      exact upd_same
    · subst eA
      rw [upd_ne n7]
      exact sm _ _ p9
    · subst eA
      rw [upd_ne n8]
      exact sm _ _ a9
    · subst eA
      rw [upd_ne nD]
      exact hk
end
end K1
namespace K1
open PySem PySem.Spec L2 Z
section
variable {P : Program} {w : World} {K : PySem.W.Frag} {mg : Str → Option Value} {base : Heap} {C : Addr}
theorem ok_is_letter (T : Txt K mg C)  : Pr P w K mg base "is_letter" s_is_letter 1 ["value"] sp_is_letter := by
  obtain ⟨f, fd, F, gl, bd⟩ := T.d_is_letter
  refine ⟨f, fd, F, gl, bd, F.ok sc_is_letter (fun vs H Q E h => ?_) (fun cdv A outer s H vs Q E hr h => ?_)⟩
  · obtain ⟨c, rfl, _⟩ := h
    rfl
  · obtain ⟨c, rfl, h1, h2, k⟩ := h
    have hu := hu_of hr
    refine ⟨_, (pss_one (ps_ret (pe_and (pe_callB call_isi (by rfl) T.b_isinstance (by decide +kernel) (pa_cons (pv 0) (pa_cons (pe_bty "str" (by rfl) T.b_str (by decide +kernel)) pa_nil))) (pe_and (pe_cmpR op_eq (pe_callB call_len_str (by rfl) T.b_len (by decide +kernel) (pa_cons (pv 0) pa_nil)) pe_int (nomark _)) (pe_one (pe_cmpR op_in_sign (pv 0) (pe_globS rfl T.c_LETTERS) (by rfl))))))), ?_⟩
    refine ⟨_, rfl, _, _, _, _, _, rfl, .ty _, .base (.str _), kit_ty (r := true) (by decide +kernel), _, rfl, ?_⟩
    refine iteT ⟨_, rfl, _, rfl, by show 1 ≤ sizeLine; decide, rfl, _, rfl, ?_⟩
    refine iteT ⟨_, rfl, c, _, rfl, rfl, ?_⟩
    have e : decide (c ∈ (Str.ofString "abcdefghijklmnopqrstuvwxyz").cps.toList) = true := letter_in h1 h2
    rw [e]
    exact k
end
end K1
namespace K1
open PySem PySem.Spec L2 Z
section
variable {P : Program} {w : World} {K : PySem.W.Frag} {mg : Str → Option Value} {base : Heap} {C : Addr}
theorem ok_are_store_names (T : Txt K mg C) (G_is_tuple_of : Pr P w K mg base "is_tuple_of" s_is_tuple_of 1 ["value", "many"] (sp_is_tuple_of K)) (G_is_letter : Pr P w K mg base "is_letter" s_is_letter 1 ["value"] sp_is_letter) (G_is_place : Pr P w K mg base "is_place" s_is_place 3 ["value"] sp_is_place) : Pr P w K mg base "_are_store_names" s_are_store_names 4 ["value"] (sp_are_store_names K) := by
  obtain ⟨f, fd, F, gl, bd⟩ := T.d__are_store_names
  refine ⟨f, fd, F, gl, bd, F.ok sc_are_store_names (fun vs H Q E h => ?_) (fun cdv A outer s H vs Q E hr h => ?_)⟩
  · obtain ⟨v, ns, rfl, _⟩ := h
    rfl
  · obtain ⟨v, ns, rfl, ⟨a, rs, rfl, ht, hp⟩, ok, k⟩ := h
    have hu := hu_of hr
    refine ⟨_, (pss_cons (ps_if (PW.pt (pw_or (pt_not (pt_val (pe_callB call_isi (by rfl) T.b_isinstance (by decide +kernel) (pa_cons (pv 0) (pa_cons (pe_bty "tuple" (by rfl) T.b_tuple (by decide +kernel)) pa_nil))))) (pw_or1 (pt_not (pt_chain op_le op_le pe_int (pe_callB call_len_seq (by rfl) T.b_len (by decide +kernel) (pa_cons (pv 0) pa_nil)) (pe_globI rfl T.c_MOST_NAMES)))))) (pss_one (ps_ret pe_bl)) pss_nil)
      (pss_cons (ps_set (i := 1) sc_are_store_names.nd rfl (Or.inl rfl) pe_str)
      (pss_cons (ps_for PassesOwn.never rfl (pi_tup (pv 0)) (pg_name (i := 2) sc_are_store_names.nd rfl (Or.inl rfl))
      (pss_cons (ps_if (PW.pt (pw_or (pt_not (pt_val (pcall G_is_tuple_of (hr.mono (by decide)) (pa_cons (pv 2) (pa_cons pe_int pa_nil))))) (pw_or (pt_not (pt_val (pcall G_is_letter (hr.mono (by decide)) (pa_cons (pe_ix ix_tup (pv 2) pe_int (fun _ _ => rfl)) pa_nil)))) (pw_or (pt_not (pt_val (pcall G_is_place (hr.mono (by decide)) (pa_cons (pe_ix ix_tup (pv 2) pe_int (fun _ _ => rfl)) pa_nil)))) (pw_or1 (pt_cmpR op_le_str (pe_ix ix_tup (pv 2) pe_int (fun _ _ => rfl)) (pv 1) (nomark _))))))) (pss_one (ps_ret pe_bl)) pss_nil)
      (pss_one (ps_set (i := 1) sc_are_store_names.nd rfl (Or.inl rfl) (pe_ix ix_tup (pv 2) pe_int (fun _ _ => rfl))))))
      (pss_one (ps_ret pe_bl))))), ?_⟩
    have hT : SqT K H a (rs.map V.ref) := ht.sq
    have hl : rs.length = ns.length := by rw [Paired.len hp, List.length_map]
    have o1 := ok.one
    have o4 := ok.four
    refine ⟨_, rfl, _, _, _, _, _, rfl, .ty _, SqT.ty hT, kit_ty (r := true) (by decide +kernel), _, rfl, iteF ?_⟩
    refine ⟨_, rfl, _, _, rfl, .inr hT, 1, _, rfl, rfl, true, congrArg V.bl (decide_eq_true (by rw [List.length_map]; omega)), iteT ?_⟩
    refine ⟨_, _, rfl, rfl, true, congrArg V.bl (decide_eq_true (by rw [List.length_map]; omega)), iteF ?_⟩
    refine ⟨_, rfl, _, rfl, ⟨_, hT⟩, ?_⟩
    refine for_pairs (fun i σ H' => H' = H ∧ ∃ b x, σ = [some (.ref a), some (.str b), x] ∧ ∀ p, ns[i]? = some p → decide (b.cps.toList < (ch p.1).cps.toList) = true) ⟨rfl, _, _, rfl, fun p _ => lt_none⟩ ht hp ?_ ?_ ?_
    · rintro i σ H' ⟨rfl, _⟩
      exact Imm.refl _
    · rintro i b p σ H' eb ep hq ⟨rfl, z, x, rfl, hlt⟩
      obtain ⟨q, eq, rfl⟩ := map_at ep
      have hm := List.mem_of_getElem? eq
      obtain ⟨l1, l2⟩ := ok.let_ q hm
      obtain ⟨p1, p2⟩ := ok.pl q hm
      refine ⟨_, rfl, b, _, rfl, hq, _, rfl, iteF ?_⟩
      refine ⟨_, rfl, b, _, 0, _, rfl, rfl, hq, at_first, q.1, rfl, l1, l2, _, rfl, iteF ?_⟩
      refine ⟨_, rfl, b, _, 1, _, rfl, rfl, hq, at_snd, q.2, rfl, p1, p2, _, rfl, iteF ?_⟩
      refine ⟨_, rfl, b, _, 0, _, rfl, rfl, hq, at_first, _, rfl, _, _, rfl, rfl, false, congrArg V.bl (by rw [hlt q eq]; rfl), iteF ?_⟩
      refine ⟨_, rfl, b, _, 0, _, rfl, rfl, hq, at_first, ?_⟩
      exact ⟨rfl, _, _, rfl, fun p hp => lt_sign (asc_at ok.asc eq hp)⟩
    · rintro σ H' ⟨rfl, _⟩
      exact k
end
end K1
namespace K1
open PySem PySem.Spec L2 Z
section
variable {P : Program} {w : World} {K : PySem.W.Frag} {mg : Str → Option Value} {base : Heap} {C : Addr}
theorem ok_init (T : Txt K mg C) (G__wrong_cell : Pr P w K mg base "_wrong_cell" s_wrong_cell 4 ["cells"] (sp_wrong_cell K)) (G_take : PrM P w K mg base C "take" "Store.take" s_take 2 ["self", "names", "cells"] (sp_take K C)) (G__are_store_names : Pr P w K mg base "_are_store_names" s_are_store_names 4 ["value"] (sp_are_store_names K)) : PrI P w K mg base C "Store.__init__" s_init 5 ["self", "names", "cells"] (sp_init K C) := by
  obtain ⟨f, fd, F, gl, bd⟩ := T.d_init
  refine ⟨f, fd, F, gl, bd, F.ok sc_init (fun vs H Q E h => ?_) (fun cdv A outer s H vs Q E hr h => ?_)⟩
  · obtain ⟨x, dx, v, u, ns, cs, rfl, _⟩ := h
    rfl
  · obtain ⟨x, dx, v, u, ns, cs, rfl, hx, hv, hu1, ok, ck, k⟩ := h
    have hu := hu_of hr
    refine ⟨_, (pss_cons (ps_if (pt_not (pt_val (pcall G__are_store_names (hr.mono (by decide)) (pa_cons (pv 1) pa_nil)))) (pss_one ps_never) pss_nil)
      (pss_cons (ps_if (pt_not (pt_val (pe_callB call_isi (by rfl) T.b_isinstance (by decide +kernel) (pa_cons (pv 2) (pa_cons (pe_bty "tuple" (by rfl) T.b_tuple (by decide +kernel)) pa_nil))))) (pss_one ps_never) pss_nil)
      (pss_cons (ps_set (i := 3) sc_init.nd rfl (Or.inl rfl) (pcall G__wrong_cell (hr.mono (by decide)) (pa_cons (pv 2) pa_nil)))
      (pss_cons (ps_if (pt_cmp (pc_notN (pv 3)) rfl) (pss_one ps_never) pss_nil)
      (pss_one (ps_expr (pmeth (pv 0) T.cl G_take (hr.mono (by decide)) (pa_cons (pv 1) (pa_cons (pv 2) pa_nil))))))))), ?_⟩
    obtain ⟨a, rs, rfl, ht, hp⟩ := hv
    obtain ⟨b, qs, rfl, ht2, hp2⟩ := hu1
    have o4 := ok.four
    have c4 := ck.few
    refine ⟨_, rfl, .ref a, ns, rfl, ⟨a, rs, rfl, ht, hp⟩, ok, _, rfl, iteF ?_⟩
    refine ⟨_, rfl, _, _, _, _, _, rfl, .ty _, SqT.ty ht2.sq, kit_ty (r := true) (by decide +kernel), _, rfl, iteF ?_⟩
    refine ⟨_, rfl, .ref b, cs, rfl, ⟨b, qs, rfl, ht2, hp2⟩, ck, fun H1 s1 => ?_⟩
    refine ⟨_, rfl, false, congrArg V.bl (by simp), iteF ?_⟩
    refine ⟨_, rfl, x, dx, _, rfl, s1 _ _ hx, rfl, _, rfl, _, rfl, x, dx, .ref a, .ref b, ns, cs, rfl, s1 _ _ hx, ⟨a, rs, rfl, PT.imm (.of s1) ht, Paired.imm (.of s1) hp⟩, ⟨b, qs, rfl, PT.imm (.of s1) ht2, Paired.imm (.of s1) hp2⟩, ok, ck, fun H2 st cg => k H2 st (fun c o e n => cg c o (s1 c o e) n)⟩
end
end K1
namespace K1
open PySem PySem.Spec L2 Z
section
variable {P : Program} {w : World} {K : PySem.W.Frag} {mg : Str → Option Value} {base : Heap} {C : Addr}
theorem ok_number_in (T : Txt K mg C)  : Pr P w K mg base "number_in" s_number_in 1 ["word", "high"] sp_number_in := by
  obtain ⟨f, fd, F, gl, bd⟩ := T.d_number_in
  refine ⟨f, fd, F, gl, bd, F.ok sc_number_in (fun vs H Q E h => ?_) (fun cdv A outer s H vs Q E hr h => ?_)⟩
  · obtain ⟨i, rfl, _⟩ := h
    rfl
  · obtain ⟨i, rfl, h1, h2, k⟩ := h
    have hu := hu_of hr
    refine ⟨_, (pss_cons (ps_if (PW.pt (pw_or (pt_cmpR op_eq (pv 0) pe_str (nomark _)) (pw_or (pt_cmpR op_gt (pe_callB call_len_str (by rfl) T.b_len (by decide +kernel) (pa_cons (pv 0) pa_nil)) (pe_callB call_len_str (by rfl) T.b_len (by decide +kernel) (pa_cons (pe_callTy call_str_int (by rfl) T.b_str (by decide +kernel) (pa_cons (pv 1) pa_nil)) pa_nil)) (nomark _)) (pw_or1 (PW.pt (pw_and (pt_cmpR op_eq (pe_ix ix_str (pv 0) pe_int (fun _ _ => rfl)) pe_str (nomark _)) (pw_and1 (pt_cmpR op_ne (pv 0) pe_str (nomark _))))))))) (pss_one (ps_ret pe_non)) pss_nil)
      (pss_cons (ps_for PassesOwn.never rfl (pi_str (pv 0)) (pg_name (i := 2) sc_number_in.nd rfl (Or.inl rfl))
      (pss_one (ps_if (pt_cmpR op_notIn_sign (pv 2) (pe_globS rfl T.c_FIGURES) (by rfl)) (pss_one (ps_ret pe_non)) pss_nil)))
      (pss_cons (ps_set (i := 3) sc_number_in.nd rfl (Or.inl rfl) (pe_callTy call_int_str (by rfl) T.b_int (by decide +kernel) (pa_cons (pv 0) pa_nil)))
      (pss_one (ps_ret (pe_ifExp (pt_cmpR op_le (pv 3) (pv 1) (nomark _)) (pv 3) pe_non)))))), ?_⟩
    have e1 : decide (V.str (numS i) = V.str (Str.ofString "")) = false := str_ne (by
      rw [e_tl, tl_numS h1]
      exact TL.numL_ne _)
    have hl := num_len h1 h2
    have hz : (numS i).length ≤ sizeLine := sl_le (by omega)
    have e2 : decide (((Str.ofString (toString (999 : Int))).length : Int) < ((numS i).length : Int)) = false := decide_eq_false (by rw [n999]; omega)
    obtain ⟨c, t, hc, h0⟩ := num_head h1 h2
    refine ⟨_, rfl, rfl, false, congrArg V.bl e1, iteF ?_⟩
    refine ⟨_, rfl, _, rfl, hz, _, rfl, _, rfl, by decide +kernel, _, rfl, by rw [n999]; exact sl_le (by decide), _, _, rfl, rfl, false, congrArg V.bl e2, iteF ?_⟩
    refine ⟨_, rfl, _, _, c, rfl, rfl, hz, ?_, rfl, _, rfl, ?_⟩
    · show atI (TL.tl (numS i)) 0 = some c
      rw [hc]
      exact at_first
    have go : tSeq (tFor (iStr (tVar 0)) (gName 2) (tIfS (tTest (tOp (fun x y H Q => ∃ c z, x = V.str { cps := #[c] } ∧ y = V.str z ∧ Q (V.bl !decide (c ∈ z.cps.toList)) H) (tVar 2) (tC (V.str (Str.ofString "0123456789"))))) (tRet (tC V.non)) tNext))
      (tSeq (tAsg (tCB (fun xs H Q => ∃ a n, xs = [V.str a] ∧ intText? a = some n ∧ a.length ≤ 640 ∧ Q (V.int n) H) (tCons (tVar 0) tNil)) (gName 3))
        (tRet (tIf (tTest (tOp (rI0 fun i j => V.bl (decide (i ≤ j))) (tVar 3) (tVar 1))) (tVar 3) (tC V.non)))) { nx := fun x H' => Q V.non H', rt := Q } (L2.start N_number_in [V.str (numS i), V.int 999]) H := ?_
    · by_cases z : c = 48
      · have e3 : decide (V.str ⟨#[c]⟩ = V.str (Str.ofString "0")) = true := decide_eq_true (by subst z; rfl)
        rw [e3]
        refine iteT ⟨_, rfl, rfl, _, rfl, ?_⟩
        have e4 : decide (V.str (numS i) = V.str (Str.ofString "0")) = true := decide_eq_true (congrArg V.str (h0 z))
        rw [e4]
        exact go
      · have e3 : decide (V.str ⟨#[c]⟩ = V.str (Str.ofString "0")) = false := str_ne (by rw [z0_tl]; intro q; exact z (List.cons.inj q).1)
        rw [e3]
        exact go
    refine ⟨_, rfl, _, rfl, ?_⟩
    refine K1.for_it (n := (numS i).cps.size) (fun k σ H' => H' = H ∧ ∃ x, σ = [some (.str (numS i)), some (.int 999), x, none]) ⟨rfl, _, rfl⟩ (fun k σ H' hk p => hk) (fun σ H' p => Nat.le_refl _) ?_ ?_
    · rintro k v σ H1 H2 hk ⟨rfl, x, rfl⟩ ⟨rfl, d, hd, rfl⟩
      have hm : d ∈ TL.tl (numS i) := by
        have := Array.mem_of_getElem? hd
        simpa using this
      have dg := num_dig h1 d hm
      refine ⟨_, rfl, d, _, rfl, rfl, false, congrArg V.bl (by rw [digit_in dg.1 dg.2]; rfl), iteF ?_⟩
      exact ⟨rfl, _, rfl⟩
    · rintro σ H1 ⟨rfl, x, rfl⟩
      refine ⟨_, rfl, _, i, rfl, num_int h1 h2, by omega, ?_⟩
      refine ⟨_, rfl, _, rfl, _, _, rfl, rfl, true, congrArg V.bl (decide_eq_true h2), iteT ?_⟩
      exact ⟨_, rfl, k⟩
end
end K1
namespace K1
open PySem PySem.Spec L2 Z
section
variable {P : Program} {w : World} {K : PySem.W.Frag} {mg : Str → Option Value} {base : Heap} {C : Addr}
theorem ok_name_in (T : Txt K mg C) (G_number_in : Pr P w K mg base "number_in" s_number_in 1 ["word", "high"] sp_number_in) : Pr P w K mg base "_name_in" s_name_in 2 ["word"] sp_name_in := by
  obtain ⟨f, fd, F, gl, bd⟩ := T.d__name_in
  refine ⟨f, fd, F, gl, bd, F.ok sc_name_in (fun vs H Q E h => ?_) (fun cdv A outer s H vs Q E hr h => ?_)⟩
  · obtain ⟨p, rfl, _⟩ := h
    rfl
  · obtain ⟨p, rfl, l1, l2, p1, p2, k⟩ := h
    have hu := hu_of hr
    refine ⟨_, (pss_cons (ps_asg (pe_partition (pv 0) pe_str) (pg_tup rfl (pgs_cons (pg_name (i := 1) sc_name_in.nd rfl (Or.inl rfl)) (pgs_cons (pg_name (i := 2) sc_name_in.nd rfl (Or.inl rfl)) (pgs_cons (pg_name (i := 3) sc_name_in.nd rfl (Or.inl rfl)) pgs_nil)))))
      (pss_one (ps_ret (pe_tup (pa_cons (pv 1) (pa_cons (pcall G_number_in (hr.mono (by decide)) (pa_cons (pv 3) (pa_cons (pe_globI rfl T.c_LAST_PLACE) pa_nil))) pa_nil)))))), ?_⟩
    have pp : Txt.partition (nameW p) (Str.ofString "=") = (ch p.1, Str.ofString "=", numS p.2) := TL.partition_app (s := 61) (S := []) (by decide +kernel) (by
      intro hc
      have : (61 : Nat) = p.1 := by simpa [ch] using hc
      omega)
    have nl := nameW_len p1 p2
    refine ⟨_, rfl, ⟨_, rfl⟩, _, _, rfl, rfl, by decide +kernel, sl_le (Nat.le_trans nl (by decide)), fun t ht => ?_⟩
    rw [pp]
    refine ⟨t, _, rfl, .inl (.inl upd_same), rfl, _, _, rfl, _, _, rfl, _, _, rfl, rfl, ?_⟩
    refine ⟨_, rfl, _, rfl, p.2, rfl, p1, p2, by show 2 ≤ sizeLine; exact sl_le (by decide), fun b hb => ?_⟩
    exact k _ b ((same_new ht).trans (same_new hb)) (none_of (same_new ht) hb) upd_same
end
end K1
namespace K1
open PySem PySem.Spec L2 Z
section
variable {P : Program} {w : World} {K : PySem.W.Frag} {mg : Str → Option Value} {base : Heap} {C : Addr}
theorem ok_cell_in (T : Txt K mg C) (G_number_in : Pr P w K mg base "number_in" s_number_in 1 ["word", "high"] sp_number_in) : Pr P w K mg base "_cell_in" s_cell_in 2 ["word"] sp_cell_in := by
  obtain ⟨f, fd, F, gl, bd⟩ := T.d__cell_in
  refine ⟨f, fd, F, gl, bd, F.ok sc_cell_in (fun vs H Q E h => ?_) (fun cdv A outer s H vs Q E hr h => ?_)⟩
  · obtain ⟨p, rfl, _⟩ := h
    rfl
  · obtain ⟨p, rfl, l1, l2, p1, p2, k⟩ := h
    have hu := hu_of hr
    refine ⟨_, (pss_cons (ps_asg (pe_partition (pv 0) pe_str) (pg_tup rfl (pgs_cons (pg_name (i := 1) sc_cell_in.nd rfl (Or.inl rfl)) (pgs_cons (pg_name (i := 2) sc_cell_in.nd rfl (Or.inl rfl)) (pgs_cons (pg_name (i := 3) sc_cell_in.nd rfl (Or.inl rfl)) pgs_nil)))))
      (pss_one (ps_ret (pe_tup (pa_cons (pcall G_number_in (hr.mono (by decide)) (pa_cons (pv 1) (pa_cons (pe_globI rfl T.c_LAST_PLACE) pa_nil))) (pa_cons (pcall G_number_in (hr.mono (by decide)) (pa_cons (pv 3) (pa_cons (pe_globI rfl T.c_LAST_PLACE) pa_nil))) pa_nil)))))), ?_⟩
    have pp : Txt.partition (cellW p) (Str.ofString ">") = (numS p.1, Str.ofString ">", numS p.2) := TL.partition_app (s := 62) (S := []) (by decide +kernel) (by
      intro hc
      have := num_dig l1 _ hc
      omega)
    have nl := cellW_len l1 l2 p1 p2
    refine ⟨_, rfl, ⟨_, rfl⟩, _, _, rfl, rfl, by decide +kernel, sl_le (Nat.le_trans nl (by decide)), fun t ht => ?_⟩
    rw [pp]
    refine ⟨t, _, rfl, .inl (.inl upd_same), rfl, _, _, rfl, _, _, rfl, _, _, rfl, rfl, ?_⟩
    refine ⟨_, rfl, p.1, rfl, l1, l2, _, rfl, p.2, rfl, p1, p2, by show 2 ≤ sizeLine; exact sl_le (by decide), fun b hb => ?_⟩
    exact k _ b ((same_new ht).trans (same_new hb)) (none_of (same_new ht) hb) upd_same
end
end K1
namespace K1
open PySem PySem.Spec L2 Z
section
variable {P : Program} {w : World} {K : PySem.W.Frag} {mg : Str → Option Value} {base : Heap} {C : Addr}
theorem ok_store_in (T : Txt K mg C) (G_init : PrI P w K mg base C "Store.__init__" s_init 5 ["self", "names", "cells"] (sp_init K C)) (G__name_in : Pr P w K mg base "_name_in" s_name_in 2 ["word"] sp_name_in) (G__are_store_names : Pr P w K mg base "_are_store_names" s_are_store_names 4 ["value"] (sp_are_store_names K)) (G__wrong_cell : Pr P w K mg base "_wrong_cell" s_wrong_cell 4 ["cells"] (sp_wrong_cell K)) (G__cell_in : Pr P w K mg base "_cell_in" s_cell_in 2 ["word"] sp_cell_in) : Pr P w K mg base "store_in" s_store_in 7 ["text"] (sp_store_in K C) := by
  obtain ⟨f, fd, F, gl, bd⟩ := T.d_store_in
  refine ⟨f, fd, F, gl, bd, F.ok sc_store_in (fun vs H Q E h => ?_) (fun cdv A outer s H vs Q E hr h => ?_)⟩
  · obtain ⟨ns, cs, rfl, _⟩ := h
    rfl
  · obtain ⟨ns, cs, rfl, ok, ck, k⟩ := h
    have hu := hu_of hr
    refine ⟨_, (pss_cons (ps_set (i := 1) sc_store_in.nd rfl (Or.inl rfl) (pe_ifExp (pt_val (pe_callB call_isi (by rfl) T.b_isinstance (by decide +kernel) (pa_cons (pv 0) (pa_cons (pe_bty "str" (by rfl) T.b_str (by decide +kernel)) pa_nil)))) (pe_split (pv 0) pe_str) (pe_lst pa_nil)))
      (pss_cons (ps_if (pt_cmpR op_ne (pe_callB call_len_seq (by rfl) T.b_len (by decide +kernel) (pa_cons (pv 1) pa_nil)) pe_int (nomark _)) (pss_one (ps_ret pe_non)) pss_nil)
      (pss_cons (ps_set (i := 2) sc_store_in.nd rfl (Or.inl rfl) (pe_callTy call_tupP (by rfl) T.b_tuple (by decide +kernel) (pa_cons (pe_lc (own := [("word", 4)]) (g := gName 4) (tt := tYes) rfl sc_store_in.nd (pi_list (pe_split (pe_ix ix_list (pv 1) pe_int (fun _ _ => rfl)) pe_str)) (blkOk_by (own := [("word", 4)]) (N := N_store_in) (sc := defScope s_store_in) (by decide +kernel)) (fun _ _ _ _ _ => (pg_name (i := 4) sc_store_in.nd rfl (Or.inl rfl))) (fun _ _ _ _ _ => pts_nil) (fun _ _ _ _ _ => (pcall G__name_in (hr.mono (by decide)) (pa_cons (pv 4) pa_nil)))) pa_nil)))
      (pss_cons (ps_set (i := 3) sc_store_in.nd rfl (Or.inl rfl) (pe_ifExp (pt_cmpR op_ne (pe_ix ix_list (pv 1) pe_int (fun _ _ => rfl)) pe_str (nomark _)) (pe_callTy call_tupP (by rfl) T.b_tuple (by decide +kernel) (pa_cons (pe_lc (own := [("word", 4)]) (g := gName 4) (tt := tYes) rfl sc_store_in.nd (pi_list (pe_split (pe_ix ix_list (pv 1) pe_int (fun _ _ => rfl)) pe_str)) (blkOk_by (own := [("word", 4)]) (N := N_store_in) (sc := defScope s_store_in) (by decide +kernel)) (fun _ _ _ _ _ => (pg_name (i := 4) sc_store_in.nd rfl (Or.inl rfl))) (fun _ _ _ _ _ => pts_nil) (fun _ _ _ _ _ => (pcall G__cell_in (hr.mono (by decide)) (pa_cons (pv 4) pa_nil)))) pa_nil)) (pe_tupP pa_nil)))
      (pss_cons (ps_if (PW.pt (pw_or (pt_not (pt_val (pcall G__are_store_names (hr.mono (by decide)) (pa_cons (pv 2) pa_nil)))) (pw_or1 (pt_cmp (pc_notN (pcall G__wrong_cell (hr.mono (by decide)) (pa_cons (pv 3) pa_nil))) rfl)))) (pss_one (ps_ret pe_non)) pss_nil)
      (pss_one (ps_ret (pmake G_init T.mgC (hr.mono (by decide)) (pa_cons (pv 2) (pa_cons (pv 3) pa_nil)))))))))), ?_⟩
    have o4 := ok.four
    have c4 := ck.few
    have L0 : (stTxt ns cs).length ≤ 3231 := by
      have a := nTxt_len ok
      have b := cTxt_len ck
      unfold stTxt
      rw [len_app, len_app, bar_len]
      omega
    refine ⟨_, rfl, _, _, _, _, _, rfl, .ty _, .base (.str _), kit_ty (r := true) (by decide +kernel), _, rfl, iteT ?_⟩
    refine ⟨_, rfl, ⟨_, rfl⟩, _, _, rfl, rfl, by decide +kernel, sl_le (by omega), fun l hl => ?_⟩
    rw [split_st ok ck]
    have l1 : upd H l (.lst ([nTxt ns, cTxt cs].map V.str)) l = some (.lst [.str (nTxt ns), .str (cTxt cs)]) := upd_same
    generalize e1 : upd H l (.lst ([nTxt ns, cTxt cs].map V.str)) = H1 at l1 ⊢
    have s1 : Same H H1 := e1 ▸ same_new hl
    clear e1
    refine ⟨_, rfl, l, _, rfl, .inl (.inl (.inl l1)), rfl, _, rfl, iteF ?_⟩
    unfold tNext tSeq tAsg tCB tCons
    dsimp only
    refine lcMk (ls := ns) (fun p => V.str (nameW p)) (fun p q => q = nV p) (fun l2 H2 => Same H1 H2 ∧ H1 l2 = none ∧ H2 l2 = some (.lst (ns.map fun p => V.str (nameW p)))) (fun R hR => ?_) (by omega) (fun l2 H2 pre => ⟨_, .inl (.inl pre.2.2)⟩) (fun l2 H2 D pre hD => ?_)
    · refine ⟨_, rfl, l, _, 0, _, rfl, rfl, .inl (.inl l1), at_first, ⟨_, rfl⟩, _, _, rfl, rfl, by decide +kernel, sl_le (Nat.le_trans (Nat.add_le_add_right (nTxt_len ok) 2) (by decide)), fun l2 hl2 => ?_⟩
      rw [split_n ok]
      exact hR l2 _ ⟨same_new hl2, hl2, by rw [upd_same, List.map_map]; rfl⟩
    refine ⟨fun H' => Same H2 H', fun _ _ h => h, fun H' o h c u e => ?_, fun H' h => .inl (.inl (h _ _ pre.2.2)), fun p H' acc R hp iv hk hR => ?_, fun H' bs qs iv hk hq hg => ?_⟩
    · rw [upd_ne (ne_of_none e hD)]
      exact h _ _ e
    · obtain ⟨a1, a2⟩ := ok.let_ p hp
      obtain ⟨b1, b2⟩ := ok.pl p hp
      exact ⟨rfl, _, rfl, p, rfl, a1, a2, b1, b2, fun H3 b sm hb hk3 => hR b (nV p) H3 (iv.trans sm) (.of sm) (sm _ _ hk) rfl (.inl (.inl hk3))⟩
    have eq := paired_map hg
    subst eq
    refine ⟨D, _, rfl, .inl (.inl hk), fun n o hn ho => ?_⟩
    have s4 : Same H' (upd H' n (.frz o (.tup (bs.map V.ref)))) := same_new hn
    have tn4 : TP K (upd H' n (.frz o (.tup (bs.map V.ref)))) (.ref n) (ns.map nV) := ⟨n, bs, rfl, PT.new ho, Paired.imm (.of s4) hq⟩
    generalize upd H' n (.frz o (.tup (bs.map V.ref))) = H4 at s4 tn4 ⊢
    have s14 : Same H1 H4 := (pre.1.trans iv).trans s4
    have s04 : Same H H4 := s1.trans s14
    refine ⟨_, rfl, l, _, 1, _, rfl, rfl, .inl (.inl (s14 _ _ l1)), at_snd, rfl, _, rfl, ?_⟩
    rw [none_iff ck]
    by_cases hc : cs = []
    · rw [decide_eq_true hc]
      refine iteF ⟨Nat.zero_le _, fun n2 o2 hn2 ho2 => ?_⟩
      have s5 := same_new (o := .frz o2 (.tup [])) hn2
      have tc5 : TP K (upd H4 n2 (.frz o2 (.tup []))) (.ref n2) (cs.map cV) := ⟨n2, [], rfl, PT.new ho2, by subst hc; exact .nil⟩
      generalize upd H4 n2 (.frz o2 (.tup [])) = H5 at s5 tc5 ⊢
      refine ⟨_, rfl, .ref n, ns, rfl, TP.imm (.of s5) tn4, ok, _, rfl, iteF ?_⟩
      refine ⟨_, rfl, .ref n2, cs, rfl, tc5, ck, fun H6 s6 => ⟨false, congrArg V.bl (by simp), iteF ?_⟩⟩
      refine ⟨_, rfl, _, rfl, fun x dx hx hdx hne => ?_⟩
      have s06 : Same H H6 := (s04.trans s5).trans s6
      have s68 : Same H6 (upd (upd H6 dx (.own x)) x (.ins C dx [])) := (same_new hdx).trans (same_new (by rw [upd_ne (Ne.symm hne)]; exact hx))
      refine ⟨x, dx, .ref n, .ref n2, ns, cs, rfl, upd_same, TP.imm (.of ((s5.trans s6).trans s68)) tn4, TP.imm (.of (s6.trans s68)) tc5, ok, ck, fun H8 st cg => ⟨rfl, ?_⟩⟩
      have nx := none_of s06 hx
      exact k H8 x (fun b o e => cg b o (s68 _ _ (s06 _ _ e)) (ne_of_none e nx)) nx st
    · rw [decide_eq_false hc]
      refine iteT ?_
      dsimp only
      refine lcMk (ls := cs) (fun p => V.str (cellW p)) (fun p q => q = cV p) (fun l3 H3 => Same H4 H3 ∧ H4 l3 = none ∧ H3 l3 = some (.lst (cs.map fun p => V.str (cellW p)))) (fun R hR => ?_) (by omega) (fun l2 H2 pre => ⟨_, .inl (.inl pre.2.2)⟩) (fun l3 H3 D3 pre3 hD3 => ?_)
      · refine ⟨_, rfl, l, _, 1, _, rfl, rfl, .inl (.inl (s14 _ _ l1)), at_snd, ⟨_, rfl⟩, _, _, rfl, rfl, by decide +kernel, sl_le (Nat.le_trans (Nat.add_le_add_right (cTxt_len ck) 2) (by decide)), fun l3 hl3 => ?_⟩
        rw [split_c ck hc]
        exact hR l3 _ ⟨same_new hl3, hl3, by rw [upd_same, List.map_map]; rfl⟩
      refine ⟨fun H' => Same H3 H', fun _ _ h => h, fun H' o h c u e => ?_, fun H' h => .inl (.inl (h _ _ pre3.2.2)), fun p H' acc R hp iv hk hR => ?_, fun H9 bs2 qs2 iv2 hk2 hq2 hg2 => ?_⟩
      · rw [upd_ne (ne_of_none e hD3)]
        exact h _ _ e
      · obtain ⟨a1, a2, b1, b2⟩ := ck.pl p hp
        exact ⟨rfl, _, rfl, p, rfl, by omega, a2, b1, b2, fun H3 b sm hb hk3 => hR b (cV p) H3 (iv.trans sm) (.of sm) (sm _ _ hk) rfl (.inl (.inl hk3))⟩
      have eq := paired_map hg2
      subst eq
      refine ⟨D3, _, rfl, .inl (.inl hk2), fun n2 o2 hn2 ho2 => ?_⟩
      have s9 := same_new (o := .frz o2 (.tup (bs2.map V.ref))) hn2
      have tc5 : TP K (upd H9 n2 (.frz o2 (.tup (bs2.map V.ref)))) (.ref n2) (cs.map cV) := ⟨n2, bs2, rfl, PT.new ho2, Paired.imm (.of s9) hq2⟩
      generalize upd H9 n2 (.frz o2 (.tup (bs2.map V.ref))) = H5 at s9 tc5 ⊢
      have s5 : Same H4 H5 := (pre3.1.trans iv2).trans s9
      refine ⟨_, rfl, .ref n, ns, rfl, TP.imm (.of s5) tn4, ok, _, rfl, iteF ?_⟩
      refine ⟨_, rfl, .ref n2, cs, rfl, tc5, ck, fun H6 s6 => ⟨false, congrArg V.bl (by simp), iteF ?_⟩⟩
      refine ⟨_, rfl, _, rfl, fun x dx hx hdx hne => ?_⟩
      have s06 : Same H H6 := (s04.trans s5).trans s6
      have s68 : Same H6 (upd (upd H6 dx (.own x)) x (.ins C dx [])) := (same_new hdx).trans (same_new (by rw [upd_ne (Ne.symm hne)]; exact hx))
      refine ⟨x, dx, .ref n, .ref n2, ns, cs, rfl, upd_same, TP.imm (.of ((s5.trans s6).trans s68)) tn4, TP.imm (.of (s6.trans s68)) tc5, ok, ck, fun H8 st cg => ⟨rfl, ?_⟩⟩
      have nx := none_of s06 hx
      exact k H8 x (fun b o e => cg b o (s68 _ _ (s06 _ _ e)) (ne_of_none e nx)) nx st
end
end K1
namespace K1
open PySem PySem.Spec L2 Z
section
variable {P : Program} {w : World} {K : PySem.W.Frag} {mg : Str → Option Value} {base : Heap} {C : Addr}
theorem ok_read_store (T : Txt K mg C) (G_store_in : Pr P w K mg base "store_in" s_store_in 7 ["text"] (sp_store_in K C)) : Pr P w K mg base "read_store" s_read_store 8 ["text"] (sp_read_store K C) := by
  obtain ⟨f, fd, F, gl, bd⟩ := T.d_read_store
  refine ⟨f, fd, F, gl, bd, F.ok sc_read_store (fun vs H Q E h => ?_) (fun cdv A outer s H vs Q E hr h => ?_)⟩
  · obtain ⟨ns, cs, rfl, _⟩ := h
    rfl
  · obtain ⟨ns, cs, rfl, ok, ck, k⟩ := h
    have hu := hu_of hr
    refine ⟨_, (pss_cons (ps_set (i := 1) sc_read_store.nd rfl (Or.inl rfl) (pcall G_store_in (hr.mono (by decide)) (pa_cons (pv 0) pa_nil)))
      (pss_cons (ps_if (pt_cmp (pc_isN (pv 1)) rfl) (pss_one ps_never) pss_nil)
      (pss_one (ps_ret (pv 1))))), ?_⟩
    refine ⟨_, rfl, ns, cs, rfl, ok, ck, fun H1 x s1 hx st => ?_⟩
    refine ⟨_, rfl, false, congrArg V.bl (by simp), iteF ⟨_, rfl, k H1 x s1 hx st⟩⟩
end
end K1
namespace K1
open PySem PySem.Spec L2 Z
section
variable {P : Program} {w : World} {K : PySem.W.Frag} {mg : Str → Option Value} {base : Heap} {C : Addr}
theorem ok_law_turned (T : Txt K mg C) (G__law_one_of : Pr P w K mg base "_law_one_of" s_law_one_of 2 ["_law_jug_here", "_law_some"] (sp_law_one_of K)) (G__law_take : Pr P w K mg base "_law_take" s_law_take 1 ["_law_jug_here", "_law_many"] sp_law_take) : Pr P w K mg base "_law_turned" s_law_turned 3 ["_law_jug_here", "_law_names", "_law_cells", "_law_goals"] (sp_law_turned K) := by
  obtain ⟨f, fd, F, gl, bd⟩ := T.d__law_turned
  refine ⟨f, fd, F, gl, bd, F.ok sc_law_turned (fun vs H Q E h => ?_) (fun cdv A outer s H vs Q E hr h => ?_)⟩
  · obtain ⟨j, v, u, g, ns, cs, gs, rfl, _⟩ := h
    rfl
  · obtain ⟨j, v, u, g, ns, cs, gs, rfl, hj, hg, hgs, gne, glen, gpl, hv, huu, ok, ck, k⟩ := h
    have hu := hu_of hr
    refine ⟨_, (pss_cons (ps_set (i := 4) sc_law_turned.nd rfl (Or.inl rfl) (pcall G__law_one_of (hr.mono (by decide)) (pa_cons (pv 0) (pa_cons (pv 3) pa_nil))))
      (pss_cons (ps_if (PW.pt (pw_and (pt_cmpR op_gt (pe_callB call_len_seq (by rfl) T.b_len (by decide +kernel) (pa_cons (pv 2) pa_nil)) pe_int (nomark _)) (pw_and1 (pt_cmpR op_eq (pcall G__law_take (hr.mono (by decide)) (pa_cons (pv 0) (pa_cons pe_int pa_nil))) pe_int (nomark _))))) (pss_cons (ps_set (i := 5) sc_law_turned.nd rfl (Or.inl rfl) (pcall G__law_take (hr.mono (by decide)) (pa_cons (pv 0) (pa_cons (pe_callB call_len_seq (by rfl) T.b_len (by decide +kernel) (pa_cons (pv 2) pa_nil)) pa_nil))))
      (pss_one (ps_ret (pe_tup (pa_cons (pv 1) (pa_cons (pe_op op_catP (pe_op op_catP (pe_slice sl_tupP (pv 2) po_none (po_some (pv 5))) (pe_tupP (pa_cons (pe_tup (pa_cons (pe_ix ix_tup (pe_ix ix_tup (pv 2) (pv 5) (fun _ _ => rfl)) pe_int (fun _ _ => rfl)) (pa_cons (pv 4) pa_nil))) pa_nil))) (pe_slice sl_tupP (pv 2) (po_some (pe_op op_add (pv 5) pe_int)) po_none)) pa_nil)))))) pss_nil)
      (pss_cons (ps_set (i := 5) sc_law_turned.nd rfl (Or.inl rfl) (pcall G__law_take (hr.mono (by decide)) (pa_cons (pv 0) (pa_cons (pe_callB call_len_seq (by rfl) T.b_len (by decide +kernel) (pa_cons (pv 1) pa_nil)) pa_nil))))
      (pss_one (ps_ret (pe_tup (pa_cons (pe_op op_catP (pe_op op_catP (pe_slice sl_tupP (pv 1) po_none (po_some (pv 5))) (pe_tupP (pa_cons (pe_tup (pa_cons (pe_ix ix_tup (pe_ix ix_tup (pv 1) (pv 5) (fun _ _ => rfl)) pe_int (fun _ _ => rfl)) (pa_cons (pv 4) pa_nil))) pa_nil))) (pe_slice sl_tupP (pv 1) (po_some (pe_op op_add (pv 5) pe_int)) po_none)) (pa_cons (pv 2) pa_nil)))))))), ?_⟩
    obtain ⟨a, rs, rfl, ht, hp⟩ := hv
    obtain ⟨b, qs, rfl, ht2, hp2⟩ := huu
    have o1 := ok.one
    have o4 := ok.four
    have c4 := ck.few
    have l1 : rs.length = ns.length := by rw [Paired.len hp, List.length_map]
    have l2 : qs.length = cs.length := by rw [Paired.len hp2, List.length_map]
    refine ⟨_, rfl, _, rfl, j, g, _, rfl, hj, hg, .inl (.inl hgs), by simpa using gne, by rw [List.length_map]; omega, fun H1 x c1 j1 hx => ?_⟩
    obtain ⟨go, rfl, hgo⟩ := ints_mem hx
    obtain ⟨go0, go9⟩ := gpl go hgo
    have i1 := chg_imm c1 hj
    refine ⟨_, rfl, b, _, rfl, .inr (PT.imm i1 ht2).sq, _, _, rfl, rfl, _, rfl, ?_⟩
    by_cases hc : cs = []
    · have e0 : decide ((0 : Int) < ((qs.map V.ref).length : Int)) = false := decide_eq_false (by rw [List.length_map, l2, hc]; decide)
      rw [e0]
      refine iteF (iteF ?_)
      refine ⟨_, rfl, _, rfl, a, _, rfl, .inr (PT.imm i1 ht).sq, j, _, rfl, j1, ?_, ?_, fun H5 kk c5 j5 k0 k9 => ?_⟩
      · rw [List.length_map, l1]
        omega
      · rw [List.length_map, l1]
        omega
      rw [List.length_map, l1] at k9
      have i5 := i1.trans (chg_imm c5 j1)
      obtain ⟨n, rfl⟩ := Int.eq_ofNat_of_zero_le k0
      have hn : n < ns.length := by omega
      have eq : ns[n]? = some ns[n] := List.getElem?_eq_getElem hn
      unfold gName tRet tTup tCons
      dsimp only
      refine change (x := (nV ns[n]).1) (y := (nV ns[n]).2) (go := go) rfl rfl rfl (PT.imm i5 ht) (Paired.imm i5 hp) (by rw [List.getElem?_map, eq]; rfl) (by rw [List.length_map]; omega) fun t6 H6 s6 tp => ?_
      have e6 : (ns.map nV).set n ((nV ns[n]).1, V.int go) = (ns.set n (ns[n].1, go)).map nV := set_map ns n (ns[n].1, go)
      rw [e6] at tp
      refine ⟨_, rfl, by show 2 ≤ sizeLine; exact sl_le (by decide), fun t ht7 => ?_⟩
      have s7 := same_new (o := .tup [V.ref t6, V.ref b]) ht7
      have i7 := (i5.trans (.of s6)).trans (.of s7)
      exact k _ t (.ref t6) (.ref b) _ cs ((c1.trans c5).trans (Chg.of (s6.trans s7))) (j5.same (s6.trans s7)) (.inl (.inl upd_same)) (TP.imm (.of s7) tp) ⟨b, qs, rfl, PT.imm i7 ht2, Paired.imm i7 hp2⟩ (nok_set ok eq go0 go9) ck
    have hcp := List.length_pos_iff.mpr hc
    have e0 : decide ((0 : Int) < ((qs.map V.ref).length : Int)) = true := decide_eq_true (by rw [List.length_map, l2]; omega)
    rw [e0]
    refine iteT ⟨_, rfl, j, 2, rfl, j1, by decide, by decide, fun H2 k2 c2 j2 k20 k22 => ⟨rfl, _, rfl, ?_⟩⟩
    have i2 := i1.trans (chg_imm c2 j1)
    have c02 := c1.trans c2
    generalize decide (V.int k2 = V.int 0) = w
    cases w
    · refine iteF ?_
      refine ⟨_, rfl, _, rfl, a, _, rfl, .inr (PT.imm i2 ht).sq, j, _, rfl, j2, ?_, ?_, fun H5 kk c5 j5 k0 k9 => ?_⟩
      · rw [List.length_map, l1]
        omega
      · rw [List.length_map, l1]
        omega
      rw [List.length_map, l1] at k9
      have i5 := i2.trans (chg_imm c5 j2)
      obtain ⟨n, rfl⟩ := Int.eq_ofNat_of_zero_le k0
      have hn : n < ns.length := by omega
      have eq : ns[n]? = some ns[n] := List.getElem?_eq_getElem hn
      unfold gName tRet tTup tCons
      dsimp only
      refine change (x := (nV ns[n]).1) (y := (nV ns[n]).2) (go := go) rfl rfl rfl (PT.imm i5 ht) (Paired.imm i5 hp) (by rw [List.getElem?_map, eq]; rfl) (by rw [List.length_map]; omega) fun t6 H6 s6 tp => ?_
      have e6 : (ns.map nV).set n ((nV ns[n]).1, V.int go) = (ns.set n (ns[n].1, go)).map nV := set_map ns n (ns[n].1, go)
      rw [e6] at tp
      refine ⟨_, rfl, by show 2 ≤ sizeLine; exact sl_le (by decide), fun t ht7 => ?_⟩
      have s7 := same_new (o := .tup [V.ref t6, V.ref b]) ht7
      have i7 := (i5.trans (.of s6)).trans (.of s7)
      exact k _ t (.ref t6) (.ref b) _ cs ((c02.trans c5).trans (Chg.of (s6.trans s7))) (j5.same (s6.trans s7)) (.inl (.inl upd_same)) (TP.imm (.of s7) tp) ⟨b, qs, rfl, PT.imm i7 ht2, Paired.imm i7 hp2⟩ (nok_set ok eq go0 go9) ck
    refine iteT ?_
    refine ⟨_, rfl, _, rfl, b, _, rfl, .inr (PT.imm i2 ht2).sq, j, _, rfl, j2, ?_, ?_, fun H5 kk c5 j5 k0 k9 => ?_⟩
    · rw [List.length_map, l2]
      omega
    · rw [List.length_map, l2]
      omega
    rw [List.length_map, l2] at k9
    have i5 := i2.trans (chg_imm c5 j2)
    obtain ⟨n, rfl⟩ := Int.eq_ofNat_of_zero_le k0
    have hn : n < cs.length := by omega
    have eq : cs[n]? = some cs[n] := List.getElem?_eq_getElem hn
    refine ⟨_, rfl, ?_⟩
    refine change (x := (cV cs[n]).1) (y := (cV cs[n]).2) (go := go) rfl rfl rfl (PT.imm i5 ht2) (Paired.imm i5 hp2) (by rw [List.getElem?_map, eq]; rfl) (by rw [List.length_map]; omega) fun t6 H6 s6 tp => ?_
    have e6 : (cs.map cV).set n ((cV cs[n]).1, V.int go) = (cs.set n (cs[n].1, go)).map cV := set_map cs n (cs[n].1, go)
    rw [e6] at tp
    refine ⟨by show 2 ≤ sizeLine; exact sl_le (by decide), fun t ht7 => ?_⟩
    have s7 := same_new (o := .tup [V.ref a, V.ref t6]) ht7
    have i7 := (i5.trans (.of s6)).trans (.of s7)
    exact k _ t (.ref a) (.ref t6) ns _ ((c02.trans c5).trans (Chg.of (s6.trans s7))) (j5.same (s6.trans s7)) (.inl (.inl upd_same)) ⟨a, rs, rfl, PT.imm i7 ht, Paired.imm i7 hp⟩ (TP.imm (.of s7) tp) ok (cok_set ck eq go0 go9)
end
end K1
namespace K1
open PySem PySem.Spec L2 Z
section
variable {P : Program} {w : World} {K : PySem.W.Frag} {mg : Str → Option Value} {base : Heap} {C : Addr}
theorem ok_law_store_text (T : Txt K mg C)  : Pr P w K mg base "_law_store_text" s_law_store_text 1 ["_law_names", "_law_cells"] (sp_store_text K) := by
  obtain ⟨f, fd, F, gl, bd⟩ := T.d__law_store_text
  refine ⟨f, fd, F, gl, bd, F.ok sc_law_store_text (fun vs H Q E h => ?_) (fun cdv A outer s H vs Q E hr h => ?_)⟩
  · obtain ⟨v, u, ns, cs, rfl, _⟩ := h
    rfl
  · obtain ⟨v, u, ns, cs, rfl, ⟨a, rs, rfl, ht, hp⟩, ⟨b, qs, rfl, ht2, hp2⟩, ok, ck, k⟩ := h
    have hu := hu_of hr
    refine ⟨_, (pss_cons (ps_set (i := 2) sc_law_store_text.nd rfl (Or.inl rfl) (pe_ifExp (pt_cmpR op_gt (pe_callB call_len_seq (by rfl) T.b_len (by decide +kernel) (pa_cons (pv 1) pa_nil)) pe_int (nomark _)) (pe_join pe_str (pe_lc (own := [("_law_place", 3), ("_law_goal", 4)]) (g := gTup K 2 (gCons (gName 3) (gCons (gName 4) gNil))) (tt := tYes) rfl sc_law_store_text.nd (pi_tup (pv 1)) (blkOk_by (own := [("_law_place", 3), ("_law_goal", 4)]) (N := N_law_store_text) (sc := defScope s_law_store_text) (by decide +kernel)) (fun _ _ _ _ _ => (pg_tup rfl (pgs_cons (pg_name (i := 3) sc_law_store_text.nd rfl (Or.inl rfl)) (pgs_cons (pg_name (i := 4) sc_law_store_text.nd rfl (Or.inl rfl)) pgs_nil)))) (fun _ _ _ _ _ => pts_nil) (fun _ _ _ _ _ => (pe_op op_add_str (pe_op op_add_str (pe_callTy call_str_int (by rfl) T.b_str (by decide +kernel) (pa_cons (pv 3) pa_nil)) pe_str) (pe_callTy call_str_int (by rfl) T.b_str (by decide +kernel) (pa_cons (pv 4) pa_nil)))))) pe_str))
      (pss_one (ps_ret (pe_op op_add_str (pe_op op_add_str (pe_join pe_str (pe_lc (own := [("_law_letter", 5), ("_law_place", 3)]) (g := gTup K 2 (gCons (gName 5) (gCons (gName 3) gNil))) (tt := tYes) rfl sc_law_store_text.nd (pi_tup (pv 0)) (blkOk_by (own := [("_law_letter", 5), ("_law_place", 3)]) (N := N_law_store_text) (sc := defScope s_law_store_text) (by decide +kernel)) (fun _ _ _ _ _ => (pg_tup rfl (pgs_cons (pg_name (i := 5) sc_law_store_text.nd rfl (Or.inl rfl)) (pgs_cons (pg_name (i := 3) sc_law_store_text.nd rfl (Or.inl rfl)) pgs_nil)))) (fun _ _ _ _ _ => pts_nil) (fun _ _ _ _ _ => (pe_op op_add_str (pe_op op_add_str (pv 5) pe_str) (pe_callTy call_str_int (by rfl) T.b_str (by decide +kernel) (pa_cons (pv 3) pa_nil)))))) pe_str) (pv 2))))), ?_⟩
    have o4 := ok.four
    have c4 := ck.few
    by_cases hc : cs = []
    · have e2 : cTxt cs = Str.ofString "none" := if_pos hc
      have s1 : Same H H := fun _ _ h => h
      refine ⟨_, rfl, b, _, rfl, .inr ht2.sq, _, _, rfl, rfl, false, congrArg V.bl (decide_eq_false (by rw [List.length_map, Paired.len hp2, hc]; decide)), iteF ?_⟩
      rw [← e2]
      unfold tC gName
      dsimp only
      refine ⟨⟨_, rfl⟩, ?_⟩
      dsimp only
      refine lcP nV (fun p => V.str (nameW p)) rfl (PT.same s1 ht) (Paired.imm (.of s1) hp) (by omega) (fun b p H3 R sm hq hm hR => ?_) (fun H4 D sm hD hl => ?_)
      · obtain ⟨p1, p2⟩ := ok.pl p hm
        have nl := nameW_len p1 p2
        refine ⟨b, _, rfl, hq, rfl, _, _, rfl, _, _, rfl, rfl, rfl, ?_⟩
        have n2 := num_len p1 p2
        refine ⟨_, rfl, _, _, rfl, rfl, sl_le (by rw [ch_len, eq1_len]; decide), _, rfl, p.2, rfl, num_log p1 p2, _, _, rfl, rfl, sl_le ?_, hR⟩
        rw [len_app, ch_len, eq1_len]
        exact Nat.le_trans (Nat.add_le_add_left n2 2) (by decide)
      have sum1 := sum_len (k := 5) (ys := ns.map nameW) (fun y hy => by
        obtain ⟨p, hp, rfl⟩ := List.mem_map.mp hy
        exact nameW_len (ok.pl p hp).1 (ok.pl p hp).2)
      rw [List.length_map] at sum1
      refine ⟨_, _, ns.map nameW, rfl, rfl, .inl (.inl (.inl (by rw [List.map_map]; exact hl))), ?_, ?_⟩
      · rw [List.length_map, sp1_len]
        omega
      have LA : (Txt.join (Str.ofString " ") (ns.map nameW)).length ≤ 24 := nTxt_len ok
      have LB := cTxt_len ck
      refine ⟨_, _, rfl, rfl, sl_le (by rw [bar_len]; omega), _, rfl, _, _, rfl, rfl, sl_le ?_, ?_⟩
      · rw [len_app, bar_len]
        omega
      exact k H4 (s1.trans sm)
    · have e2 : cTxt cs = Txt.join (Str.ofString " ") (cs.map cellW) := if_neg hc
      have hpos := List.length_pos_iff.mpr hc
      refine ⟨_, rfl, b, _, rfl, .inr ht2.sq, _, _, rfl, rfl, true, congrArg V.bl (decide_eq_true (by rw [List.length_map, Paired.len hp2, List.length_map]; omega)), iteT ⟨⟨_, rfl⟩, ?_⟩⟩
      refine lcP cV (fun p => V.str (cellW p)) rfl ht2 hp2 (by omega) (fun b p H3 R sm hq hm hR => ?_) (fun H1 D s1 hD hl => ?_)
      · obtain ⟨p1, p2, p3, p4⟩ := ck.pl p hm
        have p0 : 0 ≤ p.1 := by omega
        have n1 := num_len p0 p2
        have n2 := num_len p3 p4
        refine ⟨b, _, rfl, hq, rfl, _, _, rfl, _, _, rfl, rfl, rfl, ?_⟩
        refine ⟨_, rfl, p.1, rfl, num_log p0 p2, _, _, rfl, rfl, sl_le ?_, _, rfl, p.2, rfl, num_log p3 p4, _, _, rfl, rfl, sl_le ?_, hR⟩
        · rw [gt1_len]
          exact Nat.le_trans (Nat.add_le_add_right n1 1) (by decide)
        · rw [len_app, gt1_len]
          exact Nat.le_trans (Nat.add_le_add (Nat.add_le_add_right n1 1) n2) (by decide)
      have sum2 := sum_len (k := 7) (ys := cs.map cellW) (cs_le ck)
      rw [List.length_map] at sum2
      refine ⟨_, _, cs.map cellW, rfl, rfl, .inl (.inl (.inl (by rw [List.map_map]; exact hl))), ?_, ?_⟩
      · rw [List.length_map, sp1_len]
        omega
      rw [← e2]
      unfold gName
      dsimp only
      refine ⟨⟨_, rfl⟩, ?_⟩
      dsimp only
      refine lcP nV (fun p => V.str (nameW p)) rfl (PT.same s1 ht) (Paired.imm (.of s1) hp) (by omega) (fun b p H3 R sm hq hm hR => ?_) (fun H4 D sm hD hl => ?_)
      · obtain ⟨p1, p2⟩ := ok.pl p hm
        have nl := nameW_len p1 p2
        refine ⟨b, _, rfl, hq, rfl, _, _, rfl, _, _, rfl, rfl, rfl, ?_⟩
        have n2 := num_len p1 p2
        refine ⟨_, rfl, _, _, rfl, rfl, sl_le (by rw [ch_len, eq1_len]; decide), _, rfl, p.2, rfl, num_log p1 p2, _, _, rfl, rfl, sl_le ?_, hR⟩
        rw [len_app, ch_len, eq1_len]
        exact Nat.le_trans (Nat.add_le_add_left n2 2) (by decide)
      have sum1 := sum_len (k := 5) (ys := ns.map nameW) (fun y hy => by
        obtain ⟨p, hp, rfl⟩ := List.mem_map.mp hy
        exact nameW_len (ok.pl p hp).1 (ok.pl p hp).2)
      rw [List.length_map] at sum1
      refine ⟨_, _, ns.map nameW, rfl, rfl, .inl (.inl (.inl (by rw [List.map_map]; exact hl))), ?_, ?_⟩
      · rw [List.length_map, sp1_len]
        omega
      have LA : (Txt.join (Str.ofString " ") (ns.map nameW)).length ≤ 24 := nTxt_len ok
      have LB := cTxt_len ck
      refine ⟨_, _, rfl, rfl, sl_le (by rw [bar_len]; omega), _, rfl, _, _, rfl, rfl, sl_le ?_, ?_⟩
      · rw [len_app, bar_len]
        omega
      exact k H4 (s1.trans sm)
end
end K1
namespace K1
open PySem PySem.Spec L2 Z
section
variable {P : Program} {w : World} {K : PySem.W.Frag} {mg : Str → Option Value} {base : Heap} {C : Addr}
theorem ok_law_arrows (T : Txt K mg C)  : Pr P w K mg base "_law_arrows" s_law_arrows 1 ["_law_cells"] (sp_law_arrows K) := by
  obtain ⟨f, fd, F, gl, bd⟩ := T.d__law_arrows
  refine ⟨f, fd, F, gl, bd, F.ok sc_law_arrows (fun vs H Q E h => ?_) (fun cdv A outer s H vs Q E hr h => ?_)⟩
  · obtain ⟨u, cs, rfl, _⟩ := h
    rfl
  · obtain ⟨u, cs, rfl, ⟨b, qs, rfl, ht2, hp2⟩, ck, k⟩ := h
    have hu := hu_of hr
    refine ⟨_, (pss_cons (ps_set (i := 1) sc_law_arrows.nd rfl (Or.inl rfl) pe_dnewK)
      (pss_cons (ps_for PassesOwn.never rfl (pi_tup (pv 0)) (pg_tup rfl (pgs_cons (pg_name (i := 2) sc_law_arrows.nd rfl (Or.inl rfl)) (pgs_cons (pg_name (i := 3) sc_law_arrows.nd rfl (Or.inl rfl)) pgs_nil)))
      (pss_one (ps_dput hu (pv 1) (pv 2) (pv 3) rfl)))
      (pss_one (ps_ret (pv 1))))), ?_⟩
    have c4 := ck.few
    intro d hd
    have s0 : Same H (upd H d (.dK [])) := same_new hd
    refine ⟨_, rfl, b, rfl, ⟨_, (PT.same s0 ht2).sq⟩, ?_⟩
    refine for_pairs (H0 := H) (fun i σ H' => Same H H' ∧ H' d = some (.dK (kC (cs.take i))) ∧ ∃ x2 x3, σ = [some (.ref b), some (.ref d), x2, x3]) ⟨s0, upd_same, _, _, rfl⟩ ht2 hp2 (fun i σ H' h => .of h.1) ?_ ?_
    · rintro i b1 p σ H1 eb ep hq ⟨sm, hk, x2, x3, rfl⟩
      obtain ⟨q, eq, rfl⟩ := map_at ep
      have e1 : kC (cs.take (i + 1)) = kC (cs.take i) ++ [(Sum.inl q.1, V.int q.2)] := by
        rw [List.take_add_one, eq]
        unfold kC
        rw [List.map_append]
        rfl
      have nd : ((kC (cs.take (i + 1))).map (·.1)).Nodup := by
        refine (nodup_c ck).sublist ?_
        unfold kC
        exact ((List.take_sublist _ _).map _).map _
      have e2 : valV (kC (cs.take i)) (Sum.inl q.1 : Key) = none := valV_none fun z => by
        rw [e1, List.map_append, List.nodup_append] at nd
        exact nd.2.2 _ z _ (by simp) rfl
      refine ⟨b1, _, rfl, hq, rfl, _, _, rfl, _, _, rfl, rfl, ?_⟩
      refine ⟨_, rfl, _, rfl, _, rfl, d, _, rfl, DPut.k (k := (Sum.inl q.1 : Key)) hk ?_, ?_⟩
      · refine Nat.lt_of_lt_of_le (m := 1000) ?_ (sl_le (by decide))
        unfold kC
        rw [List.length_map, List.length_take]
        omega
      · refine ⟨fun c o e => ?_, by rw [upd_same, putK_new _ e2, e1]; rfl, _, _, rfl⟩
        rw [upd_ne (ne_of_none e hd)]
        exact sm _ _ e
    · rintro σ H1 ⟨sm, hk, x2, x3, rfl⟩
      rw [List.length_map, List.take_length] at hk
      exact ⟨_, rfl, k H1 d sm hd hk⟩
end
end K1
namespace K1
open PySem PySem.Spec L2 Z
section
variable {P : Program} {w : World} {K : PySem.W.Frag} {mg : Str → Option Value} {base : Heap} {C : Addr}
theorem ok_arrow (T : Txt K mg C) (G_is_place : Pr P w K mg base "is_place" s_is_place 3 ["value"] sp_is_place) : PrM P w K mg base C "arrow" "Store.arrow" s_arrow 4 ["self", "place"] (sp_arrow K C) := by
  obtain ⟨f, fd, F, gl, bd⟩ := T.d_arrow
  refine ⟨f, fd, F, gl, bd, F.ok sc_arrow (fun vs H Q E h => ?_) (fun cdv A outer s H vs Q E hr h => ?_)⟩
  · obtain ⟨x, ns, cs, i, rfl, _⟩ := h
    rfl
  · obtain ⟨x, ns, cs, i, rfl, ⟨v, u, dx, pd, ad, ld, ks, S⟩, h1, h2, k⟩ := h
    have hu := hu_of hr
    refine ⟨_, (pss_cons (ps_if (pt_not (pt_val (pcall G_is_place (hr.mono (by decide)) (pa_cons (pv 1) pa_nil)))) (pss_one ps_never) pss_nil)
      (pss_one (ps_ret (pe_dget1 hu (pe_fld (pv 0) rfl) (pv 1) ⟨rfl, rfl, rfl, rfl⟩)))), ?_⟩
    refine ⟨_, rfl, i, rfl, h1, h2, _, rfl, iteF ?_⟩
    refine ⟨_, rfl, x, C, dx, _, _, rfl, S.ob, T.cl, T.n_arrows, rfl, ad, rfl, .inl ⟨_, .inl S.ad_⟩, _, rfl, _, DGet.k (k := (Sum.inl i : Key)) S.ad_, ?_⟩
    rw [look_c]
    exact k
end
end K1
namespace K1
open PySem PySem.Spec L2 Z
section
variable {P : Program} {w : World} {K : PySem.W.Frag} {mg : Str → Option Value} {base : Heap} {C : Addr}
theorem ok_at (T : Txt K mg C) (G_is_letter : Pr P w K mg base "is_letter" s_is_letter 1 ["value"] sp_is_letter) : PrM P w K mg base C "at" "Store.at" s_at 2 ["self", "letter"] (sp_at K C) := by
  obtain ⟨f, fd, F, gl, bd⟩ := T.d_at
  refine ⟨f, fd, F, gl, bd, F.ok sc_at (fun vs H Q E h => ?_) (fun cdv A outer s H vs Q E hr h => ?_)⟩
  · obtain ⟨x, ns, cs, p, rfl, _⟩ := h
    rfl
  · obtain ⟨x, ns, cs, p, rfl, ⟨v, u, dx, pd, ad, ld, ks, S⟩, hm, k⟩ := h
    have hu := hu_of hr
    refine ⟨_, (pss_cons (ps_if (PW.pt (pw_or (pt_not (pt_val (pcall G_is_letter (hr.mono (by decide)) (pa_cons (pv 1) pa_nil)))) (pw_or1 (pt_cmp (pc_dnotin hu (pv 1) (pe_fld (pv 0) rfl)))))) (pss_one ps_never) pss_nil)
      (pss_one (ps_ret (pe_dget hu (pe_fld (pv 0) rfl) (pv 1) (fun _ _ => rfl))))), ?_⟩
    obtain ⟨l1, l2⟩ := S.nok.let_ p hm
    have D : DGet H pd (.str (ch p.1)) (some (.int p.2)) := val_n S.nok hm ▸ DGet.k (k := (Sum.inr (ch p.1) : Key)) S.pd_
    refine ⟨_, rfl, p.1, rfl, l1, l2, _, rfl, iteF ?_⟩
    refine ⟨_, rfl, _, rfl, x, C, dx, _, _, rfl, S.ob, T.cl, T.n_places, rfl, pd, _, rfl, D, _, rfl, iteF ?_⟩
    exact ⟨_, rfl, x, C, dx, _, _, rfl, S.ob, T.cl, T.n_places, rfl, _, rfl, pd, _, rfl, D, k⟩
end
end K1
namespace K1
open PySem PySem.Spec L2 Z
section
variable {P : Program} {w : World} {K : PySem.W.Frag} {mg : Str → Option Value} {base : Heap} {C : Addr}
theorem ok_is_gone (T : Txt K mg C) (G_is_place : Pr P w K mg base "is_place" s_is_place 3 ["value"] sp_is_place) : PrM P w K mg base C "is_gone" "Store.is_gone" s_is_gone 4 ["self", "place"] (sp_is_gone K C) := by
  obtain ⟨f, fd, F, gl, bd⟩ := T.d_is_gone
  refine ⟨f, fd, F, gl, bd, F.ok sc_is_gone (fun vs H Q E h => ?_) (fun cdv A outer s H vs Q E hr h => ?_)⟩
  · obtain ⟨x, ns, cs, i, rfl, _⟩ := h
    rfl
  · obtain ⟨x, ns, cs, i, rfl, ⟨v, u, dx, pd, ad, ld, ks, S⟩, h1, h2, k⟩ := h
    have hu := hu_of hr
    refine ⟨_, (pss_cons (ps_if (pt_not (pt_val (pcall G_is_place (hr.mono (by decide)) (pa_cons (pv 1) pa_nil)))) (pss_one ps_never) pss_nil)
      (pss_one (ps_ret (pe_and (pe_cmpR op_ne (pv 1) (pe_globI rfl T.c_END) (nomark _)) (pe_and (pe_cmp (pc_dnotin hu (pv 1) (pe_fld (pv 0) rfl))) (pe_one (pe_cmp (pc_din hu (pv 1) (pe_fld (pv 0) rfl))))))))), ?_⟩
    unfold goneB at k
    have e1 : decide (V.int i = V.int 0) = decide (i = 0) := by simp
    refine ⟨_, rfl, i, rfl, h1, h2, _, rfl, iteF ?_⟩
    refine ⟨_, rfl, rfl, _, rfl, ?_⟩
    rw [e1]
    generalize decide (i = 0) = z at k ⊢
    cases z with
    | true => exact k
    | false =>
      refine iteT ⟨_, rfl, _, rfl, x, C, dx, _, _, rfl, S.ob, T.cl, T.n_arrows, rfl, ad, _, rfl, DGet.k (k := (Sum.inl i : Key)) S.ad_, _, rfl, ?_⟩
      rw [some_c]
      generalize isC cs i = y at k ⊢
      cases y with
      | true => exact k
      | false =>
        refine iteT ⟨_, rfl, _, rfl, x, C, dx, _, _, rfl, S.ob, T.cl, T.n_led_to, rfl, ld, _, rfl, DGet.k (k := (Sum.inl i : Key)) S.ld_, ?_⟩
        rw [S.led]
        exact k
end
end K1
namespace K1
open PySem PySem.Spec L2 Z
section
variable {P : Program} {w : World} {K : PySem.W.Frag} {mg : Str → Option Value} {base : Heap} {C : Addr}
theorem ok_law_places_right (T : Txt K mg C) (G__law_arrows : Pr P w K mg base "_law_arrows" s_law_arrows 1 ["_law_cells"] (sp_law_arrows K)) (G_arrow : PrM P w K mg base C "arrow" "Store.arrow" s_arrow 4 ["self", "place"] (sp_arrow K C)) (G_at : PrM P w K mg base C "at" "Store.at" s_at 2 ["self", "letter"] (sp_at K C)) (G_is_gone : PrM P w K mg base C "is_gone" "Store.is_gone" s_is_gone 4 ["self", "place"] (sp_is_gone K C)) : PrG P w K mg base "_law_places_right" s_law_places_right 5 ["_law_made", "_law_names", "_law_cells", "_law_places"] (sp_law_places_right K C) := by
  obtain ⟨f, fd, F, gl, bd⟩ := T.d__law_places_right
  refine ⟨f, fd, F, gl, bd, okG F sc_law_places_right (fun vs H Q E h => ?_) (fun cdv A outer s H vs Q E hr hgd h => ?_)⟩
  · obtain ⟨x, v, u, l, ns, cs, ps, rfl, _⟩ := h
    rfl
  · obtain ⟨x, v, u, l, ns, cs, ps, rfl, hS, hv, huu, hl, pne, h9, k⟩ := h
    have hu := hu_of hr
    refine ⟨_, (pss_cons (ps_par (i := 5) (j := 6) rfl sc_law_places_right.nd rfl rfl (by decide) rfl rfl (pa_cons (pcall G__law_arrows (hr.mono (by decide)) (pa_cons (pv 2) pa_nil)) (pa_cons (pe_lc (own := [("_law_letter", 9), ("_law_place", 4)]) (g := gTup K 2 (gCons (gName 9) (gCons (gName 4) gNil))) (tt := tYes) rfl sc_law_places_right.nd (pi_tup (pv 1)) (blkOk_by (own := [("_law_letter", 9), ("_law_place", 4)]) (N := N_law_places_right) (sc := defScope s_law_places_right) (by decide +kernel)) (fun _ _ _ _ _ => (pg_tup rfl (pgs_cons (pg_name (i := 9) sc_law_places_right.nd rfl (Or.inl rfl)) (pgs_cons (pg_name (i := 4) sc_law_places_right.nd rfl (Or.inl rfl)) pgs_nil)))) (fun _ _ _ _ _ => pts_nil) (fun _ _ _ _ _ => (pv 4))) pa_nil)) (by rfl))
      (pss_cons (ps_set (i := 7) sc_law_places_right.nd rfl (Or.inl rfl) (pe_op op_cat (pv 6) (pe_lc (own := [("_law_place", 4), ("_law_goal", 10)]) (g := gTup K 2 (gCons (gName 4) (gCons (gName 10) gNil))) (tt := tYes) rfl sc_law_places_right.nd (pi_tup (pv 2)) (blkOk_by (own := [("_law_place", 4), ("_law_goal", 10)]) (N := N_law_places_right) (sc := defScope s_law_places_right) (by decide +kernel)) (fun _ _ _ _ _ => (pg_tup rfl (pgs_cons (pg_name (i := 4) sc_law_places_right.nd rfl (Or.inl rfl)) (pgs_cons (pg_name (i := 10) sc_law_places_right.nd rfl (Or.inl rfl)) pgs_nil)))) (fun _ _ _ _ _ => pts_nil) (fun _ _ _ _ _ => (pv 10)))))
      (pss_cons (ps_if (pt_cmpR op_ne (pe_callB (call_repr hgd hr.units) (by rfl) T.b_repr (by decide +kernel) (pa_cons (pe_lc (own := [("_law_letter", 9), ("_law_place", 4)]) (g := gTup K 2 (gCons (gName 9) (gCons (gName 4) gNil))) (tt := tYes) rfl sc_law_places_right.nd (pi_tup (pv 1)) (blkOk_by (own := [("_law_letter", 9), ("_law_place", 4)]) (N := N_law_places_right) (sc := defScope s_law_places_right) (by decide +kernel)) (fun _ _ _ _ _ => (pg_tup rfl (pgs_cons (pg_name (i := 9) sc_law_places_right.nd rfl (Or.inl rfl)) (pgs_cons (pg_name (i := 4) sc_law_places_right.nd rfl (Or.inl rfl)) pgs_nil)))) (fun _ _ _ _ _ => pts_nil) (fun _ _ _ _ _ => (pmeth (pv 0) T.cl G_at (hr.mono (by decide)) (pa_cons (pv 9) pa_nil)))) pa_nil)) (pe_callB (call_repr hgd hr.units) (by rfl) T.b_repr (by decide +kernel) (pa_cons (pv 6) pa_nil)) (nomark _)) (pss_one (ps_ret pe_bl)) pss_nil)
      (pss_cons (ps_for PassesOwn.never rfl (pi_list (pv 3)) (pg_name (i := 4) sc_law_places_right.nd rfl (Or.inl rfl))
      (pss_cons (ps_set (i := 8) sc_law_places_right.nd rfl (Or.inl rfl) (pe_and (pe_cmpR op_ne (pv 4) pe_int (nomark _)) (pe_and (pe_cmp (pc_dnotin hu (pv 4) (pv 5))) (pe_one (pe_cmpR op_in_seq (pv 4) (pv 7) (by rfl))))))
      (pss_one (ps_if (pt_cmpR op_ne (pe_callB (call_repr hgd hr.units) (by rfl) T.b_repr (by decide +kernel) (pa_cons (pe_lst (pa_cons (pmeth (pv 0) T.cl G_arrow (hr.mono (by decide)) (pa_cons (pv 4) pa_nil)) (pa_cons (pmeth (pv 0) T.cl G_is_gone (hr.mono (by decide)) (pa_cons (pv 4) pa_nil)) pa_nil))) pa_nil)) (pe_callB (call_repr hgd hr.units) (by rfl) T.b_repr (by decide +kernel) (pa_cons (pe_lst (pa_cons (pe_dget1 hu (pv 5) (pv 4) ⟨rfl, rfl, rfl, rfl⟩) (pa_cons (pv 8) pa_nil))) pa_nil)) (nomark _)) (pss_one (ps_ret pe_bl)) pss_nil))))
      (pss_one (ps_ret (pe_and (pe_cmpR op_eq (pmethN0 (pv 0) T.cl G_arrow (hr.mono (by decide)) kb_arrow (pk_cons (pe_ix ix_list (pv 3) pe_int (fun _ _ => rfl)) pk_nil)) (pe_dget1 hu (pv 5) (pe_ix ix_list (pv 3) pe_int (fun _ _ => rfl)) ⟨rfl, rfl, rfl, rfl⟩) (nomark _)) (pe_one (pe_cmpR op_eq (pmethN0 (pv 0) T.cl G_at (hr.mono (by decide)) kb_at (pk_cons (pe_ix ix_tup (pe_ix ix_tup (pv 1) pe_int (fun _ _ => rfl)) pe_int (fun _ _ => rfl)) pk_nil)) (pe_ix ix_list (pv 6) pe_int (fun _ _ => rfl)) (nomark _)))))))))), ?_⟩
    obtain ⟨a, rs, rfl, ht, hp⟩ := hv
    obtain ⟨b, qs, rfl, ht2, hp2⟩ := huu
    have tn : TP K H (.ref a) (ns.map nV) := ⟨a, rs, rfl, ht, hp⟩
    have tc : TP K H (.ref b) (cs.map cV) := ⟨b, qs, rfl, ht2, hp2⟩
    obtain ⟨ok, ck⟩ : NOk ns ∧ COk cs := by
      obtain ⟨v0, u0, dx, pd, ad, ld, ks, S⟩ := hS
      exact ⟨S.nok, S.cok⟩
    have o1 := ok.one
    have o4 := ok.four
    have c4 := ck.few
    refine ⟨_, rfl, .ref b, cs, rfl, tc, ck, fun H1 d s1 hdn hd => ?_⟩
    refine lcP nV (fun p => V.int p.2) rfl (PT.same s1 ht) (Paired.imm (.of s1) hp) (by omega) (fun b p H3 R sm hq hm hR => ?_) (fun H2 D s2 hD hl2 => ?_)
    · exact ⟨b, _, rfl, hq, rfl, _, _, rfl, _, _, rfl, rfl, rfl, _, rfl, hR⟩
    have s02 := s1.trans s2
    refine ⟨_, _, rfl, _, rfl, ?_⟩
    dsimp only
    refine lcP cV (fun p => V.int p.2) rfl (PT.same s02 ht2) (Paired.imm (.of s02) hp2) (by omega) (fun b p H3 R sm hq hm hR => ?_) (fun H3 E3 s3 hE hl3 => ?_)
    · exact ⟨b, _, rfl, hq, rfl, _, _, rfl, _, _, rfl, rfl, rfl, _, rfl, hR⟩
    have s03 := s02.trans s3
    refine ⟨D, E3, _, _, rfl, rfl, s3 _ _ hl2, hl3, by rw [List.length_map, List.length_map]; exact sl_le (by omega), fun lg hlg => ?_⟩
    have gg : (ns.map fun p => V.int p.2) ++ (cs.map fun p => V.int p.2) = (goals ns cs).map V.int := by
      simp only [goals, List.map_append, List.map_map]
      rfl
    rw [gg]
    have s4 := s03.trans (same_new (o := .lst ((goals ns cs).map V.int)) hlg)
    have g4 : upd H3 lg (.lst ((goals ns cs).map V.int)) lg = some (.lst ((goals ns cs).map V.int)) := upd_same
    have h4 : Same H2 (upd H3 lg (.lst ((goals ns cs).map V.int))) := s3.trans (same_new hlg)
    have d4 := h4 _ _ (s2 _ _ hd)
    have D4 := h4 _ _ hl2
    generalize upd H3 lg (.lst ((goals ns cs).map V.int)) = H4 at s4 g4 d4 D4 ⊢
    clear h4
    unfold gName tSeq tIfS tTest tOp tCB tCons
    dsimp only
    have e4 := St.same s4 hS
    obtain ⟨dx, fs, ob, f1, f2, f3⟩ := St.ins e4
    refine lcP nV (fun p => V.int p.2) rfl (PT.same s4 ht) (Paired.imm (.of s4) hp) (by omega) (fun b p H5 R s5 hq hm hR => ?_) (fun H5 F5 s5 hF5 hl5 => ?_)
    · exact ⟨b, _, rfl, hq, rfl, _, _, rfl, _, _, rfl, rfl, rfl, _, rfl, x, dx, fs, rfl, s5 _ _ ob, f1, _, rfl, x, ns, cs, p, rfl, St.same s5 e4, hm, hR⟩
    have hd1 : (ns.map fun p => V.int p.2) = (ns.map (·.2)).map V.int := by
      rw [List.map_map]
      rfl
    rw [hd1] at hl5 D4
    have hds : ∀ i ∈ ns.map (·.2), 0 ≤ i ∧ i ≤ 999 := fun i hi => by
      obtain ⟨p, hp, rfl⟩ := List.mem_map.mp hi
      exact ok.pl p hp
    have hlen : (5 + 2) * ((ns.map (·.2)).map PyData.int).length + 3 ≤ 16000000 := by
      rw [List.length_map, List.length_map]
      omega
    obtain ⟨r1, r2, r3, r4, r5⟩ := repr_ok (K := K) (.inl (.inl hl5)) (dp_ints _) (fit_ints hds) hlen (by decide)
    refine ⟨F5, _, rfl, r1, r2, r3, r4, r5, _, rfl, ?_⟩
    obtain ⟨r1, r2, r3, r4, r5⟩ := repr_ok (K := K) (.inl (.inl (s5 _ _ D4))) (dp_ints _) (fit_ints hds) hlen (by decide)
    refine ⟨D, _, rfl, r1, r2, r3, r4, r5, rfl, false, bl_ne _, iteF ?_⟩
    have s05 := s4.trans s5
    unfold tNext
    dsimp only
    refine forL (l := l) (xs := ps.map V.int) (fun i σ H' => Same H5 H' ∧ ∃ x4 x8, σ = [some (.ref x), some (.ref a), some (.ref b), some (.ref l), x4, some (.ref d), some (.ref D), some (.ref lg), x8, none, none]) rfl ⟨fun _ _ h => h, _, _, rfl⟩ (fun i σ H' _ h => .inl (.inl (h.1 _ _ (s05 _ _ hl)))) ?_ ?_
    · rintro i y σ H6 hy ⟨s6, x4, x8, rfl⟩
      obtain ⟨z, rfl, hz⟩ := ints_mem (List.mem_of_getElem? hy)
      obtain ⟨z0, z9⟩ := h9 z hz
      have d6 := s6 _ _ (s5 _ _ d4)
      have g6 := s6 _ _ (s5 _ _ g4)
      have e6 := St.same (s5.trans s6) e4
      have ob6 := s6 _ _ (s5 _ _ ob)
      dsimp only
      unfold tAsg
      refine andV_bl (c1 := !decide (z = 0)) (c2 := !isC cs z && decide (z ∈ goals ns cs)) (fun R r => ⟨_, rfl, rfl, by rw [ne0_eq]; exact r⟩) (fun R r => andV_bl (c1 := !isC cs z) (c2 := decide (z ∈ goals ns cs)) (fun R r => ⟨_, rfl, _, rfl, d, _, rfl, DGet.k (k := (Sum.inl z : Key)) d6, by rw [some_c]; exact r⟩) (fun R r => ⟨_, rfl, _, rfl, lg, _, rfl, .inl (.inl (.inl g6)), rfl, flat_int _, by
        show R (.bl (inV (.int z) ((goals ns cs).map V.int))) H6
        rw [inV_int]
        exact r⟩) r) ?_
      refine ⟨_, rfl, x, dx, fs, rfl, ob6, f2, _, rfl, x, ns, cs, z, rfl, e6, z0, z9, _, rfl, x, dx, fs, rfl, ob6, f3, _, rfl, x, ns, cs, z, rfl, e6, z0, z9, by show 2 ≤ sizeLine; exact sl_le (by decide), fun p1 hp1 => ?_⟩
      have fz : ∀ q ∈ [lookD cs z, PyData.bool (goneB ns cs z)], Fit q 5 0 := fun q hq => by
        rcases List.mem_cons.mp hq with rfl | hq
        · exact fit_look ck z
        · rcases List.mem_cons.mp hq with rfl | hq
          · exact fit_bl _
          · cases hq
      have zl : (5 + 2) * [lookD cs z, PyData.bool (goneB ns cs z)].length + 3 ≤ 16000000 := by
        show (5 + 2) * 2 + 3 ≤ 16000000
        decide
      obtain ⟨r1, r2, r3, r4, r5⟩ := repr_ok (K := K) (.inl (.inl (upd_same (H := H6) (a := p1) (o := .lst [lookC cs z, V.bl (goneB ns cs z)])))) (.cons (dp_look cs z) (.cons (.bl _) .nil)) fz zl (by decide)
      refine ⟨p1, _, rfl, r1, r2, r3, r4, r5, ?_⟩
      have s7 := same_new (o := .lst [lookC cs z, V.bl (goneB ns cs z)]) hp1
      generalize upd H6 p1 (.lst [lookC cs z, V.bl (goneB ns cs z)]) = H7 at s7 ⊢
      refine ⟨_, rfl, d, rfl, .inl ⟨_, .inl (s7 _ _ d6)⟩, _, rfl, _, DGet.k (k := (Sum.inl z : Key)) (s7 _ _ d6), ?_⟩
      rw [look_c]
      refine ⟨_, rfl, by show 2 ≤ sizeLine; exact sl_le (by decide), fun p2 hp2 => ?_⟩
      obtain ⟨r1, r2, r3, r4, r5⟩ := repr_ok (K := K) (.inl (.inl (upd_same (H := H7) (a := p2) (o := .lst [lookC cs z, V.bl (goneB ns cs z)])))) (.cons (dp_look cs z) (.cons (.bl _) .nil)) fz zl (by decide)
      refine ⟨p2, _, rfl, r1, r2, r3, r4, r5, rfl, false, bl_ne _, iteF ?_⟩
      exact ⟨(s6.trans s7).trans (same_new hp2), _, _, rfl⟩
    rintro σ H6 ⟨s6, x4, x8, rfl⟩
    have s06 := s05.trans s6
    have d6 := s6 _ _ (s5 _ _ d4)
    have e6 := St.same s06 hS
    have ob6 := s6 _ _ (s5 _ _ ob)
    obtain ⟨p0, pt, rfl⟩ : ∃ p0 pt, ps = p0 :: pt := List.exists_cons_of_ne_nil pne
    have l6 : H6 l = some (.lst (V.int p0 :: pt.map V.int)) := s06 _ _ hl
    obtain ⟨z0, z9⟩ := h9 p0 List.mem_cons_self
    dsimp only
    unfold tRet
    refine andV_bl (c1 := true) (c2 := true) (fun R r => ?_) (fun R r => ?_) (k H6 s06)
    · refine ⟨_, rfl, x, dx, fs, rfl, ob6, f2, _, rfl, l, _, 0, _, rfl, rfl, .inl (.inl l6), at_first, rfl, x, ns, cs, p0, rfl, e6, z0, z9, _, rfl, d, rfl, .inl ⟨_, .inl d6⟩, _, rfl, l, _, 0, _, rfl, rfl, .inl (.inl l6), at_first, _, DGet.k (k := (Sum.inl p0 : Key)) d6, ?_⟩
      rw [look_c]
      refine ⟨scal_look cs p0, ?_⟩
      rw [decide_eq_true rfl]
      exact r
    · cases ns with
      | nil => simp at o1
      | cons n0 nt =>
        cases rs with
        | nil => exact absurd (Paired.len hp) (by simp)
        | cons r0 rt =>
          cases hp with
          | cons q0 qt =>
            have ht6 : SqT K H6 a (V.ref r0 :: rt.map V.ref) := (PT.same s06 ht).sq
            have D6 := s6 _ _ (s5 _ _ D4)
            refine ⟨_, rfl, x, dx, fs, rfl, ob6, f1, _, rfl, a, _, 0, _, rfl, rfl, ht6, at_first, r0, _, 0, _, rfl, rfl, SqT.imm (.of s06) q0, at_first, rfl, x, n0 :: nt, cs, n0, rfl, e6, List.mem_cons_self, _, rfl, D, _, 0, _, rfl, rfl, .inl (.inl D6), at_first, rfl, ?_⟩
            rw [decide_eq_true rfl]
            exact r
end
end K1
namespace K1
open PySem PySem.Spec L2 Z
section
variable {P : Program} {w : World} {K : PySem.W.Frag} {mg : Str → Option Value} {base : Heap} {C : Addr}
theorem ok_law_tells (T : Txt K mg C) (G__law_store_text : Pr P w K mg base "_law_store_text" s_law_store_text 1 ["_law_names", "_law_cells"] (sp_store_text K)) : PrG P w K mg base "_law_tells" s_law_tells 2 ["_law_made", "_law_names", "_law_cells"] (sp_law_tells K C) := by
  obtain ⟨f, fd, F, gl, bd⟩ := T.d__law_tells
  refine ⟨f, fd, F, gl, bd, okG F sc_law_tells (fun vs H Q E h => ?_) (fun cdv A outer s H vs Q E hr hgd h => ?_)⟩
  · obtain ⟨x, v, u, ns, cs, rfl, _⟩ := h
    rfl
  · obtain ⟨x, v, u, ns, cs, rfl, ⟨v0, u0, dx, pd, ad, ld, ks, S⟩, hv, huu, k⟩ := h
    have hu := hu_of hr
    refine ⟨_, (pss_cons (ps_if (PW.pt (pw_or (pt_not (pt_val (pe_callB call_isi (by rfl) T.b_isinstance (by decide +kernel) (pa_cons (pe_fld (pv 0) rfl) (pa_cons (pe_bty "tuple" (by rfl) T.b_tuple (by decide +kernel)) pa_nil))))) (pw_or1 (pt_not (pt_val (pe_callB call_isi (by rfl) T.b_isinstance (by decide +kernel) (pa_cons (pe_fld (pv 0) rfl) (pa_cons (pe_bty "tuple" (by rfl) T.b_tuple (by decide +kernel)) pa_nil)))))))) (pss_one (ps_ret pe_bl)) pss_nil)
      (pss_cons (ps_set (i := 3) sc_law_tells.nd rfl (Or.inl rfl) (pe_join pe_str (pe_lc (own := [("_law_each", 5)]) (g := gName 5) (tt := tYes) rfl sc_law_tells.nd (pi_tup (pv 1)) (blkOk_by (own := [("_law_each", 5)]) (N := N_law_tells) (sc := defScope s_law_tells) (by decide +kernel)) (fun _ _ _ _ _ => (pg_name (i := 5) sc_law_tells.nd rfl (Or.inl rfl))) (fun _ _ _ _ _ => pts_nil) (fun _ _ _ _ _ => (pe_ix (ix_tupK (K := K) rfl) (pv 5) pe_int (fun _ _ => rfl))))))
      (pss_cons (ps_set (i := 4) sc_law_tells.nd rfl (Or.inl rfl) (pe_lst (pa_cons (pe_fld (pv 0) rfl) (pa_cons (pe_fld (pv 0) rfl) (pa_cons (pe_fld (pv 0) rfl) (pa_cons (pe_fld (pv 0) rfl) pa_nil))))))
      (pss_one (ps_ret (pe_cmpR op_eq (pe_callB (call_repr hgd hr.units) (by rfl) T.b_repr (by decide +kernel) (pa_cons (pv 4) pa_nil)) (pe_callB (call_repr hgd hr.units) (by rfl) T.b_repr (by decide +kernel) (pa_cons (pe_lst (pa_cons (pv 1) (pa_cons (pv 2) (pa_cons (pv 3) (pa_cons (pcall G__law_store_text (hr.mono (by decide)) (pa_cons (pv 1) (pa_cons (pv 2) pa_nil))) pa_nil))))) pa_nil)) (nomark _))))))), ?_⟩
    have SS := S
    obtain ⟨a, rs, rfl, ht, hp⟩ := hv
    obtain ⟨b, qs, rfl, ht2, hp2⟩ := huu
    obtain ⟨a0, rs0, hv0, ht0, hp0⟩ := S.nm
    subst hv0
    obtain ⟨b0, qs0, hu0, ht3, hp3⟩ := S.ce
    subst hu0
    have ok := S.nok
    have ck := S.cok
    have o4 := ok.four
    refine ⟨_, rfl, x, C, dx, _, _, rfl, S.ob, T.cl, T.n_names, rfl, _, _, _, _, _, rfl, .ty _, SqT.ty ht0.sq, kit_ty (r := true) (by decide +kernel), _, rfl, iteF ?_⟩
    refine ⟨_, rfl, x, C, dx, _, _, rfl, S.ob, T.cl, T.n_cells, rfl, _, _, _, _, _, rfl, .ty _, SqT.ty ht3.sq, kit_ty (r := true) (by decide +kernel), _, rfl, iteF ?_⟩
    refine ⟨⟨_, rfl⟩, ?_⟩
    dsimp only
    refine lcP nV (fun p => V.str (ch p.1)) rfl ht hp (by omega) (fun b p H3 R sm hq hm hR => ?_) (fun H1 D s1 hD hl => ?_)
    · exact ⟨rfl, _, rfl, b, _, 0, _, rfl, rfl, hq, at_first, hR⟩
    have l4 : (List.map (fun x => x.length) (ns.map fun p => ch p.1)).sum ≤ 1 * (ns.map fun p => ch p.1).length := sum_len fun y hy => by
      obtain ⟨p, hp, rfl⟩ := List.mem_map.mp hy
      exact Nat.le_refl _
    rw [List.length_map] at l4
    refine ⟨_, _, ns.map fun p => ch p.1, rfl, rfl, .inl (.inl (.inl (by rw [List.map_map]; exact hl))), ?_, ?_⟩
    · rw [List.length_map]
      have e : (Str.ofString "").length = 0 := by decide +kernel
      rw [e]
      omega
    have ob1 := s1 _ _ S.ob
    refine ⟨_, rfl, x, C, dx, _, _, rfl, ob1, T.cl, T.n_names, rfl, _, rfl, x, C, dx, _, _, rfl, ob1, T.cl, T.n_cells, rfl, _, rfl, x, C, dx, _, _, rfl, ob1, T.cl, T.n_letters, rfl, _, rfl, x, C, dx, _, _, rfl, ob1, T.cl, T.n_text, rfl, by show 4 ≤ sizeLine; exact sl_le (by decide), fun p hpn => ?_⟩
    have s2 := s1.trans (same_new (o := .lst [V.ref a0, V.ref b0, V.str (lTxt ns), V.str (stTxt ns cs)]) hpn)
    have tn : TP K H (.ref a) (ns.map nV) := ⟨a, rs, rfl, ht, hp⟩
    have tc : TP K H (.ref b) (cs.map cV) := ⟨b, qs, rfl, ht2, hp2⟩
    have tn0 : TP K H (.ref a0) (ns.map nV) := ⟨a0, rs0, rfl, ht0, hp0⟩
    have tc0 : TP K H (.ref b0) (cs.map cV) := ⟨b0, qs0, rfl, ht3, hp3⟩
    obtain ⟨r1, r2, r3, r4, r5⟩ := repr_ok (ds := tellD ns cs) (.inl (.inl (upd_same (H := H1) (a := p) (o := .lst [V.ref a0, V.ref b0, V.str (lTxt ns), V.str (stTxt ns cs)])))) (.cons (dp_n (TP.imm (.of s2) tn0)) (.cons (dp_c (TP.imm (.of s2) tc0)) (.cons (.str _) (.cons (.str _) .nil)))) (fit_tell ok ck) (by show (32312 + 2) * 4 + 3 ≤ 16000000; decide) (by decide)
    refine ⟨_, rfl, p, .list (tellD ns cs), rfl, r1, r2, r3, r4, r5, ?_⟩
    have s3 : Same H (upd H1 p (.lst [V.ref a0, V.ref b0, V.str (lTxt ns), V.str (stTxt ns cs)])) := s2
    refine ⟨_, rfl, _, rfl, _, rfl, _, rfl, _, rfl, .ref a, .ref b, ns, cs, rfl, TP.imm (.of s3) tn, TP.imm (.of s3) tc, ok, ck, fun H3 s4 => ⟨by show 4 ≤ sizeLine; exact sl_le (by decide), fun p2 hp2 => ?_⟩⟩
    have s5 := (s3.trans s4).trans (same_new (o := .lst [V.ref a, V.ref b, V.str (lTxt ns), V.str (stTxt ns cs)]) hp2)
    obtain ⟨r1, r2, r3, r4, r5⟩ := repr_ok (ds := tellD ns cs) (.inl (.inl (upd_same (H := H3) (a := p2) (o := .lst [V.ref a, V.ref b, V.str (lTxt ns), V.str (stTxt ns cs)])))) (.cons (dp_n (TP.imm (.of s5) tn)) (.cons (dp_c (TP.imm (.of s5) tc)) (.cons (.str _) (.cons (.str _) .nil)))) (fit_tell ok ck) (by show (32312 + 2) * 4 + 3 ≤ 16000000; decide) (by decide)
    refine ⟨p2, .list (tellD ns cs), rfl, r1, r2, r3, r4, r5, rfl, ?_⟩
    rw [decide_eq_true rfl]
    exact k _ s5
end
end K1
namespace K1
open PySem PySem.Spec L2 Z
section
variable {P : Program} {w : World} {K : PySem.W.Frag} {mg : Str → Option Value} {base : Heap} {C : Addr}
theorem ok_eq (T : Txt K mg C)  : PrE P w K mg base C "Store.__eq__" s_eq 1 (sp_eq K C) := by
  obtain ⟨f, fd, F, O⟩ := T.d_eq
  refine ⟨f, fd, F, O, F.ok sc_eq (fun vs H Q E h => ?_) (fun cdv A outer s H vs Q E hr h => ?_)⟩
  · obtain ⟨x, y, ns, cs, rfl, _⟩ := h
    rfl
  · obtain ⟨x, y, ns, cs, rfl, ⟨v, u, dx, pd, ad, ld, ks, S⟩, h⟩ := h
    have hu := hu_of hr
    refine ⟨_, (pss_one (ps_ret (pe_and (pe_callB call_isi (by rfl) T.b_isinstance (by decide +kernel) (pa_cons (pv 1) (pa_cons (pe_glob (v := V.ref C) rfl T.mgC rfl) pa_nil))) (pe_and (pe_cmpR (op_eqD hr.units) (pe_fld (pv 0) rfl) (pe_fld (pv 1) rfl) (nomark _)) (pe_one (pe_cmpR (op_eqD hr.units) (pe_fld (pv 0) rfl) (pe_fld (pv 1) rfl) (nomark _))))))), ?_⟩
    rcases h with ⟨x', ns', cs', rfl, ⟨v', u', dx', pd', ad', ld', ks', S'⟩, k⟩ | ⟨h, k⟩
    · refine ⟨_, rfl, _, _, _, _, true, rfl, .own C, .base (.ins S'.ob T.cl T.isC T.isG T.isT T.isM), T.k_self, _, rfl, iteT ?_⟩
      refine ⟨_, rfl, x, C, dx, _, _, rfl, S.ob, T.cl, T.n_names, rfl, _, rfl, x', C, dx', _, _, rfl, S'.ob, T.cl, T.n_names, rfl, nD ns, nD ns', dp_n S.nm, dp_n S'.nm, shape_n S.nok, shape_n S'.nok, _, rfl, ?_⟩
      rw [eqv_n]
      have ek : decide (ns = ns' ∧ cs = cs') = (decide (ns = ns') && decide (cs = cs')) := by simp
      rw [ek] at k
      generalize decide (ns = ns') = z at k ⊢
      cases z with
      | false => exact k
      | true =>
        refine iteT ⟨_, rfl, x, C, dx, _, _, rfl, S.ob, T.cl, T.n_cells, rfl, _, rfl, x', C, dx', _, _, rfl, S'.ob, T.cl, T.n_cells, rfl, cD cs, cD cs', dp_c S.ce, dp_c S'.ce, shape_c S.cok, shape_c S'.cok, ?_⟩
        rw [eqv_c]
        exact k
    · rcases h with ⟨z, rfl⟩ | ⟨i, rfl⟩ | ⟨a, xs, rfl, hq⟩
      · exact ⟨_, rfl, _, _, _, _, false, rfl, .own C, .base (.str z), T.k_str, _, rfl, iteF k⟩
      · exact ⟨_, rfl, _, _, _, _, false, rfl, .own C, .base (.int i), T.k_int, _, rfl, iteF k⟩
      · exact ⟨_, rfl, _, _, _, _, false, rfl, .own C, SqT.ty hq, T.k_tup, _, rfl, iteF k⟩
end
end K1
namespace K1
open PySem PySem.Spec L2 Z
section
variable {P : Program} {w : World} {K : PySem.W.Frag} {mg : Str → Option Value} {base : Heap} {C : Addr}
theorem ok_law_right (T : Txt K mg C) (G__law_letters : Pr P w K mg base "_law_letters" s_law_letters 3 ["_law_jug_here", "_law_many"] sp_law_letters) (G__law_drawn_cells : Pr P w K mg base "_law_drawn_cells" s_law_drawn_cells 3 ["_law_jug_here", "_law_most"] (sp_law_drawn_cells K)) (G_read_store : Pr P w K mg base "read_store" s_read_store 8 ["text"] (sp_read_store K C)) (G__law_turned : Pr P w K mg base "_law_turned" s_law_turned 3 ["_law_jug_here", "_law_names", "_law_cells", "_law_goals"] (sp_law_turned K)) (G__law_one_of : Pr P w K mg base "_law_one_of" s_law_one_of 2 ["_law_jug_here", "_law_some"] (sp_law_one_of K)) (G_init : PrI P w K mg base C "Store.__init__" s_init 5 ["self", "names", "cells"] (sp_init K C)) (G__law_store_text : Pr P w K mg base "_law_store_text" s_law_store_text 1 ["_law_names", "_law_cells"] (sp_store_text K)) (G__law_places_right : PrG P w K mg base "_law_places_right" s_law_places_right 5 ["_law_made", "_law_names", "_law_cells", "_law_places"] (sp_law_places_right K C)) (G__law_tells : PrG P w K mg base "_law_tells" s_law_tells 2 ["_law_made", "_law_names", "_law_cells"] (sp_law_tells K C)) (G__law_take : Pr P w K mg base "_law_take" s_law_take 1 ["_law_jug_here", "_law_many"] sp_law_take) (G_eq : PrE P w K mg base C "Store.__eq__" s_eq 1 (sp_eq K C)) : PrG P w K mg base "_law_right" s_law_right 9 ["_law_jug_here"] (sp_law_right) := by
  obtain ⟨f, fd, F, gl, bd⟩ := T.d__law_right
  refine ⟨f, fd, F, gl, bd, okG F sc_law_right (fun vs H Q E h => ?_) (fun cdv A outer s H vs Q E hr hgd h => ?_)⟩
  · obtain ⟨j, rfl, _⟩ := h
    rfl
  · obtain ⟨j, rfl, hj, k⟩ := h
    have hu := hu_of hr
    refine ⟨_, (pss_cons (ps_set (i := 1) sc_law_right.nd rfl (Or.inl rfl) (pcall G__law_letters (hr.mono (by decide)) (pa_cons (pv 0) (pa_cons (pe_op op_add pe_int (pcall G__law_take (hr.mono (by decide)) (pa_cons (pv 0) (pa_cons pe_int pa_nil)))) pa_nil))))
      (pss_cons (ps_asg (pcall G__law_drawn_cells (hr.mono (by decide)) (pa_cons (pv 0) (pa_cons (pcall G__law_one_of (hr.mono (by decide)) (pa_cons (pv 0) (pa_cons (pe_lst (pa_cons pe_int (pa_cons pe_int (pa_cons pe_int pa_nil)))) pa_nil))) pa_nil))) (pg_tup rfl (pgs_cons (pg_name (i := 2) sc_law_right.nd rfl (Or.inl rfl)) (pgs_cons (pg_name (i := 3) sc_law_right.nd rfl (Or.inr rfl)) pgs_nil))))
      (pss_cons (ps_par (i := 4) (j := 2) rfl sc_law_right.nd rfl rfl (by decide) rfl rfl (pa_cons (pe_callTy call_tupP (by rfl) T.b_tuple (by decide +kernel) (pa_cons (pe_lc (own := [("_law_letter", 13)]) (g := gName 13) (tt := tYes) rfl sc_law_right.nd (pi_list (pv 1)) (blkOk_by (own := [("_law_letter", 13)]) (N := N_law_right) (sc := defScope s_law_right) (by decide +kernel)) (fun _ _ _ _ _ => (pg_name (i := 13) sc_law_right.nd rfl (Or.inl rfl))) (fun _ _ _ _ _ => pts_nil) (fun _ _ _ _ _ => (pe_tup (pa_cons (pv 13) (pa_cons (pcall G__law_one_of (hr.mono (by decide)) (pa_cons (pv 0) (pa_cons (pv 3) pa_nil))) pa_nil))))) pa_nil)) (pa_cons (pe_callTy call_tupP (by rfl) T.b_tuple (by decide +kernel) (pa_cons (pv 2) pa_nil)) pa_nil)) (by rfl))
      (pss_cons (ps_par (i := 5) (j := 6) rfl sc_law_right.nd rfl rfl (by decide) rfl rfl (pa_cons (pmake G_init T.mgC (hr.mono (by decide)) (pa_cons (pv 4) (pa_cons (pv 2) pa_nil))) (pa_cons (pmakeK0 G_init T.mgC (hr.mono (by decide)) kb_init (pk_cons (pv 2) (pk_cons (pv 4) pk_nil))) pa_nil)) (by rfl))
      (pss_cons (ps_if (PW.pt (pw_or (pt_not (pt_val (pcallG G__law_tells (hr.mono (by decide)) hgd (pa_cons (pv 5) (pa_cons (pv 4) (pa_cons (pv 2) pa_nil)))))) (pw_or1 (pt_not (pt_val (pcallG G__law_tells (hr.mono (by decide)) hgd (pa_cons (pv 6) (pa_cons (pv 4) (pa_cons (pv 2) pa_nil))))))))) (pss_one (ps_ret pe_bl)) pss_nil)
      (pss_cons (ps_set (i := 7) sc_law_right.nd rfl (Or.inl rfl) (pcall G_read_store (hr.mono (by decide)) (pa_cons (pcall G__law_store_text (hr.mono (by decide)) (pa_cons (pv 4) (pa_cons (pv 2) pa_nil))) pa_nil)))
      (pss_cons (ps_if (PW.pt (pw_or (pt_not (pt_val (pcallG G__law_tells (hr.mono (by decide)) hgd (pa_cons (pv 7) (pa_cons (pv 4) (pa_cons (pv 2) pa_nil)))))) (pw_or1 (pt_not (pt_val (pcallG G__law_tells (hr.mono (by decide)) hgd (pa_cons (pcallN0 G_read_store (hr.mono (by decide)) kb_read_store (pk_cons (pe_fld (pv 5) rfl) pk_nil)) (pa_cons (pv 4) (pa_cons (pv 2) pa_nil))))))))) (pss_one (ps_ret pe_bl)) pss_nil)
      (pss_cons (ps_if (pt_cmpR op_ne (pe_callB (call_repr hgd hr.units) (by rfl) T.b_repr (by decide +kernel) (pa_cons (pe_lst (pa_cons (pe_cmpR (pOwnEq G_eq (hr.mono (by decide))) (pv 5) (pv 6) (nomark _)) (pa_cons (pe_cmpR (pOwnNe G_eq (hr.mono (by decide))) (pv 5) (pv 6) (nomark _)) (pa_cons (pe_cmpR (pOwnEq G_eq (hr.mono (by decide))) (pv 5) (pv 7) (nomark _)) (pa_cons (pe_cmpR (pOwnNe G_eq (hr.mono (by decide))) (pv 7) (pv 5) (nomark _)) pa_nil))))) pa_nil)) (pe_callB (call_repr hgd hr.units) (by rfl) T.b_repr (by decide +kernel) (pa_cons (pe_lst (pa_cons pe_bl (pa_cons pe_bl (pa_cons pe_bl (pa_cons pe_bl pa_nil))))) pa_nil)) (nomark _)) (pss_one (ps_ret pe_bl)) pss_nil)
      (pss_cons (ps_asg (pcall G__law_turned (hr.mono (by decide)) (pa_cons (pv 0) (pa_cons (pv 4) (pa_cons (pv 2) (pa_cons (pv 3) pa_nil))))) (pg_tup rfl (pgs_cons (pg_name (i := 8) sc_law_right.nd rfl (Or.inl rfl)) (pgs_cons (pg_name (i := 9) sc_law_right.nd rfl (Or.inl rfl)) pgs_nil))))
      (pss_cons (ps_par (i := 10) (j := 11) rfl sc_law_right.nd rfl rfl (by decide) rfl rfl (pa_cons (pmake G_init T.mgC (hr.mono (by decide)) (pa_cons (pv 8) (pa_cons (pv 9) pa_nil))) (pa_cons (pe_cmpR (op_eqD hr.units) (pe_tup (pa_cons (pv 8) (pa_cons (pv 9) pa_nil))) (pe_tup (pa_cons (pv 4) (pa_cons (pv 2) pa_nil))) (nomark _)) pa_nil)) (by rfl))
      (pss_cons (ps_if (pt_cmpR op_ne (pe_callB (call_repr hgd hr.units) (by rfl) T.b_repr (by decide +kernel) (pa_cons (pe_lst (pa_cons (pe_cmpR (pOwnEq G_eq (hr.mono (by decide))) (pv 5) (pv 10) (nomark _)) (pa_cons (pe_cmpR (pOwnNe G_eq (hr.mono (by decide))) (pv 10) (pv 5) (nomark _)) pa_nil))) pa_nil)) (pe_callB (call_repr hgd hr.units) (by rfl) T.b_repr (by decide +kernel) (pa_cons (pe_lst (pa_cons (pv 11) (pa_cons (pe_not (pv 11)) pa_nil))) pa_nil)) (nomark _)) (pss_one (ps_ret pe_bl)) pss_nil)
      (pss_cons (ps_if (pt_cmpR op_ne (pe_callB (call_repr hgd hr.units) (by rfl) T.b_repr (by decide +kernel) (pa_cons (pe_lst (pa_cons (pe_cmpR (pOwnEq G_eq (hr.mono (by decide))) (pv 5) (pe_fld (pv 5) rfl) (nomark _)) (pa_cons (pe_cmpR (pOwnNe G_eq (hr.mono (by decide))) (pv 5) (pe_fld (pv 5) rfl) (nomark _)) (pa_cons (pe_cmpR (pOwnEq G_eq (hr.mono (by decide))) (pv 5) pe_int (nomark _)) (pa_cons (pe_cmpR (pOwnEq G_eq (hr.mono (by decide))) (pv 5) (pe_tup (pa_cons (pv 4) (pa_cons (pv 2) pa_nil))) (nomark _)) pa_nil))))) pa_nil)) (pe_callB (call_repr hgd hr.units) (by rfl) T.b_repr (by decide +kernel) (pa_cons (pe_lst (pa_cons pe_bl (pa_cons pe_bl (pa_cons pe_bl (pa_cons pe_bl pa_nil))))) pa_nil)) (nomark _)) (pss_one (ps_ret pe_bl)) pss_nil)
      (pss_cons (ps_set (i := 12) sc_law_right.nd rfl (Or.inl rfl) (pe_op op_cat (pv 3) (pe_lst (pa_cons pe_int (pa_cons pe_int (pa_cons (pe_ifExp (pt_cmpR op_gt (pe_ix ix_list (pv 3) (pe_un un_neg pe_int) (fun _ _ => rfl)) pe_int (nomark _)) (pe_op op_sub (pe_ix ix_list (pv 3) (pe_un un_neg pe_int) (fun _ _ => rfl)) pe_int) pe_int) (pa_cons pe_int pa_nil)))))))
      (pss_one (ps_ret (pe_and (pcallG G__law_places_right (hr.mono (by decide)) hgd (pa_cons (pv 5) (pa_cons (pv 4) (pa_cons (pv 2) (pa_cons (pv 12) pa_nil))))) (pe_one (pcallG G__law_tells (hr.mono (by decide)) hgd (pa_cons (pv 5) (pa_cons (pv 4) (pa_cons (pv 2) pa_nil))))))))))))))))))))), ?_⟩
    refine ⟨_, rfl, _, rfl, j, 4, rfl, hj, by decide, by decide, fun H1 k1 c1 j1 k10 k14 => ⟨_, _, rfl, rfl, j, 1 + k1, rfl, j1, by omega, by omega, fun H2 pl lcs c2 j2 hpl hl2 len2 rng asc => ?_⟩⟩
    have c02 := c1.trans c2
    have hlcs : lcs.length ≤ 4 := by omega
    refine ⟨_, rfl, _, rfl, by show 3 ≤ sizeLine; exact sl_le (by decide), fun l0 hl0 => ?_⟩
    have nl0 := j2.ne hl0
    refine ⟨j, l0, _, rfl, jug_upd nl0 j2, nl0, .inl (.inl upd_same), by simp, by simp, fun H3 x3 c3 j3 hx3 => ?_⟩
    have npl : pl ≠ j := j1.ne hpl
    have hl3 := c3 _ _ (same_new (o := .lst [V.int 3, V.int 6, V.int 30]) hl0 _ _ hl2) npl
    have c03 := (c02.trans (Chg.of (same_new (o := .lst [V.int 3, V.int 6, V.int 30]) hl0))).trans c3
    obtain ⟨m0, rfl, m00, m30⟩ : ∃ z : Int, x3 = .int z ∧ 0 ≤ z ∧ z ≤ 30 := by
      simp only [List.mem_cons, List.not_mem_nil, or_false] at hx3
      rcases hx3 with rfl | rfl | rfl <;> exact ⟨_, rfl, by decide, by decide⟩
    refine ⟨j, m0, rfl, j3, m00, m30, fun H4 t4 pc pg rs cs gs c4 j4 ht4 hpc hk4 hp4 hpg hg4 gne glen g9 ck => ?_⟩
    have npc : pc ≠ j := j3.ne hpc
    have npg : pg ≠ j := j3.ne hpg
    have hl4 := c4 _ _ hl3 npl
    have c04 := c03.trans c4
    refine ⟨t4, _, rfl, .inl (.inl ht4), rfl, _, _, rfl, _, _, rfl, rfl, ?_⟩
    dsimp only
    unfold tSeq tPar tCons tCB
    dsimp only
    refine lcMk (ls := lcs) cS (fun c q => ∃ g : Int, q = (cS c, V.int g) ∧ 0 ≤ g ∧ g ≤ 999) (fun l H' => pl = l ∧ H4 = H') (fun R hR => ⟨_, rfl, hR pl H4 ⟨rfl, rfl⟩⟩) (by omega) (fun l2 H' pre => ⟨lcs.map cS, .inl (.inl (by rw [← pre.1, ← pre.2]; exact hl4))⟩) (fun l2 H' D pre hD => ?_)
    obtain ⟨rfl, rfl⟩ := pre
    have nD : D ≠ j := j4.ne hD
    refine ⟨fun H' => Chg j H4 H' ∧ JugAt H' j, ⟨Chg.refl _ _, j4⟩, fun H' o h => ⟨chg_new h.1 hD, jug_upd nD h.2⟩, fun H' h => .inl (.inl (h.1 _ _ hl4 npl)), fun c H' acc R hp iv hk hR => ?_, fun H5 bs qs iv hk hq hg => ?_⟩
    · refine ⟨rfl, _, rfl, _, rfl, _, rfl, j, pg, _, rfl, iv.2, npg, .inl (.inl (iv.1 _ _ hg4 npg)), by simpa using gne, by rw [List.length_map]; omega, fun H6 x6 c6 j6 hx6 => ?_⟩
      obtain ⟨z, rfl, hz⟩ := ints_mem hx6
      refine ⟨by show 2 ≤ sizeLine; exact sl_le (by decide), fun b hb => ?_⟩
      have s7 := same_new (o := .tup [cS c, V.int z]) hb
      exact hR b (cS c, V.int z) _ ⟨(iv.1.trans c6).trans (Chg.of s7), j6.same s7⟩ ((chg_imm c6 iv.2).trans (.of s7)) (s7 _ _ (c6 _ _ hk nD)) ⟨z, rfl, (g9 z hz).1, (g9 z hz).2⟩ (.inl (.inl upd_same))
    obtain ⟨ns, rfl, hfst, hpl9⟩ := names_of hg
    have lns : ns.length = lcs.length := by rw [← hfst, List.length_map]
    have ok : NOk ns := ⟨by omega, by omega, fun p hp => rng _ (hfst ▸ List.mem_map_of_mem hp), hpl9, by rw [hfst]; exact asc⟩
    refine ⟨D, _, rfl, .inl (.inl hk), fun n o hn ho => ?_⟩
    have s6 : Same H5 (upd H5 n (.frz o (.tup (bs.map V.ref)))) := same_new hn
    have tn6 : TP K (upd H5 n (.frz o (.tup (bs.map V.ref)))) (.ref n) (ns.map nV) := ⟨n, bs, rfl, PT.new ho, Paired.imm (.of s6) hq⟩
    generalize upd H5 n (.frz o (.tup (bs.map V.ref))) = H6 at s6 tn6 ⊢
    have k6 := s6 _ _ (iv.1 _ _ hk4 npc)
    refine ⟨_, rfl, pc, _, rfl, .inl (.inl k6), fun n2 o2 hn2 ho2 => ⟨_, _, rfl, ?_⟩⟩
    have s7 : Same H6 (upd H6 n2 (.frz o2 (.tup (rs.map V.ref)))) := same_new hn2
    have s57 := s6.trans s7
    have RH7 : RS K H (upd H6 n2 (.frz o2 (.tup (rs.map V.ref)))) j (.ref n) (.ref n2) pg ns cs gs :=
      ⟨(c04.trans iv.1).trans (Chg.of s57), iv.2.same s57, TP.imm (.of s7) tn6, ⟨n2, rs, rfl, PT.new ho2, Paired.imm ((chg_imm iv.1 j4).trans (.of s57)) hp4⟩, s57 _ _ (iv.1 _ _ hg4 npg), npg⟩
    generalize upd H6 n2 (.frz o2 (.tup (rs.map V.ref))) = H7 at RH7 ⊢
    clear s7 s57 k6 tn6 s6 hq hk hl2 hl3 hl4 c02 c03 c04 c1 c2 c3 c4 j1 j2 j3 hk4 hp4 hg4 ht4 iv hg
    refine ⟨_, rfl, _, rfl, fun x1 dx1 hx1 hdx1 hne1 => ?_⟩
    have q1 := same_raw (C := C) hx1 hdx1 hne1
    refine ⟨x1, dx1, .ref n, .ref n2, ns, cs, rfl, upd_same, (RH7.same q1).tn, (RH7.same q1).tc, ok, ck, fun H8 st8 cg8 => ⟨rfl, ?_⟩⟩
    have RH8 := RH7.same (same_mk hx1 hdx1 hne1 cg8)
    refine ⟨_, rfl, _, rfl, rfl, fun x2 dx2 hx2 hdx2 hne2 => ?_⟩
    have q2 := same_raw (C := C) hx2 hdx2 hne2
    refine ⟨x2, dx2, .ref n, .ref n2, ns, cs, rfl, upd_same, (RH8.same q2).tn, (RH8.same q2).tc, ok, ck, fun H9 st9 cg9 => ⟨rfl, _, _, rfl, ?_⟩⟩
    have s9 := same_mk hx2 hdx2 hne2 cg9
    have RH9 := RH8.same s9
    have A9 := St.same s9 st8
    refine ⟨_, rfl, _, rfl, _, rfl, x1, .ref n, .ref n2, ns, cs, rfl, A9, RH9.tn, RH9.tc, fun H10 s10 => ⟨_, rfl, iteF ?_⟩⟩
    have RH10 := RH9.same s10
    have A10 := St.same s10 A9
    have B10 := St.same s10 st9
    refine ⟨_, rfl, _, rfl, _, rfl, x2, .ref n, .ref n2, ns, cs, rfl, B10, RH10.tn, RH10.tc, fun H11 s11 => ⟨_, rfl, iteF ?_⟩⟩
    have RH11 := RH10.same s11
    have A11 := St.same s11 A10
    have B11 := St.same s11 B10
    refine ⟨_, rfl, _, rfl, .ref n, .ref n2, ns, cs, rfl, RH11.tn, RH11.tc, ok, ck, fun H12 s12 => ⟨ns, cs, rfl, ok, ck, fun H13 x3 s13 hx3 C13 => ?_⟩⟩
    have s13' := s12.trans s13
    have RH13 := RH11.same s13'
    have A13 := St.same s13' A11
    have B13 := St.same s13' B11
    refine ⟨_, rfl, _, rfl, _, rfl, x3, .ref n, .ref n2, ns, cs, rfl, C13, RH13.tn, RH13.tc, fun H14 s14 => ⟨_, rfl, iteF ?_⟩⟩
    have RH14 := RH13.same s14
    have A14 := St.same s14 A13
    have B14 := St.same s14 B13
    have C14 := St.same s14 C13
    obtain ⟨dxa, fsa, oba, txa⟩ := St.get A14
    refine ⟨_, rfl, x1, C, dxa, fsa, _, rfl, oba, T.cl, T.n_text, txa, rfl, ns, cs, rfl, ok, ck, fun H15 x4 s15 hx4 D15 => ?_⟩
    have RH15 := RH14.same s15
    refine ⟨_, rfl, _, rfl, x4, .ref n, .ref n2, ns, cs, rfl, D15, RH15.tn, RH15.tc, fun H16 s16 => ⟨_, rfl, iteF ?_⟩⟩
    have s46 := s15.trans s16
    have RH16 := RH15.same s16
    have A16 := St.same s46 A14
    have B16 := St.same s46 B14
    have C16 := St.same s46 C14
    have oa := s46 _ _ oba
    obtain ⟨dxb, fsb, ob, _⟩ := St.get B16
    obtain ⟨dxc, fsc, oc, _⟩ := St.get C16
    have et := dec_same ns cs
    refine ⟨_, rfl, _, rfl, x1, dxa, fsa, rfl, oa, .ins ob, x1, .ref x2, ns, cs, rfl, A16, .inl ⟨x2, ns, cs, rfl, B16, true, congrArg V.bl et, ?_⟩⟩
    refine ⟨_, rfl, _, rfl, x1, dxa, fsa, rfl, oa, .ins ob, x1, .ref x2, ns, cs, rfl, A16, .inl ⟨x2, ns, cs, rfl, B16, true, congrArg V.bl et, ?_⟩⟩
    refine ⟨_, rfl, _, rfl, x1, dxa, fsa, rfl, oa, .ins oc, x1, .ref x3, ns, cs, rfl, A16, .inl ⟨x3, ns, cs, rfl, C16, true, congrArg V.bl et, ?_⟩⟩
    refine ⟨_, rfl, _, rfl, x3, dxc, fsc, rfl, oc, .ins oa, x3, .ref x1, ns, cs, rfl, C16, .inl ⟨x1, ns, cs, rfl, A16, true, congrArg V.bl et, ?_⟩⟩
    refine ⟨by show 4 ≤ sizeLine; exact sl_le (by decide), fun p1 hp1 => ?_⟩
    obtain ⟨r1, r2, r3, r4, r5⟩ := repr_bls (K := K) [true, false, true, false] (upd_same (H := H16) (a := p1) (o := .lst [V.bl true, V.bl false, V.bl true, V.bl false])) (by decide)
    refine ⟨p1, _, rfl, r1, r2, r3, r4, r5, ?_⟩
    have s17 := same_new (o := .lst [V.bl (id true), V.bl (!true), V.bl (id true), V.bl (!true)]) hp1
    refine ⟨by show 4 ≤ sizeLine; exact sl_le (by decide), fun p2 hp2 => ?_⟩
    obtain ⟨r1, r2, r3, r4, r5⟩ := repr_bls (K := K) [true, false, true, false] (upd_same (H := upd H16 p1 (.lst [V.bl true, V.bl false, V.bl true, V.bl false])) (a := p2) (o := .lst [V.bl true, V.bl false, V.bl true, V.bl false])) (by decide)
    refine ⟨p2, _, rfl, r1, r2, r3, r4, r5, rfl, false, bl_ne _, iteF ?_⟩
    have s18 := s17.trans (same_new (o := .lst [V.bl true, V.bl false, V.bl true, V.bl false]) hp2)
    have RH18 := RH16.same s18
    have A18 := St.same s18 A16
    generalize upd (upd H16 p1 _) p2 _ = H18 at RH18 A18 ⊢
    clear s18 s17
    refine ⟨_, rfl, _, rfl, _, rfl, _, rfl, j, .ref n, .ref n2, pg, ns, cs, gs, rfl, RH18.jug, npg, RH18.g, gne, glen, g9, RH18.tn, RH18.tc, ok, ck, fun H19 t v' u' ns' cs' c19 j19 sq tn' tc' ok' ck' => ?_⟩
    have RH19 := RH18.cj c19 j19
    have A19 := St.cj c19 RH18.jug A18
    refine ⟨t, _, rfl, sq, rfl, _, _, rfl, _, _, rfl, rfl, ?_⟩
    refine ⟨_, rfl, _, rfl, fun x5 dx5 hx5 hdx5 hne5 => ?_⟩
    have q5 := same_raw (C := C) hx5 hdx5 hne5
    refine ⟨x5, dx5, v', u', ns', cs', rfl, upd_same, TP.imm (.of q5) tn', TP.imm (.of q5) tc', ok', ck', fun H20 E20 cg20 => ⟨rfl, ?_⟩⟩
    have s20 := same_mk hx5 hdx5 hne5 cg20
    have RH20 := RH19.same s20
    have A20 := St.same s20 A19
    have tn20 := TP.imm (.of s20) tn'
    have tc20 := TP.imm (.of s20) tc'
    refine ⟨_, rfl, _, rfl, by show 2 ≤ sizeLine; exact sl_le (by decide), fun t5 ht5 => ?_⟩
    have s21 := same_new (o := .tup [v', u']) ht5
    have e21 : upd H20 t5 (.tup [v', u']) t5 = some (.tup [v', u']) := upd_same
    generalize upd H20 t5 (.tup [v', u']) = H21 at s21 e21 ⊢
    refine ⟨_, rfl, _, rfl, by show 2 ≤ sizeLine; exact sl_le (by decide), fun t6 ht6 => ?_⟩
    have s22 := same_new (o := .tup [V.ref n, V.ref n2]) ht6
    have e22 : upd H21 t6 (.tup [V.ref n, V.ref n2]) t6 = some (.tup [V.ref n, V.ref n2]) := upd_same
    generalize upd H21 t6 (.tup [V.ref n, V.ref n2]) = H22 at s22 e22 ⊢
    have s02 := s21.trans s22
    have RH22 := RH20.same s02
    have A22 := St.same s02 A20
    have E22 := St.same s02 E20
    refine ⟨two ns' cs', two ns cs, dp_two (s22 _ _ e21) (TP.imm (.of s02) tn20) (TP.imm (.of s02) tc20), dp_two e22 RH22.tn RH22.tc, shape_two ok' ck', shape_two ok ck, ?_⟩
    rw [eqv_two]
    refine ⟨_, _, rfl, ?_⟩
    obtain ⟨dxa, fsa, oa, txa⟩ := St.get A22
    obtain ⟨dxe, fse, oe, _⟩ := St.get E22
    refine ⟨_, rfl, _, rfl, x1, dxa, fsa, rfl, oa, .ins oe, x1, .ref x5, ns, cs, rfl, A22, .inl ⟨x5, ns', cs', rfl, E22, _, rfl, ?_⟩⟩
    refine ⟨_, rfl, _, rfl, x5, dxe, fse, rfl, oe, .ins oa, x5, .ref x1, ns', cs', rfl, E22, .inl ⟨x1, ns, cs, rfl, A22, _, congrArg V.bl (dec_sym ns ns' cs cs'), ?_⟩⟩
    generalize decide (ns = ns' ∧ cs = cs') = w
    refine ⟨by show 2 ≤ sizeLine; exact sl_le (by decide), fun p3 hp3 => ?_⟩
    obtain ⟨r1, r2, r3, r4, r5⟩ := repr_bls (K := K) [w, !w] (upd_same (H := H22) (a := p3) (o := .lst [V.bl w, V.bl (!w)])) (by show 2 ≤ 100; decide)
    refine ⟨p3, _, rfl, r1, r2, r3, r4, r5, ?_⟩
    have s23 := same_new (o := .lst [V.bl (id w), V.bl (!w)]) hp3
    refine ⟨_, rfl, _, rfl, w, rfl, by show 2 ≤ sizeLine; exact sl_le (by decide), fun p4 hp4 => ?_⟩
    obtain ⟨r1, r2, r3, r4, r5⟩ := repr_bls (K := K) [w, !w] (upd_same (H := upd H22 p3 (.lst [V.bl w, V.bl (!w)])) (a := p4) (o := .lst [V.bl w, V.bl (!w)])) (by show 2 ≤ 100; decide)
    refine ⟨p4, _, rfl, r1, r2, r3, r4, r5, rfl, false, bl_ne _, iteF ?_⟩
    have s24 := s23.trans (same_new (o := .lst [V.bl w, V.bl (!w)]) hp4)
    have RH24 := RH22.same s24
    have A24 := St.same s24 A22
    have oa := s24 _ _ oa
    generalize upd (upd H22 p3 _) p4 _ = H24 at RH24 A24 oa ⊢
    clear s24 s23
    refine ⟨_, rfl, _, rfl, x1, C, dxa, fsa, _, rfl, oa, T.cl, T.n_text, txa, x1, dxa, fsa, rfl, oa, .str _ T.f_str, x1, .str _, ns, cs, rfl, A24, .inr ⟨.inl ⟨_, rfl⟩, false, rfl, ?_⟩⟩
    refine ⟨_, rfl, _, rfl, x1, C, dxa, fsa, _, rfl, oa, T.cl, T.n_text, txa, x1, dxa, fsa, rfl, oa, .str _ T.f_str, x1, .str _, ns, cs, rfl, A24, .inr ⟨.inl ⟨_, rfl⟩, false, rfl, ?_⟩⟩
    refine ⟨_, rfl, x1, dxa, fsa, rfl, oa, .int _ T.f_int, x1, .int 5, ns, cs, rfl, A24, .inr ⟨.inr (.inl ⟨_, rfl⟩), false, rfl, ?_⟩⟩
    refine ⟨_, rfl, _, rfl, _, rfl, by show 2 ≤ sizeLine; exact sl_le (by decide), fun t7 ht7 => ?_⟩
    have s25 := same_new (o := .tup [V.ref n, V.ref n2]) ht7
    have e25 : SqT K (upd H24 t7 (.tup [V.ref n, V.ref n2])) t7 [V.ref n, V.ref n2] := .inl (.inl upd_same)
    generalize upd H24 t7 (.tup [V.ref n, V.ref n2]) = H25 at s25 e25 ⊢
    have RH25 := RH24.same s25
    have A25 := St.same s25 A24
    refine ⟨x1, dxa, fsa, rfl, s25 _ _ oa, .tup e25 T.f_tup, x1, .ref t7, ns, cs, rfl, A25, .inr ⟨.inr (.inr ⟨t7, _, rfl, e25⟩), false, rfl, ?_⟩⟩
    refine ⟨by show 4 ≤ sizeLine; exact sl_le (by decide), fun p5 hp5 => ?_⟩
    obtain ⟨r1, r2, r3, r4, r5⟩ := repr_bls (K := K) [false, true, false, false] (upd_same (H := H25) (a := p5) (o := .lst [V.bl false, V.bl true, V.bl false, V.bl false])) (by decide)
    refine ⟨p5, _, rfl, r1, r2, r3, r4, r5, ?_⟩
    have s26 := same_new (o := .lst [V.bl (id false), V.bl (!false), V.bl (id false), V.bl (id false)]) hp5
    refine ⟨by show 4 ≤ sizeLine; exact sl_le (by decide), fun p6 hp6 => ?_⟩
    obtain ⟨r1, r2, r3, r4, r5⟩ := repr_bls (K := K) [false, true, false, false] (upd_same (H := upd H25 p5 (.lst [V.bl false, V.bl true, V.bl false, V.bl false])) (a := p6) (o := .lst [V.bl false, V.bl true, V.bl false, V.bl false])) (by decide)
    refine ⟨p6, _, rfl, r1, r2, r3, r4, r5, rfl, false, bl_ne _, iteF ?_⟩
    have s27 := s26.trans (same_new (o := .lst [V.bl false, V.bl true, V.bl false, V.bl false]) hp6)
    have RH27 := RH25.same s27
    have A27 := St.same s27 A25
    generalize upd (upd H25 p5 _) p6 _ = H27 at RH27 A27 ⊢
    clear s27 s26
    obtain ⟨gl, hgl, hat⟩ := at_end gne
    obtain ⟨gl0, gl9⟩ := g9 gl hgl
    obtain ⟨z, hz0, hz9, hz⟩ : ∃ z : Int, 0 ≤ z ∧ z ≤ 999 ∧ z = (if (3 : Int) < gl then gl - 3 else 0) := ⟨_, by split <;> omega, by split <;> omega, rfl⟩
    refine ⟨_, rfl, _, rfl, _, rfl, pg, _, _, _, rfl, rfl, .inl (.inl RH27.g), hat, _, _, rfl, rfl, _, rfl, ?_⟩
    have fin : ∀ (lp : Addr) (H28 : Hp), Same H27 H28 → H28 lp = some (.lst ((gs ++ [999, 1, z, 500]).map V.int)) → RS K H H28 j (.ref n) (.ref n2) pg ns cs gs ∧ St K C H28 x1 ns cs ∧ (∀ i ∈ gs ++ [999, 1, z, 500], 0 ≤ i ∧ i ≤ 999) := fun lp H28 s28 e28 => ⟨RH27.same s28, St.same s28 A27, fun i hi => by
      rcases List.mem_append.mp hi with q | q
      · exact g9 i q
      · simp only [List.mem_cons, List.not_mem_nil, or_false] at q
        rcases q with rfl | rfl | rfl | rfl <;> omega⟩
    have gz : gs.map V.int ++ [V.int 999, V.int 1, V.int z, V.int 500] = (gs ++ [999, 1, z, 500]).map V.int := by simp
    by_cases hg3 : 3 < gl
    · rw [decide_eq_true hg3]
      rw [if_pos hg3] at hz
      subst hz
      refine iteT ⟨_, rfl, _, rfl, pg, _, _, _, rfl, rfl, .inl (.inl RH27.g), hat, _, _, rfl, rfl, ?_⟩
      refine ⟨by show 4 ≤ sizeLine; exact sl_le (by decide), fun l1 hl1 => ⟨pg, l1, _, _, rfl, rfl, same_new hl1 _ _ RH27.g, upd_same, by rw [List.length_map]; exact sl_le (by show gs.length + 4 ≤ _; omega), fun lp hlp => ?_⟩⟩
      rw [gz]
      have e28 := upd_same (H := upd H27 l1 (.lst [V.int 999, V.int 1, V.int (gl - 3), V.int 500])) (a := lp) (o := .lst ((gs ++ [999, 1, gl - 3, 500]).map V.int))
      obtain ⟨RH28, A28, h9⟩ := fin lp _ ((same_new (o := .lst [V.int 999, V.int 1, V.int (gl - 3), V.int 500]) hl1).trans (same_new (o := .lst ((gs ++ [999, 1, gl - 3, 500]).map V.int)) hlp)) e28
      generalize upd (upd H27 l1 (.lst [V.int 999, V.int 1, V.int (gl - 3), V.int 500])) lp (.lst ((gs ++ [999, 1, gl - 3, 500]).map V.int)) = H28 at RH28 A28 e28 ⊢
      refine ⟨_, rfl, _, rfl, _, rfl, _, rfl, x1, .ref n, .ref n2, lp, ns, cs, _, rfl, A28, RH28.tn, RH28.tc, e28, by simp, h9, fun H29 s29 => ⟨true, rfl, iteT ?_⟩⟩
      have RH29 := RH28.same s29
      exact ⟨_, rfl, _, rfl, _, rfl, x1, .ref n, .ref n2, ns, cs, rfl, St.same s29 A28, RH29.tn, RH29.tc, fun H30 s30 => k H30 (RH29.same s30).chg⟩
    · rw [decide_eq_false hg3]
      rw [if_neg hg3] at hz
      subst hz
      refine iteF ?_
      refine ⟨by show 4 ≤ sizeLine; exact sl_le (by decide), fun l1 hl1 => ⟨pg, l1, _, _, rfl, rfl, same_new hl1 _ _ RH27.g, upd_same, by rw [List.length_map]; exact sl_le (by show gs.length + 4 ≤ _; omega), fun lp hlp => ?_⟩⟩
      rw [gz]
      have e28 := upd_same (H := upd H27 l1 (.lst [V.int 999, V.int 1, V.int 0, V.int 500])) (a := lp) (o := .lst ((gs ++ [999, 1, 0, 500]).map V.int))
      obtain ⟨RH28, A28, h9⟩ := fin lp _ ((same_new (o := .lst [V.int 999, V.int 1, V.int 0, V.int 500]) hl1).trans (same_new (o := .lst ((gs ++ [999, 1, 0, 500]).map V.int)) hlp)) e28
      generalize upd (upd H27 l1 (.lst [V.int 999, V.int 1, V.int 0, V.int 500])) lp (.lst ((gs ++ [999, 1, 0, 500]).map V.int)) = H28 at RH28 A28 e28 ⊢
      refine ⟨_, rfl, _, rfl, _, rfl, _, rfl, x1, .ref n, .ref n2, lp, ns, cs, _, rfl, A28, RH28.tn, RH28.tc, e28, by simp, h9, fun H29 s29 => ⟨true, rfl, iteT ?_⟩⟩
      have RH29 := RH28.same s29
      exact ⟨_, rfl, _, rfl, _, rfl, x1, .ref n, .ref n2, ns, cs, rfl, St.same s29 A28, RH29.tn, RH29.tc, fun H30 s30 => k H30 (RH29.same s30).chg⟩
end
end K1
namespace K1
open PySem PySem.Spec L2 Z
section
variable {P : Program} {w : World} {K : PySem.W.Frag} {mg : Str → Option Value} {base : Heap} {C : Addr}
theorem ok_law_jug (T : Txt K mg C)  : Pr P w K mg base "_law_jug" s_law_jug 1 ["_law_script", "_law_turn"] (sp_law_jug K) := by
  obtain ⟨f, fd, F, gl, bd⟩ := T.d__law_jug
  refine ⟨f, fd, F, gl, bd, F.ok sc_law_jug (fun vs H Q E h => ?_) (fun cdv A outer s H vs Q E hr h => ?_)⟩
  · obtain ⟨a, ns, t, rfl, _⟩ := h
    rfl
  · obtain ⟨a, ns, t, rfl, hs, h1, h2, hz, k⟩ := h
    have hu := hu_of hr
    refine ⟨_, (pss_cons (ps_set (i := 2) sc_law_jug.nd rfl (Or.inl rfl) (pe_op op_add pe_int (pe_op op_mul pe_int (pv 1))))
      (pss_cons (ps_for PassesOwn.never rfl (pi_list (pe_slice sl_list (pv 0) po_none (po_some pe_int))) (pg_name (i := 3) sc_law_jug.nd rfl (Or.inl rfl))
      (pss_one (ps_set (i := 2) sc_law_jug.nd rfl (Or.inl rfl) (pe_op op_modN (pe_callTy call_int1 (by rfl) T.b_int (by decide +kernel) (pa_cons (pe_op op_add (pe_op op_add (pe_op op_mul (pv 2) pe_int) (pe_op op_mul (pe_op op_modN (pe_callTy call_int1 (by rfl) T.b_int (by decide +kernel) (pa_cons (pv 3) pa_nil)) pe_int) pe_int)) pe_int) pa_nil)) pe_int))))
      (pss_cons (ps_set (i := 4) sc_law_jug.nd rfl (Or.inl rfl) (pe_ifExp (pt_cmpR op_lt (pv 1) (pe_callB call_len_seq (by rfl) T.b_len (by decide +kernel) (pa_cons (pv 0) pa_nil)) (nomark _)) (pe_callTy call_int1 (by rfl) T.b_int (by decide +kernel) (pa_cons (pe_ix ix_list (pv 0) (pv 1) (fun _ _ => rfl)) pa_nil)) (pv 2)))
      (pss_cons (ps_set (i := 5) sc_law_jug.nd rfl (Or.inl rfl) (pe_ifExp (pt_cmpR op_ge (pe_callB call_abs (by rfl) T.b_abs (by decide +kernel) (pa_cons (pv 4) pa_nil)) (pe_op op_pow pe_int pe_int) (nomark _)) (pe_callB call_abs (by rfl) T.b_abs (by decide +kernel) (pa_cons (pv 4) pa_nil)) pe_int))
      (pss_one (ps_ret (pe_lst (pa_cons (pv 5) (pa_cons (pe_op op_modN (pe_callTy call_int1 (by rfl) T.b_int (by decide +kernel) (pa_cons (pe_op op_add (pe_op op_add (pe_op op_mul (pv 2) pe_int) (pe_op op_mul (pe_op op_modN (pe_callTy call_int1 (by rfl) T.b_int (by decide +kernel) (pa_cons (pv 4) pa_nil)) pe_int) pe_int)) pe_int) pa_nil)) pe_int) (pa_cons pe_int pa_nil)))))))))), ?_⟩
    refine ⟨_, rfl, _, _, rfl, rfl, .inl ⟨by decide, by decide⟩, _, _, rfl, rfl, ?_⟩
    refine ⟨_, rfl, _, rfl, a, _, rfl, hs, fun l hl => ?_⟩
    have s1 : Same H (upd H l (.lst (cutV (ns.map V.int) none (some 8)))) := same_new hl
    have l1 : upd H l (.lst (cutV (ns.map V.int) none (some 8))) l = some (.lst (cutV (ns.map V.int) none (some 8))) := upd_same
    generalize upd H l (.lst (cutV (ns.map V.int) none (some 8))) = H1 at s1 l1 ⊢
    refine ⟨l, rfl, ⟨_, .inl (.inl l1)⟩, ?_⟩
    refine for_list (xs := cutV (ns.map V.int) none (some 8)) (fun i σ H' => H' = H1 ∧ ∃ sd : Int, ∃ x, σ = [some (.ref a), some (.int t), some (.int sd), x, none, none] ∧ -(2 ^ 64) < sd ∧ sd < 2 ^ 64) ⟨rfl, _, _, rfl, by omega, by omega⟩ (fun i σ H' _ h => .inl (.inl (by rw [h.1]; exact l1))) ?_ ?_
    · rintro i x σ H' hx ⟨rfl, sd, x0, rfl, b1, b2⟩
      obtain ⟨z, hz, rfl⟩ := List.mem_map.mp (cut_mem (List.mem_of_getElem? hx))
      refine ⟨_, rfl, _, _, rfl, rfl, .inr ⟨by decide, by decide⟩, _, rfl, .inl ⟨_, rfl, _, _, rfl, rfl, nz1, _, _, rfl, rfl, .inr ⟨by decide, by decide⟩, _, _, rfl, rfl, _, _, rfl, rfl, .inl ⟨_, rfl, _, _, rfl, rfl, nz1, rfl, _, _, rfl, ?_, ?_⟩⟩⟩
      · exact Int.lt_of_lt_of_le (by decide) (fm_range (by decide)).1
      · exact Int.lt_trans (fm_range (by decide)).2 (by decide)
    rintro σ H' ⟨rfl, sd, x0, rfl, b1, b2⟩
    by_cases ht : t < (ns.length : Int)
    · obtain ⟨y, hy, hat⟩ := at_of (xs := ns.map V.int) h1 (by rw [List.length_map]; exact ht)
      obtain ⟨cell, _, rfl⟩ := List.mem_map.mp hy
      refine ⟨_, rfl, _, rfl, a, _, rfl, .inl (SqL_same s1 hs), _, _, rfl, rfl, true, congrArg V.bl (decide_eq_true (by rw [List.length_map]; exact ht)), iteT ?_⟩
      refine ⟨_, rfl, _, rfl, a, _, t, _, rfl, rfl, SqL_same s1 hs, hat, .inl ⟨_, rfl, ?_⟩⟩
      by_cases hg : (10 : Int) ^ 18 ≤ (if cell < 0 then -cell else cell)
      · refine ⟨_, rfl, _, rfl, _, _, rfl, rfl, ⟨by decide, by decide, by decide⟩, _, _, rfl, rfl, true, congrArg V.bl (decide_eq_true hg), iteT ⟨_, rfl, _, rfl, ?_⟩⟩
        refine ⟨_, rfl, _, rfl, _, _, rfl, rfl, .inr ⟨by decide, by decide⟩, _, rfl, .inl ⟨_, rfl, _, _, rfl, rfl, nz1, _, _, rfl, rfl, .inr ⟨by decide, by decide⟩, _, _, rfl, rfl, _, _, rfl, rfl, .inl ⟨_, rfl, _, _, rfl, rfl, nz2, by show 3 ≤ sizeLine; exact sl_le (by decide), fun q hq => ?_⟩⟩⟩
        refine k _ q (s1.trans (same_new hq)) (none_of s1 hq) ⟨_, _, _, upd_same, ?_, ?_⟩
        · exact Int.lt_of_lt_of_le (by decide) (fm_range (by decide)).1
        · exact Int.lt_trans (fm_range (by decide)).2 (by decide)
      · refine ⟨_, rfl, _, rfl, _, _, rfl, rfl, ⟨by decide, by decide, by decide⟩, _, _, rfl, rfl, false, congrArg V.bl (decide_eq_false hg), iteF ?_⟩
        refine ⟨_, rfl, _, rfl, _, _, rfl, rfl, .inr ⟨by decide, by decide⟩, _, rfl, .inl ⟨_, rfl, _, _, rfl, rfl, nz1, _, _, rfl, rfl, .inr ⟨by decide, by decide⟩, _, _, rfl, rfl, _, _, rfl, rfl, .inl ⟨_, rfl, _, _, rfl, rfl, nz2, by show 3 ≤ sizeLine; exact sl_le (by decide), fun q hq => ?_⟩⟩⟩
        refine k _ q (s1.trans (same_new hq)) (none_of s1 hq) ⟨_, _, _, upd_same, ?_, ?_⟩
        · exact Int.lt_of_lt_of_le (by decide) (fm_range (by decide)).1
        · exact Int.lt_trans (fm_range (by decide)).2 (by decide)
    · refine ⟨_, rfl, _, rfl, a, _, rfl, .inl (SqL_same s1 hs), _, _, rfl, rfl, false, congrArg V.bl (decide_eq_false (by rw [List.length_map]; exact ht)), iteF ⟨_, rfl, ?_⟩⟩
      by_cases hg : (10 : Int) ^ 18 ≤ (if sd < 0 then -sd else sd)
      · refine ⟨_, rfl, _, rfl, _, _, rfl, rfl, ⟨by decide, by decide, by decide⟩, _, _, rfl, rfl, true, congrArg V.bl (decide_eq_true hg), iteT ⟨_, rfl, _, rfl, ?_⟩⟩
        refine ⟨_, rfl, _, rfl, _, _, rfl, rfl, .inr ⟨by decide, by decide⟩, _, rfl, .inl ⟨_, rfl, _, _, rfl, rfl, nz1, _, _, rfl, rfl, .inr ⟨by decide, by decide⟩, _, _, rfl, rfl, _, _, rfl, rfl, .inl ⟨_, rfl, _, _, rfl, rfl, nz2, by show 3 ≤ sizeLine; exact sl_le (by decide), fun q hq => ?_⟩⟩⟩
        refine k _ q (s1.trans (same_new hq)) (none_of s1 hq) ⟨_, _, _, upd_same, ?_, ?_⟩
        · exact Int.lt_of_lt_of_le (by decide) (fm_range (by decide)).1
        · exact Int.lt_trans (fm_range (by decide)).2 (by decide)
      · refine ⟨_, rfl, _, rfl, _, _, rfl, rfl, ⟨by decide, by decide, by decide⟩, _, _, rfl, rfl, false, congrArg V.bl (decide_eq_false hg), iteF ?_⟩
        refine ⟨_, rfl, _, rfl, _, _, rfl, rfl, .inr ⟨by decide, by decide⟩, _, rfl, .inl ⟨_, rfl, _, _, rfl, rfl, nz1, _, _, rfl, rfl, .inr ⟨by decide, by decide⟩, _, _, rfl, rfl, _, _, rfl, rfl, .inl ⟨_, rfl, _, _, rfl, rfl, nz2, by show 3 ≤ sizeLine; exact sl_le (by decide), fun q hq => ?_⟩⟩⟩
        refine k _ q (s1.trans (same_new hq)) (none_of s1 hq) ⟨_, _, _, upd_same, ?_, ?_⟩
        · exact Int.lt_of_lt_of_le (by decide) (fm_range (by decide)).1
        · exact Int.lt_trans (fm_range (by decide)).2 (by decide)
end
end K1
namespace K1
open PySem PySem.Spec L2 Z
section
variable {P : Program} {w : World} {K : PySem.W.Frag} {mg : Str → Option Value} {base : Heap} {C : Addr}
theorem ok_law (T : Txt K mg C) (G__law_right : PrG P w K mg base "_law_right" s_law_right 9 ["_law_jug_here"] (sp_law_right)) (G__law_jug : Pr P w K mg base "_law_jug" s_law_jug 1 ["_law_script", "_law_turn"] (sp_law_jug K)) : PrG P w K mg base "law" s_law 10 ["_law_script"] (sp_law K) := by
  obtain ⟨f, fd, F, gl, bd⟩ := T.d_law
  refine ⟨f, fd, F, gl, bd, okG F sc_law (fun vs H Q E h => ?_) (fun cdv A outer s H vs Q E hr hgd h => ?_)⟩
  · obtain ⟨a, ns, rfl, _⟩ := h
    rfl
  · obtain ⟨a, ns, rfl, hs, hz, k⟩ := h
    have hu := hu_of hr
    refine ⟨_, (pss_one (ps_ret (pe_callB (cr_all rfl) (by rfl) T.b_all (by decide +kernel) (pa_cons (pe_lc (own := [("_law_turn", 1)]) (g := gName 1) (tt := tYes) rfl sc_law.nd (pi_range1 rfl T.b_range (pa_cons (pe_callB (call_max2 rfl) (by rfl) T.b_max (by decide +kernel) (pa_cons pe_int (pa_cons (pe_callB (call_min2 rfl) (by rfl) T.b_min (by decide +kernel) (pa_cons (pe_callB call_len_seq (by rfl) T.b_len (by decide +kernel) (pa_cons (pv 0) pa_nil)) (pa_cons pe_int pa_nil))) pa_nil))) pa_nil)) (blkOk_by (own := [("_law_turn", 1)]) (N := N_law) (sc := defScope s_law) (by decide +kernel)) (fun _ _ _ _ _ => (pg_name (i := 1) sc_law.nd rfl (Or.inl rfl))) (fun _ _ _ _ _ => pts_nil) (fun _ _ _ _ _ => (pcallG G__law_right (hr.mono (by decide)) hgd (pa_cons (pcall G__law_jug (hr.mono (by decide)) (pa_cons (pv 0) (pa_cons (pv 1) pa_nil))) pa_nil)))) pa_nil)))), ?_⟩
    obtain ⟨n, hn, hn2, hn3⟩ : ∃ n : Int, n = (if (if (3 : Int) < ((ns.map V.int).length : Int) then (3 : Int) else ((ns.map V.int).length : Int)) > 2 then (if (3 : Int) < ((ns.map V.int).length : Int) then (3 : Int) else ((ns.map V.int).length : Int)) else 2) ∧ 2 ≤ n ∧ n ≤ 3 := ⟨_, rfl, by split <;> omega, by split <;> split <;> omega⟩
    refine ⟨_, rfl, a, _, rfl, .inl hs, _, _, rfl, _, _, rfl, ?_⟩
    refine ⟨n, congrArg (fun z => [V.int z]) hn.symm, by omega, by omega, fun D hD => ?_⟩
    have key : a ≠ D ∨ ∀ H', SqL K H' a (ns.map V.int) := by
      rcases hs with (q | ⟨o, q⟩) | q
      · exact .inl (ne_of_none q hD)
      · exact .inl (ne_of_none q hD)
      · exact .inr fun _ => .inr q
    refine lc_it (n := n.toNat) (fun i H' => SqL K H' a (ns.map V.int) ∧ H' D = some (.lst ((List.replicate i true).map V.bl))) ⟨SqL_same (same_new hD) hs, upd_same⟩ (fun i H' hi _ => hi) (fun H' _ => Nat.le_refl _) (fun i y H' H2 hi h yl => ?_) (fun H' h => ?_)
    · obtain ⟨hs', hk⟩ := h
      obtain ⟨rfl, rfl⟩ := yl
      refine ⟨rfl, _, rfl, _, rfl, a, ns, _, rfl, hs', by omega, by omega, hz, fun H3 j s3 hj jug => ⟨j, rfl, jug, fun H4 c4 => ?_⟩⟩
      have nD : D ≠ j := ne_of_none hk hj
      have k4 := c4 _ _ (s3 _ _ hk) nD
      have q4 : SqL K H4 a (ns.map V.int) := by
        rcases hs' with (q | ⟨o, q⟩) | q
        · exact .inl (.inl (c4 _ _ (s3 _ _ q) (ne_of_none q hj)))
        · exact .inl (.inr ⟨o, c4 _ _ (s3 _ _ q) (ne_of_none q hj)⟩)
        · exact .inr q
      refine ⟨_, k4, by rw [List.length_map, List.length_replicate]; exact Nat.lt_of_lt_of_le (show i < 100 by omega) (sl_le (by decide)), ?_, by rw [upd_same, List.replicate_succ', List.map_append]; rfl⟩
      rcases key with nk | nk
      · exact SqL.chg Chg.upd nk q4
      · exact nk _
    obtain ⟨hs', hk⟩ := h
    refine ⟨D, List.replicate n.toNat true, rfl, .inl (.inl hk), ?_⟩
    have e : (List.replicate n.toNat true).all id = true := by
      rw [List.all_eq_true]
      intro b hb
      exact (List.mem_replicate.mp hb).2
    rw [e]
    exact k H'
end
end K1
/-! What the top has left, and the end. -/
namespace K1
open PySem PySem.Spec L2 Z
theorem kit_not {K : PySem.W.Frag} {C : Addr} {T : String} (icl : PySem.W.isClsIn K C = true) (tcl : PySem.W.typeIn K (.ref C) = some (.type "type")) (s : PySem.W.subIn K (.type T) (.ref C) = some false) : PySem.W.kitOne K (.type T) (.ref C) = some false := by
  have e1 : ((PySem.W.clsIn K C).isSome && PySem.W.typeIn K (.ref C) == some (.type "type")) = true := by
    rw [tcl]
    unfold PySem.W.isClsIn at icl
    rw [icl]
    rfl
  have e : PySem.W.kitCls K (.type T) (.ref C) = some false := (if_pos e1).trans s
  unfold PySem.W.kitOne
  rw [if_neg (by intro z; exact nomatch eq_of_beq z)]
  exact e
theorem kit_self {K : PySem.W.Frag} {C : Addr} : PySem.W.kitOne K (.ref C) (.ref C) = some true := by
  unfold PySem.W.kitOne
  rw [if_pos (beq_self_eq_true _)]
theorem all_mk {l : PySem.W.OpenLaw} {w : World} {K : PySem.W.Frag} {h : Heap} {mg : Str → Option Value} {fa C f0 f1 f2 f3 f4 f5 f6 f7 f8 f9 f10 f11 f12 f13 f14 f15 f16 f17 f18 f19 f20 f21 f22 f23 f24 f25 f26 f27 f28 f29 f30 : Addr} {t_LETTERS t_FIGURES t_END t_LAST_PLACE t_MOST_NAMES t_MOST_CELLS : Tok} (X : K.In h) (G : h.Ns mainGlobals mg) (hfa : mg "law" = some (.ref fa))
    {od0 an0 od1 an1 od2 an2 od3 an3 od4 an4 od5 an5 od6 an6 od7 an7 od8 an8 od9 an9 od10 an10 od11 an11 od12 an12 od13 an13 od14 an14 od15 an15 od16 an16 od17 an17 od18 an18 od19 an19 od20 an20 od21 an21 od22 an22 od23 an23 od24 an24 od25 an25 od26 an26 od27 an27 od28 an28 od29 an29 od30 an30 : Option Addr} {sl0 sl1 sl2 sl3 sl4 sl5 sl6 sl7 sl8 sl9 sl10 sl11 sl12 sl13 sl14 sl15 sl16 sl17 sl18 sl19 sl20 sl21 sl22 sl23 sl24 sl25 sl26 sl27 sl28 sl29 sl30 : Array (Option Value)} {oc0 kV0 dc0 pm0 cd0 ct0 oc1 kV1 dc1 pm1 cd1 ct1 oc2 kV2 dc2 pm2 cd2 ct2 oc3 kV3 dc3 pm3 cd3 ct3 oc4 kV4 dc4 pm4 cd4 ct4 oc5 kV5 dc5 pm5 cd5 ct5 oc6 kV6 dc6 pm6 cd6 ct6 oc7 kV7 dc7 pm7 cd7 ct7 oc8 kV8 dc8 pm8 cd8 ct8 oc9 kV9 dc9 pm9 cd9 ct9 oc10 kV10 dc10 pm10 cd10 ct10 oc11 kV11 dc11 pm11 cd11 ct11 oc12 kV12 dc12 pm12 cd12 ct12 oc13 kV13 dc13 pm13 cd13 ct13 oc14 kV14 dc14 pm14 cd14 ct14 oc15 kV15 dc15 pm15 cd15 ct15 oc16 kV16 dc16 pm16 cd16 ct16 oc17 kV17 dc17 pm17 cd17 ct17 oc18 kV18 dc18 pm18 cd18 ct18 oc19 kV19 dc19 pm19 cd19 ct19 oc20 kV20 dc20 pm20 cd20 ct20 oc21 kV21 dc21 pm21 cd21 ct21 oc22 kV22 dc22 pm22 cd22 ct22 oc23 kV23 dc23 pm23 cd23 ct23 oc24 kV24 dc24 pm24 cd24 ct24 oc25 kV25 dc25 pm25 cd25 ct25 oc26 kV26 dc26 pm26 cd26 ct26 oc27 kV27 dc27 pm27 cd27 ct27 oc28 kV28 dc28 pm28 cd28 ct28 oc29 kV29 dc29 pm29 cd29 ct29 oc30 kV30 dc30 pm30 cd30 ct30 : Value}
    (aC : PySem.W.nsIn K mainGlobals "Store" = some (some (.ref C)))
    (a0 : PySem.W.nsIn K mainGlobals "_law_take" = some (some (.ref f0)))
    (l0 : K.lookup f0 = some ⟨oc0, od0, .func (PySem.W.fnOf "_law_take" "_law_take" (defArgs s_law_take) (defBody s_law_take) (defScope s_law_take) .none kV0 dc0 pm0 an0 cd0 ct0), sl0⟩)
    (c0 : PySem.W.codeIn K cd0 "_law_take" = true)
    (k0 : PySem.W.keepIn K (.ref f0) = true)
    (a1 : PySem.W.nsIn K mainGlobals "_law_one_of" = some (some (.ref f1)))
    (l1 : K.lookup f1 = some ⟨oc1, od1, .func (PySem.W.fnOf "_law_one_of" "_law_one_of" (defArgs s_law_one_of) (defBody s_law_one_of) (defScope s_law_one_of) .none kV1 dc1 pm1 an1 cd1 ct1), sl1⟩)
    (c1 : PySem.W.codeIn K cd1 "_law_one_of" = true)
    (k1 : PySem.W.keepIn K (.ref f1) = true)
    (a2 : PySem.W.nsIn K mainGlobals "_law_letters" = some (some (.ref f2)))
    (l2 : K.lookup f2 = some ⟨oc2, od2, .func (PySem.W.fnOf "_law_letters" "_law_letters" (defArgs s_law_letters) (defBody s_law_letters) (defScope s_law_letters) .none kV2 dc2 pm2 an2 cd2 ct2), sl2⟩)
    (c2 : PySem.W.codeIn K cd2 "_law_letters" = true)
    (k2 : PySem.W.keepIn K (.ref f2) = true)
    (a3 : PySem.W.nsIn K mainGlobals "_law_drawn_cells" = some (some (.ref f3)))
    (l3 : K.lookup f3 = some ⟨oc3, od3, .func (PySem.W.fnOf "_law_drawn_cells" "_law_drawn_cells" (defArgs s_law_drawn_cells) (defBody s_law_drawn_cells) (defScope s_law_drawn_cells) .none kV3 dc3 pm3 an3 cd3 ct3), sl3⟩)
    (c3 : PySem.W.codeIn K cd3 "_law_drawn_cells" = true)
    (k3 : PySem.W.keepIn K (.ref f3) = true)
    (a4 : PySem.W.nsIn K mainGlobals "is_tuple_of" = some (some (.ref f4)))
    (l4 : K.lookup f4 = some ⟨oc4, od4, .func (PySem.W.fnOf "is_tuple_of" "is_tuple_of" (defArgs s_is_tuple_of) (defBody s_is_tuple_of) (defScope s_is_tuple_of) .none kV4 dc4 pm4 an4 cd4 ct4), sl4⟩)
    (c4 : PySem.W.codeIn K cd4 "is_tuple_of" = true)
    (k4 : PySem.W.keepIn K (.ref f4) = true)
    (a5 : PySem.W.nsIn K mainGlobals "is_number" = some (some (.ref f5)))
    (l5 : K.lookup f5 = some ⟨oc5, od5, .func (PySem.W.fnOf "is_number" "is_number" (defArgs s_is_number) (defBody s_is_number) (defScope s_is_number) .none kV5 dc5 pm5 an5 cd5 ct5), sl5⟩)
    (c5 : PySem.W.codeIn K cd5 "is_number" = true)
    (k5 : PySem.W.keepIn K (.ref f5) = true)
    (a6 : PySem.W.nsIn K mainGlobals "is_whole" = some (some (.ref f6)))
    (l6 : K.lookup f6 = some ⟨oc6, od6, .func (PySem.W.fnOf "is_whole" "is_whole" (defArgs s_is_whole) (defBody s_is_whole) (defScope s_is_whole) .none kV6 dc6 pm6 an6 cd6 ct6), sl6⟩)
    (c6 : PySem.W.codeIn K cd6 "is_whole" = true)
    (k6 : PySem.W.keepIn K (.ref f6) = true)
    (a7 : PySem.W.nsIn K mainGlobals "is_place" = some (some (.ref f7)))
    (l7 : K.lookup f7 = some ⟨oc7, od7, .func (PySem.W.fnOf "is_place" "is_place" (defArgs s_is_place) (defBody s_is_place) (defScope s_is_place) .none kV7 dc7 pm7 an7 cd7 ct7), sl7⟩)
    (c7 : PySem.W.codeIn K cd7 "is_place" = true)
    (k7 : PySem.W.keepIn K (.ref f7) = true)
    (a8 : PySem.W.nsIn K mainGlobals "_wrong_cell" = some (some (.ref f8)))
    (l8 : K.lookup f8 = some ⟨oc8, od8, .func (PySem.W.fnOf "_wrong_cell" "_wrong_cell" (defArgs s_wrong_cell) (defBody s_wrong_cell) (defScope s_wrong_cell) .none kV8 dc8 pm8 an8 cd8 ct8), sl8⟩)
    (c8 : PySem.W.codeIn K cd8 "_wrong_cell" = true)
    (k8 : PySem.W.keepIn K (.ref f8) = true)
    (a9 : PySem.W.nsIn K mainGlobals "_store_text" = some (some (.ref f9)))
    (l9 : K.lookup f9 = some ⟨oc9, od9, .func (PySem.W.fnOf "_store_text" "_store_text" (defArgs s_store_text) (defBody s_store_text) (defScope s_store_text) .none kV9 dc9 pm9 an9 cd9 ct9), sl9⟩)
    (c9 : PySem.W.codeIn K cd9 "_store_text" = true)
    (k9 : PySem.W.keepIn K (.ref f9) = true)
    (a10 : PySem.W.findIn K (.ref C) "take" = some (some (.ref f10)))
    (i10 : PySem.W.isFn K (.ref f10) = true)
    (l10 : K.lookup f10 = some ⟨oc10, od10, .func (PySem.W.fnOf "take" "Store.take" (defArgs s_take) (defBody s_take) (defScope s_take) .none kV10 dc10 pm10 an10 cd10 ct10), sl10⟩)
    (c10 : PySem.W.codeIn K cd10 "Store.take" = true)
    (k10 : PySem.W.keepIn K (.ref f10) = true)
    (a11 : PySem.W.nsIn K mainGlobals "is_letter" = some (some (.ref f11)))
    (l11 : K.lookup f11 = some ⟨oc11, od11, .func (PySem.W.fnOf "is_letter" "is_letter" (defArgs s_is_letter) (defBody s_is_letter) (defScope s_is_letter) .none kV11 dc11 pm11 an11 cd11 ct11), sl11⟩)
    (c11 : PySem.W.codeIn K cd11 "is_letter" = true)
    (k11 : PySem.W.keepIn K (.ref f11) = true)
    (a12 : PySem.W.nsIn K mainGlobals "_are_store_names" = some (some (.ref f12)))
    (l12 : K.lookup f12 = some ⟨oc12, od12, .func (PySem.W.fnOf "_are_store_names" "_are_store_names" (defArgs s_are_store_names) (defBody s_are_store_names) (defScope s_are_store_names) .none kV12 dc12 pm12 an12 cd12 ct12), sl12⟩)
    (c12 : PySem.W.codeIn K cd12 "_are_store_names" = true)
    (k12 : PySem.W.keepIn K (.ref f12) = true)
    (a13 : PySem.W.findIn K (.ref C) "__init__" = some (some (.ref f13)))
    (i13 : PySem.W.isFn K (.ref f13) = true)
    (l13 : K.lookup f13 = some ⟨oc13, od13, .func (PySem.W.fnOf "__init__" "Store.__init__" (defArgs s_init) (defBody s_init) (defScope s_init) .none kV13 dc13 pm13 an13 cd13 ct13), sl13⟩)
    (c13 : PySem.W.codeIn K cd13 "Store.__init__" = true)
    (k13 : PySem.W.keepIn K (.ref f13) = true)
    (a14 : PySem.W.nsIn K mainGlobals "number_in" = some (some (.ref f14)))
    (l14 : K.lookup f14 = some ⟨oc14, od14, .func (PySem.W.fnOf "number_in" "number_in" (defArgs s_number_in) (defBody s_number_in) (defScope s_number_in) .none kV14 dc14 pm14 an14 cd14 ct14), sl14⟩)
    (c14 : PySem.W.codeIn K cd14 "number_in" = true)
    (k14 : PySem.W.keepIn K (.ref f14) = true)
    (a15 : PySem.W.nsIn K mainGlobals "_name_in" = some (some (.ref f15)))
    (l15 : K.lookup f15 = some ⟨oc15, od15, .func (PySem.W.fnOf "_name_in" "_name_in" (defArgs s_name_in) (defBody s_name_in) (defScope s_name_in) .none kV15 dc15 pm15 an15 cd15 ct15), sl15⟩)
    (c15 : PySem.W.codeIn K cd15 "_name_in" = true)
    (k15 : PySem.W.keepIn K (.ref f15) = true)
    (a16 : PySem.W.nsIn K mainGlobals "_cell_in" = some (some (.ref f16)))
    (l16 : K.lookup f16 = some ⟨oc16, od16, .func (PySem.W.fnOf "_cell_in" "_cell_in" (defArgs s_cell_in) (defBody s_cell_in) (defScope s_cell_in) .none kV16 dc16 pm16 an16 cd16 ct16), sl16⟩)
    (c16 : PySem.W.codeIn K cd16 "_cell_in" = true)
    (k16 : PySem.W.keepIn K (.ref f16) = true)
    (a17 : PySem.W.nsIn K mainGlobals "store_in" = some (some (.ref f17)))
    (l17 : K.lookup f17 = some ⟨oc17, od17, .func (PySem.W.fnOf "store_in" "store_in" (defArgs s_store_in) (defBody s_store_in) (defScope s_store_in) .none kV17 dc17 pm17 an17 cd17 ct17), sl17⟩)
    (c17 : PySem.W.codeIn K cd17 "store_in" = true)
    (k17 : PySem.W.keepIn K (.ref f17) = true)
    (a18 : PySem.W.nsIn K mainGlobals "read_store" = some (some (.ref f18)))
    (l18 : K.lookup f18 = some ⟨oc18, od18, .func (PySem.W.fnOf "read_store" "read_store" (defArgs s_read_store) (defBody s_read_store) (defScope s_read_store) .none kV18 dc18 pm18 an18 cd18 ct18), sl18⟩)
    (c18 : PySem.W.codeIn K cd18 "read_store" = true)
    (k18 : PySem.W.keepIn K (.ref f18) = true)
    (a19 : PySem.W.nsIn K mainGlobals "_law_turned" = some (some (.ref f19)))
    (l19 : K.lookup f19 = some ⟨oc19, od19, .func (PySem.W.fnOf "_law_turned" "_law_turned" (defArgs s_law_turned) (defBody s_law_turned) (defScope s_law_turned) .none kV19 dc19 pm19 an19 cd19 ct19), sl19⟩)
    (c19 : PySem.W.codeIn K cd19 "_law_turned" = true)
    (k19 : PySem.W.keepIn K (.ref f19) = true)
    (a20 : PySem.W.nsIn K mainGlobals "_law_store_text" = some (some (.ref f20)))
    (l20 : K.lookup f20 = some ⟨oc20, od20, .func (PySem.W.fnOf "_law_store_text" "_law_store_text" (defArgs s_law_store_text) (defBody s_law_store_text) (defScope s_law_store_text) .none kV20 dc20 pm20 an20 cd20 ct20), sl20⟩)
    (c20 : PySem.W.codeIn K cd20 "_law_store_text" = true)
    (k20 : PySem.W.keepIn K (.ref f20) = true)
    (a21 : PySem.W.nsIn K mainGlobals "_law_arrows" = some (some (.ref f21)))
    (l21 : K.lookup f21 = some ⟨oc21, od21, .func (PySem.W.fnOf "_law_arrows" "_law_arrows" (defArgs s_law_arrows) (defBody s_law_arrows) (defScope s_law_arrows) .none kV21 dc21 pm21 an21 cd21 ct21), sl21⟩)
    (c21 : PySem.W.codeIn K cd21 "_law_arrows" = true)
    (k21 : PySem.W.keepIn K (.ref f21) = true)
    (a22 : PySem.W.findIn K (.ref C) "arrow" = some (some (.ref f22)))
    (i22 : PySem.W.isFn K (.ref f22) = true)
    (l22 : K.lookup f22 = some ⟨oc22, od22, .func (PySem.W.fnOf "arrow" "Store.arrow" (defArgs s_arrow) (defBody s_arrow) (defScope s_arrow) .none kV22 dc22 pm22 an22 cd22 ct22), sl22⟩)
    (c22 : PySem.W.codeIn K cd22 "Store.arrow" = true)
    (k22 : PySem.W.keepIn K (.ref f22) = true)
    (a23 : PySem.W.findIn K (.ref C) "at" = some (some (.ref f23)))
    (i23 : PySem.W.isFn K (.ref f23) = true)
    (l23 : K.lookup f23 = some ⟨oc23, od23, .func (PySem.W.fnOf "at" "Store.at" (defArgs s_at) (defBody s_at) (defScope s_at) .none kV23 dc23 pm23 an23 cd23 ct23), sl23⟩)
    (c23 : PySem.W.codeIn K cd23 "Store.at" = true)
    (k23 : PySem.W.keepIn K (.ref f23) = true)
    (a24 : PySem.W.findIn K (.ref C) "is_gone" = some (some (.ref f24)))
    (i24 : PySem.W.isFn K (.ref f24) = true)
    (l24 : K.lookup f24 = some ⟨oc24, od24, .func (PySem.W.fnOf "is_gone" "Store.is_gone" (defArgs s_is_gone) (defBody s_is_gone) (defScope s_is_gone) .none kV24 dc24 pm24 an24 cd24 ct24), sl24⟩)
    (c24 : PySem.W.codeIn K cd24 "Store.is_gone" = true)
    (k24 : PySem.W.keepIn K (.ref f24) = true)
    (a25 : PySem.W.nsIn K mainGlobals "_law_places_right" = some (some (.ref f25)))
    (l25 : K.lookup f25 = some ⟨oc25, od25, .func (PySem.W.fnOf "_law_places_right" "_law_places_right" (defArgs s_law_places_right) (defBody s_law_places_right) (defScope s_law_places_right) .none kV25 dc25 pm25 an25 cd25 ct25), sl25⟩)
    (c25 : PySem.W.codeIn K cd25 "_law_places_right" = true)
    (k25 : PySem.W.keepIn K (.ref f25) = true)
    (a26 : PySem.W.nsIn K mainGlobals "_law_tells" = some (some (.ref f26)))
    (l26 : K.lookup f26 = some ⟨oc26, od26, .func (PySem.W.fnOf "_law_tells" "_law_tells" (defArgs s_law_tells) (defBody s_law_tells) (defScope s_law_tells) .none kV26 dc26 pm26 an26 cd26 ct26), sl26⟩)
    (c26 : PySem.W.codeIn K cd26 "_law_tells" = true)
    (k26 : PySem.W.keepIn K (.ref f26) = true)
    (a27 : PySem.W.findIn K (.ref C) "__eq__" = some (some (.ref f27)))
    (i27 : PySem.W.isFn K (.ref f27) = true)
    (l27 : K.lookup f27 = some ⟨oc27, od27, .func (PySem.W.fnOf "__eq__" "Store.__eq__" (defArgs s_eq) (defBody s_eq) (defScope s_eq) .none kV27 dc27 pm27 an27 cd27 ct27), sl27⟩)
    (c27 : PySem.W.codeIn K cd27 "Store.__eq__" = true)
    (k27 : PySem.W.keepIn K (.ref f27) = true)
    (a28 : PySem.W.nsIn K mainGlobals "_law_right" = some (some (.ref f28)))
    (l28 : K.lookup f28 = some ⟨oc28, od28, .func (PySem.W.fnOf "_law_right" "_law_right" (defArgs s_law_right) (defBody s_law_right) (defScope s_law_right) .none kV28 dc28 pm28 an28 cd28 ct28), sl28⟩)
    (c28 : PySem.W.codeIn K cd28 "_law_right" = true)
    (k28 : PySem.W.keepIn K (.ref f28) = true)
    (a29 : PySem.W.nsIn K mainGlobals "_law_jug" = some (some (.ref f29)))
    (l29 : K.lookup f29 = some ⟨oc29, od29, .func (PySem.W.fnOf "_law_jug" "_law_jug" (defArgs s_law_jug) (defBody s_law_jug) (defScope s_law_jug) .none kV29 dc29 pm29 an29 cd29 ct29), sl29⟩)
    (c29 : PySem.W.codeIn K cd29 "_law_jug" = true)
    (k29 : PySem.W.keepIn K (.ref f29) = true)
    (a30 : PySem.W.nsIn K mainGlobals "law" = some (some (.ref f30)))
    (l30 : K.lookup f30 = some ⟨oc30, od30, .func (PySem.W.fnOf "law" "law" (defArgs s_law) (defBody s_law) (defScope s_law) .none kV30 dc30 pm30 an30 cd30 ct30), sl30⟩)
    (c30 : PySem.W.codeIn K cd30 "law" = true)
    (k30 : PySem.W.keepIn K (.ref f30) = true)
    (pg : PySem.W.plainGet K C Str.empty = true)
    (hd : PySem.W.hasDictIn K C = true)
    (po : PySem.W.plainOver K C = true)
    (sa : PySem.W.findIn K (.ref C) "__setattr__" = some (some (.builtin "object.__setattr__")))
    (mk : PySem.W.makesIn K C = true)
    (kc : PySem.W.keepIn K (.ref C) = true)
    (n_names : PySem.W.findIn K (.ref C) "names" = some none)
    (n_cells : PySem.W.findIn K (.ref C) "cells" = some none)
    (n_letters : PySem.W.findIn K (.ref C) "letters" = some none)
    (n_text : PySem.W.findIn K (.ref C) "text" = some none)
    (n_places : PySem.W.findIn K (.ref C) "places" = some none)
    (n_arrows : PySem.W.findIn K (.ref C) "arrows" = some none)
    (n_led_to : PySem.W.findIn K (.ref C) "led_to" = some none)
    (isC : PySem.W.findIn K (.ref C) "__class__" = some (some (.builtin "object.__class__")))
    (isG : PySem.W.specialIn K (.builtin "object.__class__") "__get__" = some (some (.builtin "getset_descriptor.__get__")))
    (isT : PySem.W.takesIn K (.builtin "object.__class__") = some true)
    (isM : PySem.W.mroIn K C (.type "object") = some true)
    (neq : PySem.W.findIn K (.ref C) "__ne__" = some (some (.builtin "object.__ne__")))
    (icl : PySem.W.isClsIn K C = true)
    (tcl : PySem.W.typeIn K (.ref C) = some (.type "type"))
    (s_str : PySem.W.subIn K (.type "str") (.ref C) = some false)
    (f_str : PySem.W.notFirst K C (.type "str") = true)
    (s_int : PySem.W.subIn K (.type "int") (.ref C) = some false)
    (f_int : PySem.W.notFirst K C (.type "int") = true)
    (s_tuple : PySem.W.subIn K (.type "tuple") (.ref C) = some false)
    (f_tuple : PySem.W.notFirst K C (.type "tuple") = true)
    (z_isinstance : PySem.W.nsIn K mainGlobals "isinstance" = some none)
    (z_int : PySem.W.nsIn K mainGlobals "int" = some none)
    (z_bool : PySem.W.nsIn K mainGlobals "bool" = some none)
    (z_str : PySem.W.nsIn K mainGlobals "str" = some none)
    (z_len : PySem.W.nsIn K mainGlobals "len" = some none)
    (z_tuple : PySem.W.nsIn K mainGlobals "tuple" = some none)
    (z_dict : PySem.W.nsIn K mainGlobals "dict" = some none)
    (z_enumerate : PySem.W.nsIn K mainGlobals "enumerate" = some none)
    (z_range : PySem.W.nsIn K mainGlobals "range" = some none)
    (z_divmod : PySem.W.nsIn K mainGlobals "divmod" = some none)
    (z_abs : PySem.W.nsIn K mainGlobals "abs" = some none)
    (z_sorted : PySem.W.nsIn K mainGlobals "sorted" = some none)
    (z_repr : PySem.W.nsIn K mainGlobals "repr" = some none)
    (z_all : PySem.W.nsIn K mainGlobals "all" = some none)
    (z_max : PySem.W.nsIn K mainGlobals "max" = some none)
    (z_min : PySem.W.nsIn K mainGlobals "min" = some none)
    (g_LETTERS : PySem.W.nsIn K mainGlobals "LETTERS" = some (some (.str "abcdefghijklmnopqrstuvwxyz" t_LETTERS)))
    (g_FIGURES : PySem.W.nsIn K mainGlobals "FIGURES" = some (some (.str "0123456789" t_FIGURES)))
    (g_END : PySem.W.nsIn K mainGlobals "END" = some (some (.int 0 t_END)))
    (g_LAST_PLACE : PySem.W.nsIn K mainGlobals "LAST_PLACE" = some (some (.int 999 t_LAST_PLACE)))
    (g_MOST_NAMES : PySem.W.nsIn K mainGlobals "MOST_NAMES" = some (some (.int 4 t_MOST_NAMES)))
    (g_MOST_CELLS : PySem.W.nsIn K mainGlobals "MOST_CELLS" = some (some (.int 500 t_MOST_CELLS))) :
    ∃ fd : FuncData, (∀ (s : Shared) (v : Value), BindsTo s fd ⟨[v], []⟩ [("_law_script", v)]) ∧ ∀ base : Heap, K.In base → base.Ns mainGlobals mg → FnG l.prog w K mg base 10 fa fd ["_law_script"] (sp_law K) := by
  have e := hfa.symm.trans (PySem.W.mg_of X G a30)
  cases e
  have F0 := fun_mk (st := s_law_take) l0 c0 k0
  have b0 := F0.binds (ps := ["_law_jug_here", "_law_many"]) fun _ _ _ _ _ _ us hl => match us, hl with | [_, _], _ => rfl
  have F1 := fun_mk (st := s_law_one_of) l1 c1 k1
  have b1 := F1.binds (ps := ["_law_jug_here", "_law_some"]) fun _ _ _ _ _ _ us hl => match us, hl with | [_, _], _ => rfl
  have F2 := fun_mk (st := s_law_letters) l2 c2 k2
  have b2 := F2.binds (ps := ["_law_jug_here", "_law_many"]) fun _ _ _ _ _ _ us hl => match us, hl with | [_, _], _ => rfl
  have F3 := fun_mk (st := s_law_drawn_cells) l3 c3 k3
  have b3 := F3.binds (ps := ["_law_jug_here", "_law_most"]) fun _ _ _ _ _ _ us hl => match us, hl with | [_, _], _ => rfl
  have F4 := fun_mk (st := s_is_tuple_of) l4 c4 k4
  have b4 := F4.binds (ps := ["value", "many"]) fun _ _ _ _ _ _ us hl => match us, hl with | [_, _], _ => rfl
  have F5 := fun_mk (st := s_is_number) l5 c5 k5
  have b5 := F5.binds (ps := ["value"]) fun _ _ _ _ _ _ us hl => match us, hl with | [_], _ => rfl
  have F6 := fun_mk (st := s_is_whole) l6 c6 k6
  have b6 := F6.binds (ps := ["value", "low", "high"]) fun _ _ _ _ _ _ us hl => match us, hl with | [_, _, _], _ => rfl
  have F7 := fun_mk (st := s_is_place) l7 c7 k7
  have b7 := F7.binds (ps := ["value"]) fun _ _ _ _ _ _ us hl => match us, hl with | [_], _ => rfl
  have F8 := fun_mk (st := s_wrong_cell) l8 c8 k8
  have b8 := F8.binds (ps := ["cells"]) fun _ _ _ _ _ _ us hl => match us, hl with | [_], _ => rfl
  have F9 := fun_mk (st := s_store_text) l9 c9 k9
  have b9 := F9.binds (ps := ["names", "cells"]) fun _ _ _ _ _ _ us hl => match us, hl with | [_, _], _ => rfl
  have F10 := fun_mk (st := s_take) l10 c10 k10
  have b10 := F10.binds (ps := ["self", "names", "cells"]) fun _ _ _ _ _ _ us hl => match us, hl with | [_, _, _], _ => rfl
  have F11 := fun_mk (st := s_is_letter) l11 c11 k11
  have b11 := F11.binds (ps := ["value"]) fun _ _ _ _ _ _ us hl => match us, hl with | [_], _ => rfl
  have F12 := fun_mk (st := s_are_store_names) l12 c12 k12
  have b12 := F12.binds (ps := ["value"]) fun _ _ _ _ _ _ us hl => match us, hl with | [_], _ => rfl
  have F13 := fun_mk (st := s_init) l13 c13 k13
  have b13 := F13.binds (ps := ["self", "names", "cells"]) fun _ _ _ _ _ _ us hl => match us, hl with | [_, _, _], _ => rfl
  have F14 := fun_mk (st := s_number_in) l14 c14 k14
  have b14 := F14.binds (ps := ["word", "high"]) fun _ _ _ _ _ _ us hl => match us, hl with | [_, _], _ => rfl
  have F15 := fun_mk (st := s_name_in) l15 c15 k15
  have b15 := F15.binds (ps := ["word"]) fun _ _ _ _ _ _ us hl => match us, hl with | [_], _ => rfl
  have F16 := fun_mk (st := s_cell_in) l16 c16 k16
  have b16 := F16.binds (ps := ["word"]) fun _ _ _ _ _ _ us hl => match us, hl with | [_], _ => rfl
  have F17 := fun_mk (st := s_store_in) l17 c17 k17
  have b17 := F17.binds (ps := ["text"]) fun _ _ _ _ _ _ us hl => match us, hl with | [_], _ => rfl
  have F18 := fun_mk (st := s_read_store) l18 c18 k18
  have b18 := F18.binds (ps := ["text"]) fun _ _ _ _ _ _ us hl => match us, hl with | [_], _ => rfl
  have F19 := fun_mk (st := s_law_turned) l19 c19 k19
  have b19 := F19.binds (ps := ["_law_jug_here", "_law_names", "_law_cells", "_law_goals"]) fun _ _ _ _ _ _ us hl => match us, hl with | [_, _, _, _], _ => rfl
  have F20 := fun_mk (st := s_law_store_text) l20 c20 k20
  have b20 := F20.binds (ps := ["_law_names", "_law_cells"]) fun _ _ _ _ _ _ us hl => match us, hl with | [_, _], _ => rfl
  have F21 := fun_mk (st := s_law_arrows) l21 c21 k21
  have b21 := F21.binds (ps := ["_law_cells"]) fun _ _ _ _ _ _ us hl => match us, hl with | [_], _ => rfl
  have F22 := fun_mk (st := s_arrow) l22 c22 k22
  have b22 := F22.binds (ps := ["self", "place"]) fun _ _ _ _ _ _ us hl => match us, hl with | [_, _], _ => rfl
  have F23 := fun_mk (st := s_at) l23 c23 k23
  have b23 := F23.binds (ps := ["self", "letter"]) fun _ _ _ _ _ _ us hl => match us, hl with | [_, _], _ => rfl
  have F24 := fun_mk (st := s_is_gone) l24 c24 k24
  have b24 := F24.binds (ps := ["self", "place"]) fun _ _ _ _ _ _ us hl => match us, hl with | [_, _], _ => rfl
  have F25 := fun_mk (st := s_law_places_right) l25 c25 k25
  have b25 := F25.binds (ps := ["_law_made", "_law_names", "_law_cells", "_law_places"]) fun _ _ _ _ _ _ us hl => match us, hl with | [_, _, _, _], _ => rfl
  have F26 := fun_mk (st := s_law_tells) l26 c26 k26
  have b26 := F26.binds (ps := ["_law_made", "_law_names", "_law_cells"]) fun _ _ _ _ _ _ us hl => match us, hl with | [_, _, _], _ => rfl
  have F27 := fun_mk (st := s_eq) l27 c27 k27
  have b27 := F27.binds (ps := ["self", "other"]) fun _ _ _ _ _ _ us hl => match us, hl with | [_, _], _ => rfl
  have F28 := fun_mk (st := s_law_right) l28 c28 k28
  have b28 := F28.binds (ps := ["_law_jug_here"]) fun _ _ _ _ _ _ us hl => match us, hl with | [_], _ => rfl
  have F29 := fun_mk (st := s_law_jug) l29 c29 k29
  have b29 := F29.binds (ps := ["_law_script", "_law_turn"]) fun _ _ _ _ _ _ us hl => match us, hl with | [_, _], _ => rfl
  have F30 := fun_mk (st := s_law) l30 c30 k30
  have b30 := F30.binds (ps := ["_law_script"]) fun _ _ _ _ _ _ us hl => match us, hl with | [_], _ => rfl
  have T : Txt K mg C := {
    b_isinstance := PySem.W.mg_none_of X G z_isinstance
    b_int := PySem.W.mg_none_of X G z_int
    b_bool := PySem.W.mg_none_of X G z_bool
    b_str := PySem.W.mg_none_of X G z_str
    b_len := PySem.W.mg_none_of X G z_len
    b_tuple := PySem.W.mg_none_of X G z_tuple
    b_dict := PySem.W.mg_none_of X G z_dict
    b_enumerate := PySem.W.mg_none_of X G z_enumerate
    b_range := PySem.W.mg_none_of X G z_range
    b_divmod := PySem.W.mg_none_of X G z_divmod
    b_abs := PySem.W.mg_none_of X G z_abs
    b_sorted := PySem.W.mg_none_of X G z_sorted
    b_repr := PySem.W.mg_none_of X G z_repr
    b_all := PySem.W.mg_none_of X G z_all
    b_max := PySem.W.mg_none_of X G z_max
    b_min := PySem.W.mg_none_of X G z_min
    c_LETTERS := ⟨_, PySem.W.mg_of X G g_LETTERS⟩
    c_FIGURES := ⟨_, PySem.W.mg_of X G g_FIGURES⟩
    c_END := ⟨_, PySem.W.mg_of X G g_END⟩
    c_LAST_PLACE := ⟨_, PySem.W.mg_of X G g_LAST_PLACE⟩
    c_MOST_NAMES := ⟨_, PySem.W.mg_of X G g_MOST_NAMES⟩
    c_MOST_CELLS := ⟨_, PySem.W.mg_of X G g_MOST_CELLS⟩
    mgC := PySem.W.mg_of X G aC
    cl := ⟨pg, hd, po, sa⟩
    n_names := n_names
    n_cells := n_cells
    n_letters := n_letters
    n_text := n_text
    n_places := n_places
    n_arrows := n_arrows
    n_led_to := n_led_to
    isC := isC
    isG := isG
    isT := isT
    isM := isM
    k_self := kit_self
    k_str := kit_not icl tcl s_str
    k_int := kit_not icl tcl s_int
    k_tup := kit_not icl tcl s_tuple
    f_str := f_str
    f_int := f_int
    f_tup := f_tuple
    d__law_take := ⟨_, _, F0, PySem.W.mg_of X G a0, b0⟩
    d__law_one_of := ⟨_, _, F1, PySem.W.mg_of X G a1, b1⟩
    d__law_letters := ⟨_, _, F2, PySem.W.mg_of X G a2, b2⟩
    d__law_drawn_cells := ⟨_, _, F3, PySem.W.mg_of X G a3, b3⟩
    d_is_tuple_of := ⟨_, _, F4, PySem.W.mg_of X G a4, b4⟩
    d_is_number := ⟨_, _, F5, PySem.W.mg_of X G a5, b5⟩
    d_is_whole := ⟨_, _, F6, PySem.W.mg_of X G a6, b6⟩
    d_is_place := ⟨_, _, F7, PySem.W.mg_of X G a7, b7⟩
    d__wrong_cell := ⟨_, _, F8, PySem.W.mg_of X G a8, b8⟩
    d__store_text := ⟨_, _, F9, PySem.W.mg_of X G a9, b9⟩
    d_take := ⟨_, _, F10, ⟨a10, i10, k10⟩, b10⟩
    d_is_letter := ⟨_, _, F11, PySem.W.mg_of X G a11, b11⟩
    d__are_store_names := ⟨_, _, F12, PySem.W.mg_of X G a12, b12⟩
    d_init := ⟨_, _, F13, ⟨mk, a13, i13, kc⟩, b13⟩
    d_number_in := ⟨_, _, F14, PySem.W.mg_of X G a14, b14⟩
    d__name_in := ⟨_, _, F15, PySem.W.mg_of X G a15, b15⟩
    d__cell_in := ⟨_, _, F16, PySem.W.mg_of X G a16, b16⟩
    d_store_in := ⟨_, _, F17, PySem.W.mg_of X G a17, b17⟩
    d_read_store := ⟨_, _, F18, PySem.W.mg_of X G a18, b18⟩
    d__law_turned := ⟨_, _, F19, PySem.W.mg_of X G a19, b19⟩
    d__law_store_text := ⟨_, _, F20, PySem.W.mg_of X G a20, b20⟩
    d__law_arrows := ⟨_, _, F21, PySem.W.mg_of X G a21, b21⟩
    d_arrow := ⟨_, _, F22, ⟨a22, i22, k22⟩, b22⟩
    d_at := ⟨_, _, F23, ⟨a23, i23, k23⟩, b23⟩
    d_is_gone := ⟨_, _, F24, ⟨a24, i24, k24⟩, b24⟩
    d__law_places_right := ⟨_, _, F25, PySem.W.mg_of X G a25, b25⟩
    d__law_tells := ⟨_, _, F26, PySem.W.mg_of X G a26, b26⟩
    d_eq := ⟨_, _, F27, ⟨a27, i27, neq, isM, b27⟩⟩
    d__law_right := ⟨_, _, F28, PySem.W.mg_of X G a28, b28⟩
    d__law_jug := ⟨_, _, F29, PySem.W.mg_of X G a29, b29⟩
    d_law := ⟨_, _, F30, PySem.W.mg_of X G a30, b30⟩
  }
  refine ⟨PySem.W.fnOf "law" "law" (defArgs s_law) (defBody s_law) (defScope s_law) .none kV30 dc30 pm30 an30 cd30 ct30, fun s v => .of_eq rfl, fun base _ _ => ?_⟩
  have G__law_take : Pr l.prog w K mg base "_law_take" s_law_take 1 ["_law_jug_here", "_law_many"] sp_law_take := ok_law_take T 
  have G__law_one_of : Pr l.prog w K mg base "_law_one_of" s_law_one_of 2 ["_law_jug_here", "_law_some"] (sp_law_one_of K) := ok_law_one_of T G__law_take
  have G__law_letters : Pr l.prog w K mg base "_law_letters" s_law_letters 3 ["_law_jug_here", "_law_many"] sp_law_letters := ok_law_letters T G__law_one_of G__law_take
  have G__law_drawn_cells : Pr l.prog w K mg base "_law_drawn_cells" s_law_drawn_cells 3 ["_law_jug_here", "_law_most"] (sp_law_drawn_cells K) := ok_law_drawn_cells T G__law_take G__law_one_of
  have G_is_tuple_of : Pr l.prog w K mg base "is_tuple_of" s_is_tuple_of 1 ["value", "many"] (sp_is_tuple_of K) := ok_is_tuple_of T 
  have G_is_number : Pr l.prog w K mg base "is_number" s_is_number 1 ["value"] sp_is_number := ok_is_number T 
  have G_is_whole : Pr l.prog w K mg base "is_whole" s_is_whole 2 ["value", "low", "high"] sp_is_whole := ok_is_whole T G_is_number
  have G_is_place : Pr l.prog w K mg base "is_place" s_is_place 3 ["value"] sp_is_place := ok_is_place T G_is_whole
  have G__wrong_cell : Pr l.prog w K mg base "_wrong_cell" s_wrong_cell 4 ["cells"] (sp_wrong_cell K) := ok_wrong_cell T G_is_tuple_of G_is_place
  have G__store_text : Pr l.prog w K mg base "_store_text" s_store_text 1 ["names", "cells"] (sp_store_text K) := ok_store_text T 
  have G_take : PrM l.prog w K mg base C "take" "Store.take" s_take 2 ["self", "names", "cells"] (sp_take K C) := ok_take T G__store_text
  have G_is_letter : Pr l.prog w K mg base "is_letter" s_is_letter 1 ["value"] sp_is_letter := ok_is_letter T 
  have G__are_store_names : Pr l.prog w K mg base "_are_store_names" s_are_store_names 4 ["value"] (sp_are_store_names K) := ok_are_store_names T G_is_tuple_of G_is_letter G_is_place
  have G_init : PrI l.prog w K mg base C "Store.__init__" s_init 5 ["self", "names", "cells"] (sp_init K C) := ok_init T G__wrong_cell G_take G__are_store_names
  have G_number_in : Pr l.prog w K mg base "number_in" s_number_in 1 ["word", "high"] sp_number_in := ok_number_in T 
  have G__name_in : Pr l.prog w K mg base "_name_in" s_name_in 2 ["word"] sp_name_in := ok_name_in T G_number_in
  have G__cell_in : Pr l.prog w K mg base "_cell_in" s_cell_in 2 ["word"] sp_cell_in := ok_cell_in T G_number_in
  have G_store_in : Pr l.prog w K mg base "store_in" s_store_in 7 ["text"] (sp_store_in K C) := ok_store_in T G_init G__name_in G__are_store_names G__wrong_cell G__cell_in
  have G_read_store : Pr l.prog w K mg base "read_store" s_read_store 8 ["text"] (sp_read_store K C) := ok_read_store T G_store_in
  have G__law_turned : Pr l.prog w K mg base "_law_turned" s_law_turned 3 ["_law_jug_here", "_law_names", "_law_cells", "_law_goals"] (sp_law_turned K) := ok_law_turned T G__law_one_of G__law_take
  have G__law_store_text : Pr l.prog w K mg base "_law_store_text" s_law_store_text 1 ["_law_names", "_law_cells"] (sp_store_text K) := ok_law_store_text T 
  have G__law_arrows : Pr l.prog w K mg base "_law_arrows" s_law_arrows 1 ["_law_cells"] (sp_law_arrows K) := ok_law_arrows T 
  have G_arrow : PrM l.prog w K mg base C "arrow" "Store.arrow" s_arrow 4 ["self", "place"] (sp_arrow K C) := ok_arrow T G_is_place
  have G_at : PrM l.prog w K mg base C "at" "Store.at" s_at 2 ["self", "letter"] (sp_at K C) := ok_at T G_is_letter
  have G_is_gone : PrM l.prog w K mg base C "is_gone" "Store.is_gone" s_is_gone 4 ["self", "place"] (sp_is_gone K C) := ok_is_gone T G_is_place
  have G__law_places_right : PrG l.prog w K mg base "_law_places_right" s_law_places_right 5 ["_law_made", "_law_names", "_law_cells", "_law_places"] (sp_law_places_right K C) := ok_law_places_right T G__law_arrows G_arrow G_at G_is_gone
  have G__law_tells : PrG l.prog w K mg base "_law_tells" s_law_tells 2 ["_law_made", "_law_names", "_law_cells"] (sp_law_tells K C) := ok_law_tells T G__law_store_text
  have G_eq : PrE l.prog w K mg base C "Store.__eq__" s_eq 1 (sp_eq K C) := ok_eq T 
  have G__law_right : PrG l.prog w K mg base "_law_right" s_law_right 9 ["_law_jug_here"] (sp_law_right) := ok_law_right T G__law_letters G__law_drawn_cells G_read_store G__law_turned G__law_one_of G_init G__law_store_text G__law_places_right G__law_tells G__law_take G_eq
  have G__law_jug : Pr l.prog w K mg base "_law_jug" s_law_jug 1 ["_law_script", "_law_turn"] (sp_law_jug K) := ok_law_jug T 
  have G_law : PrG l.prog w K mg base "law" s_law 10 ["_law_script"] (sp_law K) := ok_law T G__law_right G__law_jug
  obtain ⟨f, fd, F, gl, bd, R⟩ := G_law
  have e1 := gl.symm.trans (PySem.W.mg_of X G a30)
  cases e1
  obtain ⟨x1, x2, x3, x4, x5, x6, x7, x8, x9, e2, lk, _⟩ := F.ex
  rw [l30] at lk
  injection lk with lk
  injection lk with _ _ l3 _
  injection l3 with l4
  first | rw [← l4] at R | rw [l4] at R | rw [e2, ← l4] at R
  exact R
theorem walk {l : PySem.W.OpenLaw} {q : Program} {loose : List Str} {XP : (Str → Option Value) → Heap → Prop} {YP : World → Heap → Prop} {d : DefRec} {K : Params → PySem.W.Frag} (hn : l.most = some 63) (hdf : d.params.defaults = [])
    (hY : ∀ (w : World) (h : Heap), YP w h → (K w.params).In h)
    (F : ∀ (w : World) (mg : Str → Option Value) (fa : Addr) (h : Heap), (K w.params).In h → h.Ns mainGlobals mg → mg d.name = some (.ref fa) →
      ∃ fd : FuncData, (∀ (s : Shared) (u : Value), BindsTo s fd ⟨[u], []⟩ [("_law_script", u)]) ∧ ∀ base : Heap, (K w.params).In base → base.Ns mainGlobals mg → FnG l.prog w (K w.params) mg base 10 fa fd ["_law_script"] (sp_law (K w.params))) :
    PySem.W.WalkO q loose XP YP l.row.toRowW d [] (fun f vs => PySem.call f vs) :=
  walkG (n := 63) (k := 10) (x := "_law_script") (sp := fun w => sp_law (K w.params)) hn (by decide) hdf ⟨rfl, by decide, by decide⟩ hY F fun w H a ns hl _ hS => ⟨a, ns, rfl, hS, hl, fun _ => rfl⟩
end K1
open PySem PySem.W PyProof.Rows
set_option maxRecDepth 100000 in
set_option maxHeartbeats 0 in
theorem PySem.Challenge.cw_arrowcells_k01_whole_stores_and_their_te_holds : PySem.Challenge.rw_arrowcells_k01_whole_stores_and_their_te.Holds := by
  w_on; o_law; k_head; (case hw => w_witness2)
  k_fill
  refine K1.walk (l := PySem.Challenge.rw_arrowcells_k01_whole_stores_and_their_te) rfl rfl (fun w h Y => PySem.W.kIn_of Y) ?F
  case F =>
    intro w mg fa h KX G hmg
    refine' K1.all_mk KX G hmg ?aC ?a0 ?l0 ?c0 ?k0 ?a1 ?l1 ?c1 ?k1 ?a2 ?l2 ?c2 ?k2 ?a3 ?l3 ?c3 ?k3 ?a4 ?l4 ?c4 ?k4 ?a5 ?l5 ?c5 ?k5 ?a6 ?l6 ?c6 ?k6 ?a7 ?l7 ?c7 ?k7 ?a8 ?l8 ?c8 ?k8 ?a9 ?l9 ?c9 ?k9 ?a10 ?i10 ?l10 ?c10 ?k10 ?a11 ?l11 ?c11 ?k11 ?a12 ?l12 ?c12 ?k12 ?a13 ?i13 ?l13 ?c13 ?k13 ?a14 ?l14 ?c14 ?k14 ?a15 ?l15 ?c15 ?k15 ?a16 ?l16 ?c16 ?k16 ?a17 ?l17 ?c17 ?k17 ?a18 ?l18 ?c18 ?k18 ?a19 ?l19 ?c19 ?k19 ?a20 ?l20 ?c20 ?k20 ?a21 ?l21 ?c21 ?k21 ?a22 ?i22 ?l22 ?c22 ?k22 ?a23 ?i23 ?l23 ?c23 ?k23 ?a24 ?i24 ?l24 ?c24 ?k24 ?a25 ?l25 ?c25 ?k25 ?a26 ?l26 ?c26 ?k26 ?a27 ?i27 ?l27 ?c27 ?k27 ?a28 ?l28 ?c28 ?k28 ?a29 ?l29 ?c29 ?k29 ?a30 ?l30 ?c30 ?k30 ?pg ?hd ?po ?sa ?mk ?kc ?n_names ?n_cells ?n_letters ?n_text ?n_places ?n_arrows ?n_led_to ?isC ?isG ?isT ?isM ?neq ?icl ?tcl ?s_str ?f_str ?s_int ?f_int ?s_tuple ?f_tuple ?z_isinstance ?z_int ?z_bool ?z_str ?z_len ?z_tuple ?z_dict ?z_enumerate ?z_range ?z_divmod ?z_abs ?z_sorted ?z_repr ?z_all ?z_max ?z_min ?g_LETTERS ?g_FIGURES ?g_END ?g_LAST_PLACE ?g_MOST_NAMES ?g_MOST_CELLS
    (case aC => k_is)
    (case a0 => k_is)
    (case l0 => k_is)
    (case c0 => k_is)
    (case k0 => k_is)
    (case a1 => k_is)
    (case l1 => k_is)
    (case c1 => k_is)
    (case k1 => k_is)
    (case a2 => k_is)
    (case l2 => k_is)
    (case c2 => k_is)
    (case k2 => k_is)
    (case a3 => k_is)
    (case l3 => k_is)
    (case c3 => k_is)
    (case k3 => k_is)
    (case a4 => k_is)
    (case l4 => k_is)
    (case c4 => k_is)
    (case k4 => k_is)
    (case a5 => k_is)
    (case l5 => k_is)
    (case c5 => k_is)
    (case k5 => k_is)
    (case a6 => k_is)
    (case l6 => k_is)
    (case c6 => k_is)
    (case k6 => k_is)
    (case a7 => k_is)
    (case l7 => k_is)
    (case c7 => k_is)
    (case k7 => k_is)
    (case a8 => k_is)
    (case l8 => k_is)
    (case c8 => k_is)
    (case k8 => k_is)
    (case a9 => k_is)
    (case l9 => k_is)
    (case c9 => k_is)
    (case k9 => k_is)
    (case a10 => k_is)
    (case i10 => k_is)
    (case l10 => k_is)
    (case c10 => k_is)
    (case k10 => k_is)
    (case a11 => k_is)
    (case l11 => k_is)
    (case c11 => k_is)
    (case k11 => k_is)
    (case a12 => k_is)
    (case l12 => k_is)
    (case c12 => k_is)
    (case k12 => k_is)
    (case a13 => k_is)
    (case i13 => k_is)
    (case l13 => k_is)
    (case c13 => k_is)
    (case k13 => k_is)
    (case a14 => k_is)
    (case l14 => k_is)
    (case c14 => k_is)
    (case k14 => k_is)
    (case a15 => k_is)
    (case l15 => k_is)
    (case c15 => k_is)
    (case k15 => k_is)
    (case a16 => k_is)
    (case l16 => k_is)
    (case c16 => k_is)
    (case k16 => k_is)
    (case a17 => k_is)
    (case l17 => k_is)
    (case c17 => k_is)
    (case k17 => k_is)
    (case a18 => k_is)
    (case l18 => k_is)
    (case c18 => k_is)
    (case k18 => k_is)
    (case a19 => k_is)
    (case l19 => k_is)
    (case c19 => k_is)
    (case k19 => k_is)
    (case a20 => k_is)
    (case l20 => k_is)
    (case c20 => k_is)
    (case k20 => k_is)
    (case a21 => k_is)
    (case l21 => k_is)
    (case c21 => k_is)
    (case k21 => k_is)
    (case a22 => k_is)
    (case i22 => k_is)
    (case l22 => k_is)
    (case c22 => k_is)
    (case k22 => k_is)
    (case a23 => k_is)
    (case i23 => k_is)
    (case l23 => k_is)
    (case c23 => k_is)
    (case k23 => k_is)
    (case a24 => k_is)
    (case i24 => k_is)
    (case l24 => k_is)
    (case c24 => k_is)
    (case k24 => k_is)
    (case a25 => k_is)
    (case l25 => k_is)
    (case c25 => k_is)
    (case k25 => k_is)
    (case a26 => k_is)
    (case l26 => k_is)
    (case c26 => k_is)
    (case k26 => k_is)
    (case a27 => k_is)
    (case i27 => k_is)
    (case l27 => k_is)
    (case c27 => k_is)
    (case k27 => k_is)
    (case a28 => k_is)
    (case l28 => k_is)
    (case c28 => k_is)
    (case k28 => k_is)
    (case a29 => k_is)
    (case l29 => k_is)
    (case c29 => k_is)
    (case k29 => k_is)
    (case a30 => k_is)
    (case l30 => k_is)
    (case c30 => k_is)
    (case k30 => k_is)
    (case pg => k_is)
    (case hd => k_is)
    (case po => k_is)
    (case sa => k_is)
    (case mk => k_is)
    (case kc => k_is)
    (case n_names => k_is)
    (case n_cells => k_is)
    (case n_letters => k_is)
    (case n_text => k_is)
    (case n_places => k_is)
    (case n_arrows => k_is)
    (case n_led_to => k_is)
    (case isC => k_is)
    (case isG => k_is)
    (case isT => k_is)
    (case isM => k_is)
    (case neq => k_is)
    (case icl => k_is)
    (case tcl => k_is)
    (case s_str => k_is)
    (case f_str => k_is)
    (case s_int => k_is)
    (case f_int => k_is)
    (case s_tuple => k_is)
    (case f_tuple => k_is)
    (case z_isinstance => k_is)
    (case z_int => k_is)
    (case z_bool => k_is)
    (case z_str => k_is)
    (case z_len => k_is)
    (case z_tuple => k_is)
    (case z_dict => k_is)
    (case z_enumerate => k_is)
    (case z_range => k_is)
    (case z_divmod => k_is)
    (case z_abs => k_is)
    (case z_sorted => k_is)
    (case z_repr => k_is)
    (case z_all => k_is)
    (case z_max => k_is)
    (case z_min => k_is)
    (case g_LETTERS => k_is)
    (case g_FIGURES => k_is)
    (case g_END => k_is)
    (case g_LAST_PLACE => k_is)
    (case g_MOST_NAMES => k_is)
    (case g_MOST_CELLS => k_is)
