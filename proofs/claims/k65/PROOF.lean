import PyProof.Rows.All
import Wide.All
import OpenK.AllK
import Wide.FinOn
import PyProof.ReprRoads
import KE.KDictPairs
import KE.GoesMore
import HandS.Base
import HandS.Call
import HandS.List
import HandS.Comp
import HandS.Ends
import HandS.Dict
import HandS.Iter
import HandS.Text
import HandS.Words
import HandS.WordsList
import HandS.WordsDict
import HandS.FStr
import HandS.IsInst
import HandS.TupAny
import HandS.DictComp
import HandS.Defaults
import HandS.MakeKwOnly
import HandS.OwnEq
import KE.DatumOrd
import KE.KMathG
import OpenK.KMeth
import HandS.WideBits
import HandS.Gcd
import HandS.Deep
import KE.KExcIs
import HandS.Lambda
import HandS.ExcInit
import HandS.ExcField
import HandS.ExcOwn
import HandS.TryMany
import HandS.ExcIs
import HandS.WordsExc
import PyProof.CallFns
import HandS.Flow
import HandS.Style
import HandS.Wide
import PySem.Challenge.RW_arrowcells_k65_walkers_step_by_step
set_option Elab.async false
set_option linter.all false
set_option maxRecDepth 100000
set_option maxHeartbeats 16000000
/-! Own rules over the hand layer: tuples without a dict of their own, dict(tuple), enumerate(tuple), repr, keywords. -/
namespace Z
open PySem PySem.Spec PyProof.Rows L2

/-! ### tuples whose object is known to have no dict -/
def PObj (o : Obj) : Prop := o.cls = .type "tuple" ∧ o.dict = none ∧ ∃ (its : Array Value) (n : Nat), o.data = .seq its n
def PT (H : Hp) (a : Addr) (xs : List V) : Prop := ∃ o : Obj, H a = some (.frz o (.tup xs)) ∧ PObj o
def newT (H : Hp) (xs : List V) (Q : VK) : Prop := ∀ (p : Addr) (o : Obj), H p = none → PObj o → Q (.ref p) (upd H p (.frz o (.tup xs)))
theorem PT.sq {K : PySem.W.Frag} {H : Hp} {a : Addr} {xs : List V} (h : PT H a xs) : SqT K H a xs := by
  obtain ⟨o, e, _⟩ := h
  exact .inl (.inr ⟨o, e⟩)
theorem PT.new {H : Hp} {p : Addr} {o : Obj} {xs : List V} (ho : PObj o) : PT (upd H p (.frz o (.tup xs))) p xs := ⟨o, upd_same, ho⟩
theorem PT.same {H H' : Hp} {a : Addr} {xs : List V} (e : Same H H') (h : PT H a xs) : PT H' a xs := by
  obtain ⟨o, q, ho⟩ := h
  exact ⟨o, e _ _ q, ho⟩
section
variable {X : Cx} {pins : List (Addr × Obj)} {σ : L2.St} {H : Hp} {s : Shared}
theorem lay_tup {xs : List V} {its : List Value} {Q : VK} {t : Nat} (I : Inv X pins σ H s) (r : Vals xs its) (hz : xs.length ≤ sizeLine) (q : newT H xs Q) :
    EP X pins σ Q (.ref s.heap.objs.size) { s with heap := s.heap.push { cls := .type "tuple", data := .seq its.toArray }, toks := t } := by
  have hn := I.hok.fresh (Nat.le_refl _)
  have hp : PObj { cls := .type "tuple", data := .seq its.toArray } := ⟨rfl, rfl, _, _, rfl⟩
  refine ⟨.ref s.heap.objs.size, _, I.laid (t' := t) (o := .frz { cls := .type "tuple", data := .seq its.toArray } (.tup xs)) (fun b u e => Heap.get?_push_of_some _ e) (Nat.le_refl _) ?_, rfl, q _ _ hn hp⟩
  exact ⟨Heap.get?_push_size _ rfl, hz, its, r, _, Heap.get?_push_size _ rfl, rfl, _, rfl⟩
end
section
variable {X : Cx} {es : List Expr} {t : TA} {pos : Pos}
/-- (a, b): a tuple known to be plain -/
def tTupP (t : TA) : TE := fun σ H Q => t σ H fun xs H1 => xs.length ≤ sizeLine ∧ newT H1 xs Q
theorem pe_tupP {x1} (h : PA X es t) : PE X (.Tuple es x1 pos) (tTupP t) := by
  constructor
  intro pins s σ H Q I hq
  refine wpAny_Tuple_spliced (thn (h.run pos pins s σ H _ I hq) fun us s1 hv => ?_)
  obtain ⟨xs, H1, I1, r, z, q⟩ := hv
  exact ⟨by rw [← r.length]; exact z, lay_tup (t := s1.toks) I1 r z q⟩
/-- tuple(list) -/
def rTupP (K : PySem.W.Frag) : List V → Hp → VK → Prop := fun xs H Q => ∃ p ys, xs = [.ref p] ∧ SqL K H p ys ∧ newT H ys Q
theorem call_tupP : CallR X (.type "tuple") (rTupP X.K) := by
  intro pins s σ H xs us Q I r h
  obtain ⟨p, ys, rfl, hq, q⟩ := h
  obtain ⟨u, rfl, rx⟩ := vals1 r
  cases rx
  obtain ⟨its, r', pl, hz⟩ := I.list hq
  have hlen := r'.length
  refine call_tuple_list pl.isList (fun h' kp => ?_) (by rw [List.size_toArray]; omega)
  exact lay_tup (s := { s with heap := h' }) (t := s.toks) (I.kept (t' := s.toks) kp) r' hz q
/-- t + u -/
def rCatP (K : PySem.W.Frag) : R2 := fun x y H Q => ∃ a b xs ys, x = .ref a ∧ y = .ref b ∧ SqT K H a xs ∧ SqT K H b ys ∧ xs.length + ys.length ≤ sizeLine ∧
  (xs = [] → Q (.ref b) H) ∧ (xs ≠ [] → ys = [] → Q (.ref a) H) ∧ (xs ≠ [] → ys ≠ [] → newT H (xs ++ ys) Q)
theorem op_catP : OpR X (binaryOp .Add) (rCatP X.K) := by
  intro pins s σ H x y v u Q I rx ry h
  obtain ⟨a, b, xs, ys, ex, ey, ha, hb, hz, q0, q1, q2⟩ := h
  by_cases hx : xs = []
  · exact op_catA pins s σ H x y v u Q I rx ry ⟨a, b, xs, ys, ex, ey, ha, hb, hz, q0, q1, fun z => absurd hx z⟩
  · subst ex ey
    cases rx
    cases ry
    obtain ⟨its, r1, p1, _⟩ := I.tuple ha
    obtain ⟨its2, r2, p2, _⟩ := I.tuple hb
    have n1 : its ≠ [] := fun z => hx (r1.nil_iff.mp z)
    refine HT.cat_tup p1 p2 n1 (fun z => ?_) (fun z => ?_) ?_
    · exact ⟨.ref a, H, I, rfl, q1 hx (r2.nil_iff.mp z)⟩
    · have := lay_tup (t := s.toks) I (r1.append r2) (by rw [List.length_append]; exact hz) (q2 hx fun w => z (r2.nil_iff.mpr w))
      exact this
    · rw [← r1.length, ← r2.length]
      exact hz
/-- t[lo:hi] -/
def rSlP (K : PySem.W.Frag) : V → Option Int → Option Int → Hp → VK → Prop := fun x lo hi H Q => ∃ a xs, x = .ref a ∧ SqT K H a xs ∧
  (HT.sIx xs.length 0 lo = 0 ∧ HT.sIx xs.length xs.length hi = xs.length → Q (.ref a) H) ∧ (¬ (HT.sIx xs.length 0 lo = 0 ∧ HT.sIx xs.length xs.length hi = xs.length) → newT H (cutV xs lo hi) Q)
theorem sl_tupP : SlR X (rSlP X.K) := by
  intro pins s σ H x v vl vu lo hi sl Q I rx hs pl pu h
  obtain ⟨a, xs, ex, hx, q1, q2⟩ := h
  by_cases hw : HT.sIx xs.length 0 lo = 0 ∧ HT.sIx xs.length xs.length hi = xs.length
  · exact sl_tupA pins s σ H x v vl vu lo hi sl Q I rx hs pl pu ⟨a, xs, ex, hx, q1, fun z => absurd hw z⟩
  · subst ex
    cases rx
    obtain ⟨its, r, ht, hz⟩ := I.tuple hx
    have hlen : its.toArray.size = xs.length := (List.size_toArray ..).trans r.length.symm
    refine ⟨"tuple", _, PyProof.Rows.slot_tuple_getitem.lookup, ht.typeIs, HT.getItem_tuple_cut ht hs pl pu ?_ ?_ ?_⟩
    · rw [hlen]; exact hw
    · rw [hlen]
      have rr := (r.drop (HT.sIx xs.length 0 lo)).take (HT.sIx xs.length xs.length hi - HT.sIx xs.length 0 lo)
      exact lay_tup (xs := cutV xs lo hi) (t := s.toks) I rr (Nat.le_trans (cutV_length xs lo hi) hz) (q2 hw)
    · rw [hlen]; exact hz
end
end Z
namespace Z
open PySem PySem.Spec PyProof.Rows L2
/-! ### dict(t), t a tuple of pairs -/
section
variable {X : Cx} {pins : List (Addr × Obj)} {σ : L2.St} {H : Hp} {s : Shared}
theorem key_is {k : Key} {u : Value} (r : RelV (kV k) u) : keyIs k u = true := by
  cases k with
  | inl i => obtain ⟨t, rfl⟩ := (show ∃ t, u = Value.int i t from r); exact keyIs_int i t
  | inr x => obtain ⟨t, rfl⟩ := (show ∃ t, u = Value.str x t from r); exact keyIs_str x t
theorem pairs2 (I : Inv X pins σ H s) : ∀ {ps : List Addr} {kvs : List (Key × V)}, Paired (fun p kv => SqT X.K H p [kV kv.1, kv.2]) ps kvs →
    ∃ (ws : List (Value × Value)) (vs : List (Key × Value)), KV kvs vs ∧ ws.length = ps.length ∧ vs.length = ps.length ∧
      ∀ (j : Nat) (a b : Value), ws[j]? = some (a, b) → (∃ T, ps[j]? = some T ∧ s.heap.IsTuple T #[a, b]) ∧ ∃ k, vs[j]? = some (k, b) ∧ keyIs k a = true
  | _, _, .nil => ⟨[], [], .nil, rfl, rfl, fun j a b e => by simp at e⟩
  | _, _, .cons (a := p) (b := kv) h t => by
    obtain ⟨ws, vs, r, l1, l2, hp⟩ := pairs2 I t
    obtain ⟨its, rv, ht, _⟩ := I.tuple h
    obtain ⟨u, y, ei, ru, ry⟩ := vals2 rv
    subst ei
    refine ⟨(u, y) :: ws, (kv.1, y) :: vs, .cons ⟨rfl, ry⟩ r, by simp [l1], by simp [l2], fun j a b e => ?_⟩
    cases j with
    | zero =>
      have e' : (u, y) = (a, b) := Option.some.inj e
      cases e'
      exact ⟨⟨p, rfl, ht⟩, kv.1, rfl, key_is ru⟩
    | succ j => simpa using hp j a b (by simpa using e)
end
section
variable {X : Cx}
def rDictT (K : PySem.W.Frag) : List V → Hp → VK → Prop := fun xs H Q => ∃ (a : Addr) (ps : List Addr) (kvs : List (Key × V)), xs = [.ref a] ∧ PT H a (ps.map V.ref) ∧ Paired (fun p kv => SqT K H p [kV kv.1, kv.2]) ps kvs ∧
  ∀ p, H p = none → Q (.ref p) (upd H p (.dK (mergeK [] kvs)))
theorem call_dictT (hcalm : X.calm = true) : CallR X (.type "dict") (rDictT X.K) := by
  intro pins s σ H xs us Q I r q
  obtain ⟨a, ps, kvs, ex, hq, hp, q⟩ := q
  subst ex
  obtain ⟨u, eu, rx⟩ := vals1 r
  subst eu
  cases rx
  obtain ⟨its, rv, _, hz⟩ := I.tuple (hq.sq (K := X.K))
  have ei := refs_at rv
  subst ei
  rw [List.length_map] at hz
  obtain ⟨ws, vs, rel, l1, l2, hpr⟩ := pairs2 I hp
  obtain ⟨o, ho, hc, hd, its2, n, hdat⟩ := hq
  obtain ⟨hget, _, its3, rv3, o3, ho3, hc3, n3, hd3⟩ := (show ObjOk X.prog X.w H s.heap a (.frz o (.tup (ps.map V.ref))) from I.hok a _ ho)
  rw [hget] at ho3
  cases ho3
  have e3 := refs_at rv3
  subst e3
  have pl : PlainSeq "tuple" s.heap a (ps.map Value.ref).toArray := ⟨o, n3, hget, hc, hd, hd3⟩
  have pi : PairItems s.heap (ps.map Value.ref).toArray (fun j => ps.getD j 0) ws := by
    refine ⟨by simp [l1], fun j k v e => ?_⟩
    obtain ⟨⟨T, e1, e2⟩, _⟩ := hpr j k v e
    have e4 : ps.getD j 0 = T := by rw [List.getD_eq_getElem?_getD, e1]; rfl
    refine ⟨?_, .inl ?_⟩
    · simp [e1]
    · show s.heap.IsTuple (ps.getD j 0) #[k, v]
      rw [e4]; exact e2
  have hv : PairsHave (mixKind X.prog X.w) ws.length (PairRel ws) vs := by
    refine ⟨by rw [l1, l2], fun i key v e => ?_⟩
    obtain ⟨_, k, e1, e2⟩ := hpr i key v e
    exact ⟨k, e1, e2⟩
  refine PySem.call_dict_pairs (PairArg.tuple a (ps.map Value.ref).toArray (fun j => ps.getD j 0) ws) (I.ok.hd hcalm) ⟨pl, pi⟩ hv (by rw [l1]; exact hz) fun h' tk hd' k => ?_
  have hm : (s.heap.objs.size == sysModules) = false := beq_eq_false_iff_ne.mpr (Nat.ne_of_gt I.big)
  have hlen : (mergeK [] kvs).length ≤ sizeLine := by
    refine Nat.le_trans (length_mergeK kvs []) ?_
    rw [List.length_nil, Nat.zero_add, rel.length, l2]
    exact hz
  refine ⟨.ref s.heap.objs.size, upd H s.heap.objs.size (.dK (mergeK [] kvs)), ?_, rfl, q _ (I.hok.fresh (Nat.le_refl _))⟩
  refine I.laid (t' := tk) (fun b u e => k b u (by simp) e) (Nat.le_refl _) ?_
  exact ⟨hlen, hm, merged [] vs, KV.merge rel .nil, hd'⟩
end

/-! ### enumerate(t), t a tuple -/
open PySem.Builtin in
theorem meets_enum1 {v : Value} {o : Obj} {H : Heap → Prop} (B : Begins v o H) :
    Meets (Builtin.«enumerate.__new__» ⟨[.type "enumerate", v], []⟩) (fun _ R s => H s.heap ∧
      R (.ok (.ret (.ref (s.heap.push o).objs.size)))
        { s with heap := (s.heap.push o).push { cls := .type "enumerate", data := .fields #[.none, .bool false, .ref s.heap.objs.size, rawInt 0, .none, .none] } }) := by
  refine .of_wp fun prog w A R s h => ?_
  obtain ⟨hp, g, d, tk, os⟩ := s
  obtain ⟨h1, h⟩ := h
  have subE := sub_enumerate
  have q1 : ∀ {A' : Around} {E Q : Value → Shared → Prop}, Q (.ref hp.objs.size) ⟨hp.push o, g, d, tk, os⟩ → wpAny (model prog w) A' (pyIter v) Q E ⟨hp, g, d, tk, os⟩ := fun q => B.iter prog w _ _ ⟨hp, g, d, tk, os⟩ _ h1 q
  wp_walk using q1
  refine wpAny_stack_any fun st => wpAny_pure ?_
  split
  · rename_i c _ _ _ _ _
    cases (c == Value.type "enumerate") <;> (wp_walk using q1; exact ⟨_, rfl, h⟩)
  · wp_walk using q1
    exact ⟨_, rfl, h⟩
theorem call_enum_tuple {prog : Program} {w : World} {A : Around} {E : Value → Shared → Prop} {s : Shared} {t : Addr} {items : Array Value} {Q : Value → Shared → Prop} (hL : s.heap.IsTuple t items)
    (h : ∀ h', IsEnum h' (s.heap.objs.size + 1) s.heap.objs.size 0 .none → h'.IsTupleIter s.heap.objs.size t 0 → h'.objs.size = s.heap.objs.size + 2 →
      (∀ b o, s.heap.get? b = some o → h'.get? b = some o) → Q (.ref (s.heap.objs.size + 1)) { s with heap := h' }) :
    wpAny (model prog w) A (call (.type "enumerate") [.ref t]) Q E s := by
  refine callType_new F.called_enumerate (by decide) (F.typeCall_enumerate_1 _) (F.newCall_enumerate_1 _) (fun obj => F.args_object_init_2 obj _) F.entry_enumerate_new
    (meets_enum1 (begins_tuple t items)) ⟨hL, ?_⟩
  have hz : (s.heap.push { cls := .type "tuple_iterator", data := .fields #[.ref t, .int 0 0] }).objs.size = s.heap.objs.size + 1 := Heap.size_push ..
  show _ ∧ _
  rw [hz]
  have he : IsEnum ((s.heap.push { cls := .type "tuple_iterator", data := .fields #[.ref t, .int 0 0] }).push
      { cls := .type "enumerate", data := .fields #[.none, .bool false, .ref s.heap.objs.size, rawInt 0, .none, .none] }) (s.heap.objs.size + 1) s.heap.objs.size 0 .none := by
    have q := Heap.get?_push_size (s.heap.push { cls := .type "tuple_iterator", data := .fields #[.ref t, .int 0 0] })
      (o := { cls := .type "enumerate", data := .fields #[.none, .bool false, .ref s.heap.objs.size, rawInt 0, .none, .none] }) rfl
    rw [hz] at q
    exact q
  exact ⟨⟨_, he, rfl⟩, h _ he ⟨_, Heap.get?_push_of_some _ (Heap.get?_push_size _ rfl), rfl, rfl⟩ (by rw [Heap.size_push, hz]) fun b o x => Heap.get?_push_of_some _ (Heap.get?_push_of_some _ x)⟩
section
/-- the tuple at a, each item in a new pair with its place -/
def IteT (K : PySem.W.Frag) (a : Addr) : It :=
  ⟨fun i H => ∃ (xs : List V) (x : V), SqT K H a xs ∧ xs[i]? = some x,
   fun i H v H' => ∃ T x, v = .ref T ∧ H T = none ∧ H' = upd H T (.tup [.int (i : Nat), x]) ∧ ∀ xs, SqT K H a xs → xs[i]? = some x,
   fun i H => ∃ xs : List V, SqT K H a xs ∧ xs.length = i⟩
theorem turn_enumT {P : Program} {w : World} {K : PySem.W.Frag} {elts : List Expr} {kk : Nat} {tpos : Pos} (a e it : Addr) :
    Turn P w K (.Tuple elts kk tpos) (IteT K a) [e, it] e (fun i h => (∃ old, IsEnum h e it ((i : Nat) : Int) old) ∧ h.IsTupleIter it a i ∧ e ≠ it ∧ a ≠ it ∧ a ≠ e) := by
  refine ⟨by simp, fun i h st b hb => ?_, fun i h h' st k => ?_, ?_, ?_, ?_⟩
  · obtain ⟨⟨old, he⟩, ⟨o, ho, hc, hd⟩, _⟩ := st
    rcases (by simpa using hb : b = e ∨ b = it) with z | z
    · subst z; exact ⟨_, he, fun v q => nomatch q⟩
    · subst z; exact ⟨o, ho, fun v q => by rw [hd] at q; cases q⟩
  · obtain ⟨⟨old, he⟩, hi, hne⟩ := st
    exact ⟨⟨old, k e (by simp) _ he⟩, hi.at fun o q => k it (by simp) o q, hne⟩
  · intro X hP hw hK hc i pins s σ H E I hf st hg
    subst hP hw hK
    obtain ⟨⟨old, he⟩, hit, hne, hai, hae⟩ := st
    obtain ⟨xs, x, hq, hx⟩ := hg
    obtain ⟨its, rv, p, hz⟩ := I.tuple hq
    obtain ⟨u, hu, ru⟩ := rv.get hx
    have hel : e < s.heap.objs.size := Heap.lt_size he
    have hil : it < s.heap.objs.size := by obtain ⟨_, q, _⟩ := hit; exact Heap.lt_size q
    have D := Draws.tuple (prog := X.prog) (w := X.w) (A := X.A.in1) (I.ok.hd hc) it a hai its.toArray
    have hlt : i < its.toArray.size := by
      have := (List.getElem?_eq_some_iff.mp hu).1
      simpa using this
    refine wpAny_pyNext_enum_itemD D he ⟨hit, p⟩ hlt hne (by simp [hne, Ne.symm hae]) fun x' h' tk hP ho hst hT hsz hk => ?_
    have ex : x' = u := by
      have q : its.toArray[i]? = some x' := hP
      have q2 : its.toArray[i]? = some u := by simpa using hu
      rw [q2] at q
      exact (Option.some.inj q).symm
    subst ex
    refine ⟨_, rfl, wpAny_letOwnedTupleGo_enum (s := { s with heap := h', toks := tk + 1 }) ho fun h'' he' sb => ?_⟩
    have hT2 : h''.get? s.heap.objs.size = some { cls := .type "tuple", data := .seq #[.int i tk, x'] } := (sb.2 _ (Nat.ne_of_gt hel)).trans hT
    have new : ObjOk X.prog X.w (upd H s.heap.objs.size (.tup [.int (i : Nat), x])) h'' s.heap.objs.size (.tup [.int (i : Nat), x]) := by
      refine ⟨by show 2 ≤ sizeLine; decide, [.int i tk, x'], .cons ⟨_, rfl⟩ (.cons ru .nil), ?_⟩
      exact ⟨_, hT2, rfl, _, rfl⟩
    have I1 : Inv X pins σ (upd H s.heap.objs.size (.tup [.int (i : Nat), x])) { s with heap := h'', toks := tk + 1 } := by
      refine I.turnedNew (ch := [e, it]) (fun b ob hb q => ?_) hf (Nat.le_refl _) new
      have nb : b ≠ e := fun z => hb (by simp [z])
      exact (sb.2 b nb).trans (hk b ob nb (fun z => hb (by simp [z])) q)
    refine ⟨.ref s.heap.objs.size, _, I1, rfl, ⟨_, x, rfl, I.hok.fresh (Nat.le_refl _), rfl, fun ys hy => by rw [I.tuple_inj hy hq]; exact hx⟩, ⟨⟨x', ?_⟩, hst.1.at fun o q => (sb.2 it (Ne.symm hne)).trans q, hne, hai, hae⟩, fun b hb => ?_⟩
    · have e1 : ((i + 1 : Nat) : Int) = (i : Int) + 1 := by omega
      rw [e1]
      exact he'
    · have hb' : b < s.heap.objs.size := by
        rcases (by simpa using hb : b = e ∨ b = it) with z | z
        · exact z ▸ hel
        · exact z ▸ hil
      rw [upd_ne (Nat.ne_of_lt hb')]
      exact (hf b hb).1
  · intro X hP hw hK hc i pins s σ H E I hf st hg
    subst hP hw hK
    obtain ⟨⟨old, he⟩, hit, hne, hai, hae⟩ := st
    obtain ⟨xs, hq, hx⟩ := hg
    obtain ⟨its, rv, p, hz⟩ := I.tuple hq
    obtain ⟨f0, f1, f2, f3, f4, f5⟩ := hf it (by simp)
    have hl := rv.length
    have D := Draws.tuple (prog := X.prog) (w := X.w) (A := X.A.in1) (I.ok.hd hc) it a hai its.toArray
    have ei : its.toArray.size = i := by rw [List.size_toArray, ← hl]; exact hx
    exact wpAny_pyNext_enum_endD D he ⟨by rw [ei]; exact hit, p⟩ fun h' eb => ⟨rfl, I.turned (t' := s.toks) (fun b o hb q => eb b o hb q) f0 f1 f3 f4 f5⟩
  · intro A i s Q E st h
    obtain ⟨⟨_, he⟩, _⟩ := st
    exact wpAny_pyIter_enum he h
def iEnumT (K : PySem.W.Frag) (ta : TA) : TI := fun σ H R => ta σ H fun vs H1 => ∃ a xs, vs = [.ref a] ∧ SqT K H1 a xs ∧ R (IteT K a) H1
theorem pi_enumT {X : Cx} {e : Expr} {ta : TA} {p pos tpos : Pos} {elts : List Expr} {kk : Nat} (hg : Gl X "enumerate") (hm : X.mg "enumerate" = none) (ha : PA X [e] ta)
    (hs : starEach [e] X.env = [(false, eval e X.env)] := by rfl) : PI X (.Tuple elts kk tpos) (.Call (.Name "enumerate" p) [e] [] pos) (iEnumT X.K ta) := by
  constructor
  intro pins s σ H R I h
  refine Call_ (ld_blt I hg hm boot_enumerate (PyProof.Rows.callWith_type1 (thn (ha.run pos pins s σ H _ I h) fun us s1 hv => ?_) hs rfl))
  obtain ⟨vs, H1, I1, r1, a, xs, ex, hq, q⟩ := hv
  subst ex
  obtain ⟨u, eu, rx⟩ := vals1 r1
  subst eu
  cases rx
  obtain ⟨its, rv, p', hz⟩ := I1.tuple hq
  have hal : a < s1.heap.objs.size := p'.lt
  refine call_enum_tuple (items := its.toArray) p' fun h' he hit hsz hk => wpAny_pyIter_enum he ?_
  have I2 : Inv X pins σ H1 { s1 with heap := h' } := I1.kept (t' := s1.toks) hk
  have na : a ≠ s1.heap.objs.size := Nat.ne_of_lt hal
  have na2 : a ≠ s1.heap.objs.size + 1 := Nat.ne_of_lt (Nat.lt_succ_of_lt hal)
  refine ⟨s1.heap.objs.size + 1, [s1.heap.objs.size + 1, s1.heap.objs.size], _, _, H1, rfl, I2, turn_enumT a (s1.heap.objs.size + 1) s1.heap.objs.size, ⟨⟨.none, he⟩, hit, Nat.succ_ne_self _, na, na2⟩, fun b hb => ?_, q⟩
  have hle : s1.heap.objs.size ≤ b := by
    rcases (by simpa using hb : b = s1.heap.objs.size + 1 ∨ b = s1.heap.objs.size) with z | z
    · exact z ▸ Nat.le_succ _
    · exact z ▸ Nat.le_refl _
  exact I1.fpOk hle (I1.hok.fresh hle)
end
end Z
namespace Z
open PySem PySem.Spec PyProof.Rows L2
/-! ### defs that are called while no repr runs -/
structure FnG (P : Program) (w : World) (K : PySem.W.Frag) (mg : Str → Option Value) (base : Heap) (k : Nat) (f : Addr) (fd : FuncData) (ps : List Str) (sp : Sp) : Prop where
  len : ∀ vs H Q E, sp vs H Q E → vs.length = ps.length
  run : ∀ (A : Around) (outer : List Env) (s : Shared) (H : Hp) (args : Args) (us : List Value) (vs : List V) (Q : VK) (E : XK), Room k A → A.guards = some [] →
    Env0 P w K mg base A outer s H → BindsTo s fd args (ps.zip us) → Vals vs us → sp vs H Q E → codeAny (model P w) A (.call (.ref f) args) (CR CX0 outer P w H s Q E) s
theorem FnG.of {P : Program} {w : World} {K : PySem.W.Frag} {mg : Str → Option Value} {base : Heap} {k : Nat} {f : Addr} {fd : FuncData} {ps : List Str} {sp : Sp}
    (F : FnOk P w K mg base CX0 k f fd ps sp) : FnG P w K mg base k f fd ps sp :=
  ⟨F.len, fun A outer s H args us vs Q E hr _ => F.run A outer s H args us vs Q E hr⟩
section
variable {P : Program} {w : World} {K : PySem.W.Frag} {mg : Str → Option Value} {base : Heap}
theorem okG {x qual : Str} {st : Stmt} {f : Addr} {fd : FuncData} {N ps : List Str} {k : Nat} {sp : Sp} (F : Fun K x qual st f fd) (S : FnScope N ps (defScope st)) (len : ∀ vs H Q E, sp vs H Q E → vs.length = ps.length)
    (hbody : ∀ (cdv : Value) (A : Around) (outer : List Env) (s : Shared) (H : Hp) (vs : List V) (Q : VK) (E : XK), Room k (A.deeper (envOfC qual (defScope st) s.heap.objs.size f cdv)) →
      (A.deeper (envOfC qual (defScope st) s.heap.objs.size f cdv)).guards = some [] → sp vs H Q E →
      ∃ t, PSs (cxOf CX0 P w K mg base N qual (defScope st) f cdv A outer s H E).nox (defBody st) t ∧ t { nx := fun _ H' => Q .non H', rt := Q } (start N vs) H) : FnG P w K mg base (k + 1) f fd ps sp := by
  obtain ⟨oc, od, kV, doc, pm, an, cdv, ct, osl, rfl, lk, hcd⟩ := F.ex
  refine ⟨len, fun A outer s H args us vs Q E hr hgd e0 hb r hsp => ?_⟩
  have keepB : ∀ b o, base.get? b = some o → s.heap.get? b = some o := fun b o e => (e0.bs b o e).1
  have KX : K.In s.heap := e0.mod.kin.keeps keepB
  have lim : s.heap.NoLimit := e0.mod.nolimit.keeps keepB
  refine codeAny_call_function hr.depth (KX _ _ lk) rfl S.co S.gen rfl (PySem.W.codeRec_of KX hcd) (hb _ _ _ _ ?_)
  refine wpAny_newFunctionEnv_cells S.kind (fun y hy => ?_) fun env he s1 x => ?_
  · rcases S.par y.1 (List.of_mem_zip (a := y.1) (b := y.2) hy).1 with q | q
    · exact .inl q
    · exact .inr ⟨q, PySem.W.cellsFrom_some _ _ _ (.inl q)⟩
  subst he
  refine ⟨lim.keeps x.toInCall.keep, codeAny_func ?_⟩
  obtain ⟨t, ht, hq⟩ := hbody cdv A outer s H vs Q E (hr.deeper _) (by simpa [Around.deeper] using hgd) hsp
  have I0 := inv_start (CX := CX0) (E := E) (cd := cdv) (qual := qual) (f := f) (N := N) S hr.hd e0 (len _ _ _ _ hsp) r x
  refine wpAny_mono (ht.nox.run [] s1 (start N vs) H _ I0 hq) (fun fl s' hs => ?_) fun e s' hs => hs
  have fin : ∀ {σ' : L2.St} {H' : Hp} {v : V} {u : Value}, Inv (cxOf CX0 P w K mg base N qual (defScope st) f cdv A outer s H E) [] σ' H' s' → RelV v u → Q v H' → CE outer P w H s Q u s' :=
    fun J rv q => ⟨_, _, J.os, J.bare, J.base, J.hok, rv, q⟩
  match fl, hs with
  | .ret u, ⟨v, σ', H', J, rv, q⟩ => exact fin J rv q
  | .next, ⟨σ', H', J, q⟩ => exact fin (v := V.non) (u := Value.none) J rfl q
  | .brk, ⟨_, _, _, q⟩ => exact q.elim
  | .cont, ⟨_, _, _, q⟩ => exact q.elim
end
section
variable {X : Cx} {k : Nat} {f : Addr} {fd : FuncData} {ps : List Str} {sp : Sp} {E : XK} {x : Str} {p pos : Pos} {e : Expr} {es : List Expr} {t : TA}
theorem run_fnG {pins : List (Addr × Obj)} {σ : L2.St} {H : Hp} {s : Shared} {Q : VK} {us : List Value} {vs : List V} (F : FnG X.prog X.w X.K X.mg X.base k f fd ps sp) (hr : Room k X.A) (hgd : X.A.guards = some []) (hb : Binds X.K fd ps [])
    (I : Inv X pins σ H s) (r : Vals vs us) (h : sp vs H Q E) : wpAny (model X.prog X.w) X.A (call (.ref f) us) (EP X pins σ Q) X.xe s := by
  have hl : (us ++ []).length = ps.length := by rw [List.append_nil, ← r.length]; exact F.len _ _ _ _ h
  have hb' := hb s us I.kIn hl
  rw [List.append_nil] at hb'
  refine wpAny_call (codeAny_mono (F.run X.A X.stack s H ⟨us, []⟩ us vs Q E hr hgd I.env0 hb' r h) fun r s' hq => ?_)
  match r, hq with
  | .error e, hq => exact False.elim hq
  | .ok (.ret u), hq => exact I.after hq
  | .ok .next, hq => exact False.elim hq
  | .ok .brk, hq => exact False.elim hq
  | .ok .cont, hq => exact False.elim hq
/-- f(e, ..) -/
def tCallG (sp : Sp) (E : XK) (t : TA) : TE := fun σ H Q => t σ H fun vs H1 => sp vs H1 Q E
theorem pe_callG (F : FnG X.prog X.w X.K X.mg X.base k f fd ps sp) (hr : Room k X.A) (hgd : X.A.guards = some []) (hg : Gl X x) (hm : X.mg x = some (.ref f)) (hk : PySem.W.keepIn X.K (.ref f) = true) (hb : Binds X.K fd ps [])
    (ha : PA X (e :: es) t) (hdb : (x == ("__debug__" : Str)) = false := by decide) (he : starEach (e :: es) X.env = (false, eval e X.env) :: starEach es X.env := by rfl) (hpl : (backTo pos (starEach es X.env)).any (·.1) = false := by rfl) :
    PE X (.Call (.Name x p) (e :: es) [] pos) (tCallG sp E0 t) := by
  constructor
  intro pins s σ H Q I h
  refine wpAny_Call_Name_kw (ld_glob I hg hm ?_ hdb)
  refine PySem.W.callWith_K (h₀ := X.base) I.ok.mod.kin hk (thn (ha.run pos pins s σ H _ I h) fun us s1 hv => ?_) he hpl
  obtain ⟨vs, H1, I1, r, q⟩ := hv
  exact ⟨I1.kIn, run_fnG F hr hgd hb I1 r q⟩
/-! ### repr of a list or a tuple -/
def rRepr (K : PySem.W.Frag) : List V → Hp → VK → Prop := fun xs H Q => ∃ (a : Addr) (d : PyData), xs = [.ref a] ∧ Dp K H (.ref a) d ∧ d.showable = true ∧ d.hasDict = false ∧ d.depth ≤ 60 ∧ d.shown.length ≤ sizeLine ∧ Q (.str d.shown) H
theorem call_repr (hgd : X.A.guards = some []) (hu : X.A.units + 64 < cLine) : CallR X (.builtin "repr") (rRepr X.K) := by
  intro pins s σ H xs us Q I r h
  obtain ⟨a, d, ex, hd, sh, nd, dep, hz, q⟩ := h
  subst ex
  obtain ⟨u, eu, rx⟩ := vals1 r
  subst eu
  obtain ⟨as, rd⟩ := Dp.reads I d _ _ hd rx
  cases rx
  refine repr_of_reads' rd sh (fun z => by rw [nd] at z; cases z) hgd (by omega) (fun _ _ e => e) (fun h' t tk hk => ?_) hz
  exact ⟨.str d.shown, H, I.kept (t' := tk) hk, ⟨t, rfl⟩, q⟩
end
end Z
namespace Z
open PySem PySem.Spec PyProof.Rows L2
open PySem.W (Frag findIn isFn mroIn notFirst InstAt Looks looks_findIn looks_mroIn looks_subIn ifBound_K)
section
variable {prog : Program} {w : World} {A : Around} {E : Value → Shared → Prop} {s : Shared} {K : Frag} {x C L f : Addr} {h₀ : Heap} {m : Str → Option Value} {ox : Obj} {od : Option Obj} {b tb : Value}
theorem ne_builtin {Q : Fin → Shared → Prop} (hu : A.units < cLine) (X : K.In s.heap) (I : InstAt s.heap x ox C od) (hs : findIn K (.ref C) "__eq__" = some (some (.ref f))) (hf : isFn K (.ref f) = true)
    (h : wpAny (model prog w) A (call (.ref f) [.ref x, b]) (fun v s' => ∃ c, v = .bool c ∧ Q (.done (.ret (.bool (!c)))) s') E s) :
    wpAny (model prog w) A (Builtin.«object.__ne__» ⟨[.ref x, b], []⟩) Q E s := by
  unfold Builtin.«object.__ne__»
  refine wpAny_bind (wpAny_pure ?_)
  refine wpAny_bind (wpAny_cRoomFor hu ?_)
  refine wpAny_bind (m := callSpecialIfBound? (.ref x) (Str.ofString "__eq__") [b]) (ifBound_K X I hs hf (wpAny_mono h (fun r s' hr => ?_) fun _ _ y => y))
  obtain ⟨c, rfl, hq⟩ := hr
  exact wpAny_bind (wpAny_truthy_bool (wpAny_pure hq))
theorem isObj {M : Model} {h : Heap} (X : K.In h) (I : InstAt h x ox C od) (hm : mroIn K C (.type "object") = some true) : Looks M h (isInstance (.ref x) (.type "object")) true := by
  exact (I.type).andThen (looks_mroIn X hm)
theorem try_ne {Q : Option Value → Shared → Prop} (hu : A.units + 1 < cLine) (X : K.In s.heap) (I : InstAt s.heap x ox C od) (hs : findIn K (.ref C) "__eq__" = some (some (.ref f))) (hf : isFn K (.ref f) = true)
    (hne : findIn K (.ref C) "__ne__" = some (some (.builtin "object.__ne__"))) (hm : mroIn K C (.type "object") = some true)
    (h : wpAny (model prog w) A.in1 (call (.ref f) [.ref x, b]) (fun v s' => ∃ c, v = .bool c ∧ Q (some (.bool (!c))) s') E s) :
    wpAny (model prog w) A (tryCompare (.ref x) "__ne__" b) Q E s := by
  have FN : Slot "object" "__ne__" "object.__ne__" := PySem.F.cmp_object.ne
  have goal : wpAny (model prog w) A (call (.builtin "object.__ne__") [.ref x, b]) (fun v s' => ∃ c, v = .bool c ∧ Q (some v) s') E s := by
    refine wpAny_call (codeAny_call_builtin FN.plain PySem.F.cmpEntry_ne (PySem.W.check_slot PySem.F.cmpKind_ne PySem.F.cmpSplit_ne (isObj X I hm) (PySem.F.cmpArgs_ne _ _) ?_))
    refine ne_builtin (A := A.in1) hu X I hs hf (wpAny_mono h (fun v s' hv => ?_) fun _ _ e => e)
    obtain ⟨c, rfl, hq⟩ := hv
    exact ⟨c, rfl, !c, rfl, hq⟩
  have fin : wpAny (model prog w) A (call (.builtin "object.__ne__") ([.ref x] ++ [b]) >>= fun v => pure (some v)) (fun r s' => ∃ c, r = some (.bool c) ∧ Q r s') E s := by
    refine wpAny_bind (wpAny_mono goal (fun v s' hv => ?_) fun _ _ e => e)
    obtain ⟨c, rfl, hq⟩ := hv
    exact wpAny_pure ⟨c, rfl, hq⟩
  have key : wpAny (model prog w) A (callSpecialIfBound? (.ref x) "__ne__" [b]) (fun r s' => ∃ c, r = some (.bool c) ∧ Q r s') E s := by
    simp only [callSpecialIfBound?, bindSpecialIfBound?]
    refine wpAny_holding (wpAny_bind (wpAny_bind (wpAny_bind (I.type.here ((looks_findIn X hne).here ?_)))))
    simp only [FN.bind]
    refine wpAny_bind (wpAny_askSetting (wpAny_ite ?_))
    split
    · exact wpAny_bind (wpAny_pure (wpAny_pure fin))
    · exact wpAny_tryCatch (wpAny_bind (wpAny_pure (wpAny_pure fin)))
  unfold tryCompare
  refine wpAny_bind (wpAny_mono key (fun r s' hr => ?_) fun _ _ e => e)
  obtain ⟨c, rfl, hq⟩ := hr
  exact wpAny_pure hq
theorem rich_ne {Q : Value → Shared → Prop} (hu : A.units + 1 < cLine) (X : K.In s.heap) (I : InstAt s.heap x ox C od) (hb : Looks (model prog w) s.heap (typeOf b) tb) (hn : notFirst K C tb = true)
    (hs : findIn K (.ref C) "__eq__" = some (some (.ref f))) (hf : isFn K (.ref f) = true) (hne : findIn K (.ref C) "__ne__" = some (some (.builtin "object.__ne__"))) (hm : mroIn K C (.type "object") = some true)
    (h : wpAny (model prog w) A.in1 (call (.ref f) [.ref x, b]) (fun v s' => ∃ c, v = .bool c ∧ Q (.bool (!c)) s') E s) : wpAny (model prog w) A (richCompare .NotEq (.ref x) b) Q E s := by
  have one : wpAny (model prog w) A (tryCompare (.ref x) "__ne__" b) (fun r s' => ∃ v, r = some v ∧ Q v s') E s := by
    refine try_ne hu X I hs hf hne hm (wpAny_mono h (fun v s' hv => ?_) fun _ _ e => e)
    obtain ⟨c, rfl, hq⟩ := hv
    exact ⟨c, rfl, _, rfl, hq⟩
  unfold richCompare
  simp only [oneThing_ref, cmpInfo_NotEq]
  refine wpAny_holding (wpAny_bind (wpAny_cRoomFor (by omega) ?_))
  refine wpAny_bind (I.type.here (wpAny_bind (hb.here ?_)))
  by_cases q : (Value.ref C != tb) = true
  · rw [if_pos q]
    have e : PySem.W.subIn K tb (.ref C) = some false := by
      rcases Bool.or_eq_true_iff.mp hn with e | e
      · rw [eq_of_beq e] at q; simp at q
      · exact eq_of_beq e
    refine wpAny_bind ((looks_subIn X e).here ?_)
    simp only [Bool.false_eq_true, if_false]
    refine wpAny_bind (wpAny_mono one (fun r s' z => ?_) fun _ _ e => e)
    obtain ⟨v, rfl, hq⟩ := z
    exact wpAny_pure hq
  · rw [if_neg q]
    refine wpAny_bind (wpAny_pure ?_)
    simp only [Bool.false_eq_true, if_false]
    refine wpAny_bind (wpAny_mono one (fun r s' z => ?_) fun _ _ e => e)
    obtain ⟨v, rfl, hq⟩ := z
    exact wpAny_pure hq
end
/-! ### == and != of an own class with an __eq__ of its own -/
/-- the class's facts -/
structure OwnEq (K : Frag) (C f : Addr) (fd : FuncData) : Prop where
  eq : findIn K (.ref C) "__eq__" = some (some (.ref f))
  fn : isFn K (.ref f) = true
  ne : findIn K (.ref C) "__ne__" = some (some (.builtin "object.__ne__"))
  top : mroIn K C (.type "object") = some true
  bd : Binds K fd ["self", "other"] []
/-- the right side's type, as the comparison asks it -/
inductive RightOf (K : Frag) (C : Addr) (H : Hp) : V → Prop where
  | int (i : Int) (h : notFirst K C (.type "int") = true) : RightOf K C H (.int i)
  | str (x : Str) (h : notFirst K C (.type "str") = true) : RightOf K C H (.str x)
  | tup {a : Addr} {xs : List V} (e : SqT K H a xs) (h : notFirst K C (.type "tuple") = true) : RightOf K C H (.ref a)
  | ins {a dx : Addr} {fs : List (Str × V)} (e : H a = some (.ins C dx fs)) : RightOf K C H (.ref a)
section
variable {X : Cx} {k : Nat} {C f : Addr} {fd : FuncData} {sp : Sp}
theorem RightOf.look {pins : List (Addr × Obj)} {σ : L2.St} {H : Hp} {s : Shared} {v : V} {u : Value} (I : Inv X pins σ H s) (r : RightOf X.K C H v) (ru : RelV v u) :
    ∃ tb, Looks (model X.prog X.w) s.heap (typeOf u) tb ∧ notFirst X.K C tb = true := by
  cases r with
  | int i h => obtain ⟨t, rfl⟩ := (show ∃ t, u = Value.int i t from ru); exact ⟨_, Looks.of_pure rfl, h⟩
  | str x h => obtain ⟨t, rfl⟩ := (show ∃ t, u = Value.str x t from ru); exact ⟨_, Looks.of_pure rfl, h⟩
  | @tup a xs e h =>
    cases (show u = Value.ref a from ru)
    obtain ⟨its, _, ⟨o, ho, hc, _⟩, _⟩ := I.tuple e
    exact ⟨.type "tuple", fun A Q E s' kp q => wpAny_typeOf ⟨o, kp _ _ ho, hc⟩ q, h⟩
  | @ins a dx fs e =>
    cases (show u = Value.ref a from ru)
    obtain ⟨mA, J, _⟩ := ins_get I.hok e
    obtain ⟨od, J, _⟩ := J.look
    exact ⟨.ref C, J.type, by simp [notFirst]⟩
/-- what stands for the comparison's wish: a bool comes -/
def rOwnC (C : Addr) (sp : Sp) (g : Bool → Bool) (K : Frag) : R2 := fun x y H Q => ∃ a dx fs, x = .ref a ∧ H a = some (.ins C dx fs) ∧ RightOf K C H y ∧ sp [x, y] H (fun v H' => ∃ c, v = .bl c ∧ Q (.bl (g c)) H') E0
theorem op_ownEq (F : FnOk X.prog X.w X.K X.mg X.base CX0 k f fd ["self", "other"] sp) (O : OwnEq X.K C f fd) (hr : Room k X.A) : OpR X (compareOp .Eq) (rOwnC C sp id X.K) := by
  intro pins s σ H x y v u Q I rx ry h
  obtain ⟨a, dx, fs, rfl, ha, hy, hsp⟩ := h
  cases rx
  obtain ⟨mA, J, _⟩ := ins_get I.hok ha
  obtain ⟨od, J, _⟩ := J.look
  obtain ⟨tb, hb, hn⟩ := hy.look I ry
  obtain ⟨m, hF⟩ := I.fr
  show wpAny (model X.prog X.w) X.A (richCompare .Eq (.ref a) u) (EP X pins σ Q) X.xe s
  refine PySem.W.cmp_K (op := .Eq) hr.units0 hF I.ok.mod.kin J hb hn O.eq O.fn ?_
  refine wpAny_mono (run_fn (dvs := []) (ds := []) (Q := fun v H' => ∃ c, v = .bl c ∧ Q (.bl (id c)) H') (vs := [.ref a, y]) (us := [.ref a, u]) F hr O.bd .nil pass0 I (.cons rfl (.cons ry .nil)) (by simpa using hsp)) (fun v s' hv => ?_) fun _ _ e => e
  obtain ⟨z, H', I', rz, c, rfl, q⟩ := hv
  cases (show v = Value.bool c from rz)
  exact ⟨.bl c, H', I', rfl, q⟩
theorem run_fn_in1 {pins : List (Addr × Obj)} {σ : L2.St} {H : Hp} {s : Shared} {Q : VK} {us : List Value} {vs : List V} {ps : List Str} (F : FnOk X.prog X.w X.K X.mg X.base CX0 k f fd ps sp) (hr : Room (k + 1) X.A) (hb : Binds X.K fd ps [])
    (I : Inv X pins σ H s) (r : Vals vs us) (h : sp vs H Q E0) : wpAny (model X.prog X.w) X.A.in1 (call (.ref f) us) (EP X pins σ Q) X.xe s := by
  have hl : (us ++ []).length = ps.length := by rw [List.append_nil, ← r.length]; exact F.len _ _ _ _ h
  have hb' := hb s us I.kIn hl
  rw [List.append_nil] at hb'
  refine wpAny_call (codeAny_mono (F.run X.A.in1 X.stack s H ⟨us, []⟩ us vs Q E0 hr.in1 I.env0.in1 hb' r h) fun r s' hq => ?_)
  match r, hq with
  | .error e, hq => exact False.elim hq
  | .ok (.ret u), hq => exact I.after hq
  | .ok .next, hq => exact False.elim hq
  | .ok .brk, hq => exact False.elim hq
  | .ok .cont, hq => exact False.elim hq
theorem op_ownNe (F : FnOk X.prog X.w X.K X.mg X.base CX0 k f fd ["self", "other"] sp) (O : OwnEq X.K C f fd) (hr : Room (k + 1) X.A) : OpR X (compareOp .NotEq) (rOwnC C sp (fun c => !c) X.K) := by
  intro pins s σ H x y v u Q I rx ry h
  obtain ⟨a, dx, fs, rfl, ha, hy, hsp⟩ := h
  cases rx
  obtain ⟨mA, J, _⟩ := ins_get I.hok ha
  obtain ⟨od, J, _⟩ := J.look
  obtain ⟨tb, hb, hn⟩ := hy.look I ry
  show wpAny (model X.prog X.w) X.A (richCompare .NotEq (.ref a) u) (EP X pins σ Q) X.xe s
  refine rich_ne (by have := hr.un; omega) I.kIn J hb hn O.eq O.fn O.ne O.top ?_
  refine wpAny_mono (run_fn_in1 (Q := fun v H' => ∃ c, v = .bl c ∧ Q (.bl (!c)) H') (vs := [.ref a, y]) (us := [.ref a, u]) F hr O.bd I (.cons rfl (.cons ry .nil)) hsp) (fun v s' hv => ?_) fun _ _ e => e
  obtain ⟨z, H', I', rz, c, rfl, q⟩ := hv
  cases (show v = Value.bool c from rz)
  exact ⟨c, rfl, .bl (!c), H', I', rfl, q⟩
end
/-! ### calls by keywords alone -/
theorem kbn_of {K : Frag} {fd : FuncData} {ps ks : List Str} {n : Nat} (g : {α : Type} → List α → List α → List α) (hrel : ∀ {vs zs : List V} {us ws : List Value}, Vals vs us → Vals zs ws → Vals (g vs zs) (g us ws))
    (h : ∀ us ws : List Value, us.length = n → ws.length = ks.length → bindArgs fd ⟨us, ks.zip ws⟩ = pure (ps.zip (g us ws))) : KBn K fd ps n ks (fun us ws => g us ws) (fun vs zs => g vs zs) :=
  ⟨fun _ us ws _ h1 h2 => .of_eq (h us ws h1 h2), hrel⟩
section
variable {X : Cx} {CX : CXT} {k n : Nat} {f C : Addr} {fd : FuncData} {ps ks : List Str} {sp : Sp} {E : XK} {x m : Str} {p pos apos : Pos} {o : Expr} {kws : List Keyword} {ta : TE} {tk : TA} {g : List Value → List Value → List Value} {gV : List V → List V → List V}
/-- f(k = v, ..) -/
theorem pe_callN0 (F : FnOk X.prog X.w X.K X.mg X.base CX k f fd ps sp) (hr : Room k X.A) (hg : Gl X x) (hm : X.mg x = some (.ref f)) (hk : PySem.W.keepIn X.K (.ref f) = true) (hb : KBn X.K fd ps 0 ks g gV) (hx : Passes CX X E) (hkw : PK X kws tk)
    (hall : (backToKw pos (keywordEach kws X.env)).all (·.1.isSome) = true := by rfl) (hks : (backToKw pos (keywordEach kws X.env)).filterMap (·.1) = ks := by rfl)
    (hdb : (x == ("__debug__" : Str)) = false := by decide) (hpl : ((backTo pos (starEach [] X.env)).any (·.1) || (backToKw pos (keywordEach kws X.env)).any (·.1.isNone)) = false := by rfl) :
    PE X (.Call (.Name x p) [] kws pos) (tCallN 0 ks.length sp gV E tNil tk) := by
  constructor
  intro pins s σ H Q I h
  refine wpAny_Call_Name_kw (ld_glob I hg hm ?_ hdb)
  refine PySem.W.callWith_KW0 (h₀ := X.base) I.ok.mod.kin hk hall (thn (hkw.run pos pins s σ H _ I h) fun ws s2 hv => ?_) hpl
  obtain ⟨zs, H2, I2, rz, l1, l2, q2⟩ := hv
  refine ⟨I2.kIn, ?_⟩
  rw [hks]
  exact run_fnN (us := []) (vs := []) F hr hb hx I2 .nil rz rfl l2 q2
/-- o.m(k = v, ..) -/
def tMethN (C : Addr) (m : Str) (n : Nat) (sp : Sp) (gV : List V → List V → List V) (E : XK) (ta : TE) (tk : TA) : TE := fun σ H Q => ta σ H fun x H1 => ∃ a dx fs, x = .ref a ∧ H1 a = some (.ins C dx fs) ∧ fs.lookup m = none ∧
  tk σ H1 fun zs H2 => zs.length = n ∧ sp (gV [x] zs) H2 Q E
theorem pe_methN0 {pl : Sem Bool} (he : PE X o ta) (c : Cls X.K C) (hm : Meth X.K C m f) (F : FnOk X.prog X.w X.K X.mg X.base CX k f fd ps sp) (hr : Room k X.A) (hb : KBn X.K fd ps 1 ks g gV) (hx : Passes CX X E) (hkw : PK X kws tk)
    (hall : (backToKw pos (keywordEach kws X.env)).all (·.1.isSome) = true := by rfl) (hks : (backToKw pos (keywordEach kws X.env)).filterMap (·.1) = ks := by rfl)
    (hpl : ((backTo pos (starEach [] X.env)).any (·.1) || (backToKw pos (keywordEach kws X.env)).any (·.1.isNone)) = false := by rfl)
    (ht : eval (.Call (.Attribute o m apos) [] kws pos) X.env = (do
      let ov ← eval o X.env
      standAt apos.atName
      let (f, first) ← holding [ov] (getMethod ov m pl)
      callWith pos f first (backTo pos (starEach [] X.env)) (backToKw pos (keywordEach kws X.env))) := by rfl) :
    PE X (.Call (.Attribute o m apos) [] kws pos) (tMethN C m ks.length sp gV E ta tk) := by
  constructor
  intro pins s σ H Q I h
  refine PySem.W.methodCall_KW (pl := pl) (thn (he.run pins s σ H _ I h) fun u s1 hv => ?_) ht
  obtain ⟨x, H1, I1, rx, a, dx, fs, ex, ea, l, q⟩ := hv
  subst ex
  obtain rfl : u = Value.ref a := rx
  refine getmeth_ok I1 ea c hm l ?_
  refine PySem.W.callWith_KW0 (first := [.ref a]) (h₀ := X.base) I1.ok.mod.kin hm.kp hall (thn (hkw.run pos pins s1 σ H1 _ I1 q) fun ws s2 hv => ?_) hpl
  obtain ⟨zs, H2, I2, rz, l2, q2⟩ := hv
  refine ⟨I2.kIn, ?_⟩
  rw [hks]
  exact run_fnN (n := 1) (us := [.ref a]) (vs := [.ref a]) F hr hb hx I2 (.cons rfl .nil) rz rfl (by simpa using l2) q2
end
end Z
namespace Z
open PySem PySem.Spec PyProof.Rows L2
/-! ### the law's end, for a law that is called while no repr runs -/
theorem law_callG {P : Program} {w : World} {K : PySem.W.Frag} {mg mb : Str → Option Value} {k : Nat} {fa a : Addr} {fd : FuncData} {x : Str} {sp : Sp} {s₁ : Shared} {vs : List Value} {ns : List Int}
    (KX : K.In s₁.heap) (hns : s₁.heap.Ns mainGlobals mg) (hb : s₁.heap.Ns builtinsNs mb) (hbb : ∀ x : Str, x ≠ "__name__" → mb x = bootBuiltins x) (hlim : s₁.heap.NoLimit) (hg : s₁.gens = #[])
    (ha : s₁.heap.get? a = some { cls := .type "list", data := .seq vs.toArray }) (hi : IntsAre vs ns) (hl : ns.length ≤ sizeLine) (hr : Room k callerA)
    (F : ∀ base : Heap, K.In base → base.Ns mainGlobals mg → FnG P w K mg base k fa fd [x] sp) (hbind : ∀ (s : Shared) (u : Value), BindsTo s fd ⟨[u], []⟩ [(x, u)])
    (hsp : ∀ H : Hp, Only H → SqL K H a (ns.map V.int) → sp [.ref a] H (fun v _ => v = .bl true) fun _ _ _ => False) :
    codeAny (model P w) callerA (.call (.ref fa) ⟨[.ref a], []⟩) (fun r s' => r = .ok (.ret (.bool true)) ∧ OldK s₁.heap s'.heap ∧ s'.os = s₁.os ∧ AllBare s'.gens) s₁ := by
  have rv := vals_ints hi
  have lenV := hi.length
  suffices core : ∀ H : Hp, Only H → SqL K H a (ns.map V.int) → HOk P w H s₁.heap → (∀ b, H b ≠ none → b = a) → (H a ≠ none → K.lookup a = none) →
      codeAny (model P w) callerA (.call (.ref fa) ⟨[.ref a], []⟩) (fun r s' => r = .ok (.ret (.bool true)) ∧ OldK s₁.heap s'.heap ∧ s'.os = s₁.os ∧ AllBare s'.gens) s₁ by
    cases hk : K.lookup a with
    | some o =>
      have e := KX a o hk
      rw [ha] at e
      cases e
      have none0 : ∀ (b : Addr) (u : HO), (fun _ => none : Hp) b = some u → False := fun b u z => by cases (show (none : Option HO) = some u from z)
      refine core (fun _ => none) (fun _ => .inl rfl) (.inr ⟨_, vs.toArray, _, hk, rfl, rfl, rfl, ?_, by simpa using rv⟩) (fun b u z => (none0 b u z).elim) (fun b z => absurd rfl z) fun z => absurd rfl z
      rw [List.size_toArray, lenV]
      exact hl
    | none =>
      let sc : HO := .frz { cls := .type "list", data := .seq vs.toArray } (.lst (ns.map V.int))
      refine core (fun b => if b = a then some sc else none) (fun b => ?_) (.inl (.inr ⟨{ cls := .type "list", data := .seq vs.toArray }, if_pos rfl⟩)) (fun b u z => ?_) (fun b z => ?_) fun _ => hk
      · by_cases e : b = a
        · exact .inr ⟨_, _, if_pos e⟩
        · exact .inl (if_neg e)
      · by_cases e : b = a
        · subst e
          have z' : some sc = some u := (if_pos rfl).symm.trans z
          cases z'
          exact ⟨ha, by rw [List.length_map]; exact hl, vs, _, rv, ha⟩
        · cases (if_neg e).symm.trans z
      · by_cases e : b = a
        · exact e
        · exact absurd (if_neg e) z
  intro H hO hS hok hA hK
  have isA : ∀ {b : Addr}, H b ≠ none → s₁.heap.get? b = some { cls := .type "list", data := .seq vs.toArray } := fun {b} z => by rw [hA b z]; exact ha
  have noD : ∀ {b : Addr} {o : Obj} {es : Array DictEntry} {ep : Nat}, s₁.heap.get? b = some o → o.data = .dict es ep → H b = none := fun {b o es ep} e d => by
    by_cases z : H b = none
    · exact z
    · rw [isA z] at e
      cases e
      cases (show Data.seq vs.toArray _ = Data.dict es ep from d)
  have nsK : ∀ {b : Addr} {m : Str → Option Value}, s₁.heap.Ns b m → (hidT s₁.heap H).Ns b m := fun n => by
    obtain ⟨o, es, ep, e, d, r⟩ := n
    exact ⟨o, es, ep, hidT_get e (noD e d), d, r⟩
  have hKb : K.In (hidT s₁.heap H) := fun b o e => hidT_get (KX b o e) (by
    by_cases z : H b = none
    · exact z
    · have eb := hA b z
      subst eb
      rw [hK z] at e
      cases e)
  have hM : Mod K mg (hidT s₁.heap H) := ⟨hKb, nsK hns, ⟨mb, nsK hb, hbb⟩, let ⟨mc, h1, h2⟩ := hlim; ⟨mc, nsK h1, h2⟩⟩
  have nil0 : ∀ b : Addr, b ∉ ([] : List Addr) := fun b => by simp
  have e0 : Env0 P w K mg (hidT s₁.heap H) callerA [] s₁ H := ⟨rfl, hM, fun b o e => of_hidT e, Nat.le_of_eq (hidT_size _ _), trivial, fun b hb => absurd hb (nil0 b), hok, .of_eq hg⟩
  refine codeAny_mono ((F _ hKb (nsK hns)).run callerA [] s₁ H ⟨[.ref a], []⟩ [.ref a] [.ref a] _ _ hr rfl e0 (hbind s₁ (.ref a)) (.cons rfl .nil) (hsp H hO hS)) fun r s' h => ?_
  match r, h with
  | .error e, h => exact False.elim h
  | .ok .next, h => exact False.elim h
  | .ok .brk, h => exact False.elim h
  | .ok .cont, h => exact False.elim h
  | .ok (.ret u), h =>
    obtain ⟨v, H', os, bare, un, hok', r', q⟩ := h
    cases (show v = .bl true from q)
    cases (show u = Value.bool true from r')
    refine ⟨rfl, OldK.of_keep fun b o e => ?_, os, bare⟩
    by_cases z : H b = none
    · exact un.keep b o e z (nil0 b) (by simp)
    · rcases hO b with y | ⟨ob, xs, y⟩
      · exact absurd y z
      · obtain ⟨e1, _⟩ := hok b _ y
        obtain ⟨e2, _⟩ := hok' b _ (un.frzs b ob _ y)
        rw [e] at e1
        cases e1
        exact e2
/-- the goal that k_head leaves, from the law's promise -/
theorem walkG {l : PySem.W.OpenLaw} {n k : Nat} {q : Program} {loose : List Str} {XP : (Str → Option Value) → Heap → Prop} {YP : World → Heap → Prop} {d : DefRec} {K : Params → PySem.W.Frag} {sp : World → Sp} {x : Str}
    (hn : l.most = some n) (hn2 : n ≤ sizeLine) (hdf : d.params.defaults = []) (hr : Room k callerA) (hY : ∀ (w : World) (h : Heap), YP w h → (K w.params).In h)
    (F : ∀ (w : World) (mg : Str → Option Value) (fa : Addr) (h : Heap), (K w.params).In h → h.Ns mainGlobals mg → mg d.name = some (.ref fa) →
      ∃ fd : FuncData, (∀ (s : Shared) (u : Value), BindsTo s fd ⟨[u], []⟩ [(x, u)]) ∧ ∀ base : Heap, (K w.params).In base → base.Ns mainGlobals mg → FnG l.prog w (K w.params) mg base k fa fd [x] (sp w))
    (hsp : ∀ (w : World) (H : Hp) (a : Addr) (ns : List Int), ns.length ≤ n → Only H → SqL (K w.params) H a (ns.map V.int) → sp w [.ref a] H (fun v _ => v = .bl true) fun _ _ _ => False) :
    PySem.W.WalkO q loose XP YP l.row.toRowW d [] (fun f vs => PySem.call f vs) := by
  refine Att.attach_call hn hdf fun w s₀ s₁ mg mb fa o pm cd doc a vs ns G Y ho hd hcd hmg hobj hints hlen hg => ?_
  have KX := hY w _ Y
  obtain ⟨fd, hb, hF⟩ := F w mg fa _ KX G.T.g hmg
  exact law_callG KX G.T.g G.T.b G.T.builtins G.T.nolimit hg hobj hints (Nat.le_trans hlen hn2) hr hF hb fun H hO hS => hsp w H a ns hlen hO hS
end Z
namespace Z
open PySem PySem.Spec PyProof.Rows L2
/-! ### name = {k: v for ..}: a local is set to a dict comprehension -/
def InBlk (X : Cx) (scope : Scope) (p : Cx → Prop) : Prop := ∀ s H C cl fp, p (X.blk s H scope (compEnvC scope cl C X.env) fp)
theorem sw_dict {k v : Expr} {cs : List Comprehension} {scope : Scope} {pos py : Pos} {y : Str} {l : Nat} {env : Env} (hk : env.scope.kind = .function) (hy : env.scope.names.lookup y = some .local)
    (hl : (py.line == pos.line) = true) (ha : (scope.names.any fun q => q.1 == y && (q.2 == .local || q.2 == .cell)) = false) : swapsWith (.DictComp k v cs scope pos) (some (.Name y py)) l env = pure true := by
  have e1 : env.kindOf y = some .local := hy
  have e2 : env.blockKind = .function := by
    unfold Env.blockKind
    rw [hk]
    rfl
  unfold swapsWith
  simp only [e1, e2, ha, hl, Expr.pos]
  rfl
theorem ps_setDc {X : Cx} {i : Nat} {y : Str} {py pos sp : Pos} {k v tg iter : Expr} {ifs : List Expr} {scope : Scope} {own : List (Str × Nat)} {wi : TI} {g : TG} {tt : TT} {tk tv : TE} (hc : X.calm = true) (hN : X.N.Nodup)
    (hy : X.N[i]? = some y) (yl : X.env.scope.names.lookup y = some .local) (sw : swapsWith (.DictComp k v [⟨tg, iter, ifs, 0⟩] scope pos) (some (.Name y py)) sp.line X.env = pure true) (hi : PI X tg iter wi)
    (ok : BlkOk X.N X.env.scope scope own) (bg : InBlk X scope fun Y => PG Y tg g) (bt : InBlk X scope fun Y => PTs Y ifs tt) (bk : InBlk X scope fun Y => PE Y k tk) (bv : InBlk X scope fun Y => PE Y v tv)
    (hs : ∀ x, foldedSetIterable iter X.env x = pure x := by intro _; rfl) : PS X (.Assign [.Name y py] (.DictComp k v [⟨tg, iter, ifs, 0⟩] scope pos) sp) (tAsg (tDc wi g tt tk tv (own.map (·.2))) (gName i)) := by
  constructor
  intro pins s σ H D I h
  rw [exec_Assign_Name_used _ _ _ _ sw]
  refine wpAny_bind (wpAny_standAt (wpAny_bind ?_))
  have q0 : tDc wi g tt tk tv (own.map (·.2)) σ H (fun z Hz => gName i z σ Hz D.nx) := h
  show wpAny _ X.A (do
    let _ ← comprehension (.DictComp k v [⟨tg, iter, ifs, 0⟩] scope pos) scope X.env (firstIterPos [⟨tg, iter, ifs, 0⟩] pos) newDict false (eval iter X.env) (some (assign (.Name y py) X.env))) _ _ s
  have core := dc_core (Qf := fun _ z => SP X pins D .next z) hc hN I hi ok bg bt bk bv hs q0 (use := some (assign (.Name y py) X.env)) (pos := pos) (pos' := firstIterPos [⟨tg, iter, ifs, 0⟩] pos)
  refine wpAny_bind (thn (core fun L C s' m H' J q hn f => ?_) fun _ _ z => wpAny_pure (wpAny_pure z))
  show wpAny _ _ (assign (.Name y py) X.env (.ref L)) _ _ _
  refine wpAny_assign_Name (store_ok2 (v := V.ref L) J hN hy (.inl yl) rfl (fun s2 J2 hb => ?_) (.inr yl))
  obtain ⟨a, sb, ha⟩ := hb
  obtain ⟨f0, f1, f2, f3, f4, f5⟩ := f
  have nC : C ≠ a := by
    rcases ha with z | z
    · rw [z]
      exact f1
    · exact fun e => f4 y a z e.symm
  exact ⟨m, hn.sameBut sb nC, fun h3 sb3 => ⟨_, H', J2.turned (t' := s2.toks) (fun b o hb e => (sb3.2 b hb).trans e) f0 f1 f3 f4 f5, q⟩⟩
end Z
namespace Z
open PySem PySem.Spec PyProof.Rows L2 PySem.W
/-! ### bits of whole numbers that are not below 0 -/
def blN (b : Nat) : Nat := if b = 0 then 0 else b.log2 + 1
section
variable {X : Cx}
theorem OpR.imp' {op : Value → Value → Sem Value} {r r' : R2} (h : OpR X op r) (k : ∀ x y H Q, r' x y H Q → r x y H Q) : OpR X op r' :=
  fun pins s σ H x y v u Q I rx ry q => h pins s σ H x y v u Q I rx ry (k x y H Q q)
theorem blN_lt (b : Nat) : b < 2 ^ blN b := by
  unfold blN
  split
  · omega
  · exact Nat.lt_log2_self
def rNN (g : Nat → Nat → Nat) : R2 := fun x y H Q => ∃ a b : Nat, x = .int (a : Int) ∧ y = .int (b : Int) ∧ Q (.int ((g a b : Nat) : Int)) H
theorem bitAnd_nat (a b : Nat) : Builtin.bitAnd (a : Int) (b : Int) = ((a &&& b : Nat) : Int) := by
  rw [bitAnd_pp (by omega) (by omega), Int.toNat_natCast, Int.toNat_natCast]
theorem op_andNN : OpR X (binaryOp .BitAnd) (rNN fun a b => a &&& b) := OpR.imp' op_and fun x y H Q ⟨a, b, h1, h2, q⟩ => ⟨a, b, h1, h2, by have e := bitAnd_nat a b; show Q (.int (Builtin.bitAnd (a : Int) (b : Int))) H; rw [e]; exact q⟩
theorem op_orNN : OpR X (binaryOp .BitOr) (rNN fun a b => a ||| b) := OpR.imp' op_or fun x y H Q ⟨a, b, h1, h2, q⟩ => ⟨a, b, h1, h2, by
  show Q (.int (Builtin.bitOr (a : Int) (b : Int))) H
  rw [Bits.bitOr_pp (by omega) (by omega), Int.toNat_natCast, Int.toNat_natCast]; exact q⟩
theorem op_xorNN : OpR X (binaryOp .BitXor) (rNN fun a b => a ^^^ b) := OpR.imp' op_xor fun x y H Q ⟨a, b, h1, h2, q⟩ => ⟨a, b, h1, h2, by
  show Q (.int (Builtin.bitXor (a : Int) (b : Int))) H
  rw [Bits.bitXor_pp (by omega) (by omega), Int.toNat_natCast, Int.toNat_natCast]; exact q⟩
theorem op_shrNN : OpR X (binaryOp .RShift) (rNN fun a b => a >>> b) := OpR.imp' op_shr fun x y H Q ⟨a, b, h1, h2, q⟩ => ⟨a, b, h1, h2, by omega, by
  show Q (.int ((a : Int) / 2 ^ (b : Int).toNat)) H
  rw [Int.toNat_natCast]
  have e : ((a : Int) / 2 ^ b) = ((a >>> b : Nat) : Int) := by rw [Nat.shiftRight_eq_div_pow]; simp
  rw [e]; exact q⟩
theorem op_shlNN : OpR X (binaryOp .LShift) (fun x y H Q => ∃ a b : Nat, x = .int (a : Int) ∧ y = .int (b : Int) ∧ (∃ n, a < 2 ^ n ∧ n + b ≤ 100000000) ∧ Q (.int ((a <<< b : Nat) : Int)) H) :=
  OpR.imp' op_shlW fun x y H Q ⟨a, b, h1, h2, ⟨n, hn, hs⟩, q⟩ => ⟨a, b, h1, h2, shl_ok (n := n) (by simpa using hn) (by omega), by
    show Q (.int ((a : Int) * 2 ^ (b : Int).toNat)) H
    rw [Int.toNat_natCast]
    have e : ((a : Int) * 2 ^ b) = ((a <<< b : Nat) : Int) := by rw [Nat.shiftLeft_eq]; simp
    rw [e]; exact q⟩
/-- a whole number as a truth value -/
theorem intBits_nat (a : Nat) : Builtin.Int.intBits (a : Int) = blN a := by
  unfold Builtin.Int.intBits blN
  simp
def tBitsN (to : TE) : TE := fun σ H Q => to σ H fun x H1 => ∃ a : Nat, x = .int (a : Int) ∧ Q (.int ((blN a : Nat) : Int)) H1
end
section
variable {X : Cx}
def tInt (t : TE) : TT := fun σ H Q => t σ H fun x H1 => ∃ i : Int, x = .int i ∧ Q (i != 0) H1
theorem pt_int {e : Expr} {t : TE} (h : PE X e t) (he : ∀ whole, isTrue e X.env whole = (do let v ← whole; standAt e.pos; holding [v] (truthy v)) := by intro _; rfl) : L2.PT X e (tInt t) := by
  refine ⟨fun pins s σ H Q I hw => ?_⟩
  refine isTrue_plain (thn (h.run pins s σ H _ I hw) fun v s1 hv => ?_) (he _)
  obtain ⟨x, H1, I1, r1, i, rfl, q⟩ := hv
  exact tru_ok pins s1 σ H1 (.int i) v Q I1 r1 ⟨_, rfl, q⟩
end
/-! ### math.lcm -/
section
variable {X : Cx}
def rLcm : List V → Hp → VK → Prop := fun vs H Q => ∃ a b : Nat, vs = [.int (a : Int), .int (b : Int)] ∧ a < 2 ^ 30 ∧ b < 2 ^ 30 ∧ Q (.int ((Nat.lcm a b : Nat) : Int)) H
theorem log2_lt {a n : Nat} (h : a < 2 ^ n) (hn : 0 < n) : a.log2 < n := by
  by_cases e : a = 0
  · subst e; simpa using hn
  · exact (Nat.log2_lt e).mpr h
theorem cr_lcm : CallR X (.builtin "math.lcm") rLcm := by
  intro pins s σ H vs us Q I r h
  obtain ⟨a, b, rfl, ha, hb, q⟩ := h
  obtain ⟨t, u, rfl⟩ := Vals.int2 r
  have le : Nat.lcm a b ≤ a * b := by
    unfold Nat.lcm
    exact Nat.div_le_self _ _
  have lt : a * b < 2 ^ 60 := by
    have := Nat.mul_le_mul (Nat.le_of_lt_succ (show a < (2 ^ 30 - 1) + 1 by omega)) (Nat.le_of_lt_succ (show b < (2 ^ 30 - 1) + 1 by omega))
    omega
  refine PySem.W.mg_lcm_v (c := ((Nat.lcm a b : Nat) : Int)) (by simp; omega) (by simp; omega) (by simp [Nat.lcm]) ?_ ⟨.int _, H, I.tok _, ⟨_, rfl⟩, q⟩
  rw [Int.natAbs_natCast, bitsLine_eq]
  have := log2_lt (a := Nat.lcm a b) (n := 60) (by omega) (by omega)
  omega
end
/-! ### min(t, default = ..), max(l, default = ..) -/
section
variable {X : Cx}
theorem hold_ints {h : Heap} : ∀ {ns : List Int} {its : List Value}, Vals (ns.map V.int) its → HoldAll h its ns
  | [], _, .nil => ⟨[], .nil⟩
  | n :: ns, _, .cons r t => by
    obtain ⟨u, rfl⟩ := (show ∃ t, _ = Value.int n t from r)
    obtain ⟨as, ra⟩ := hold_ints (h := h) t
    exact ⟨[] ++ as, .cons (.int n u) ra⟩
def headMin : List Int → V → V → Prop
  | [], d, v => v = d
  | n :: ns, _, v => v = .int (minOf n ns)
def headMax : List Int → V → V → Prop
  | [], d, v => v = d
  | n :: ns, _, v => v = .int (maxOf n ns)
theorem holds_int {h : Heap} {v : Value} {i : Int} (r : Holds h v i) : RelV (.int i) v := by
  obtain ⟨as, r⟩ := r
  cases r with
  | int i t => exact ⟨t, rfl⟩
/-- min(t, default = d), t a tuple of whole numbers -/
def tMinD (K : PySem.W.Frag) (ta tk : TA) : TE := fun σ H Q => ta σ H fun vs H1 => tk σ H1 fun zs H2 => ∃ (a : Addr) (ns : List Int) (d : V), vs = [.ref a] ∧ zs = [d] ∧ SqT K H2 a (ns.map V.int) ∧ ∀ v, headMin ns d v → Q v H2
theorem pe_minD {e : Expr} {kws : List Keyword} {ta tk : TA} {p pos : Pos} {k : Nat} (hcalm : X.calm = true) (hr : Room k X.A) (hg : Gl X "min") (hm : X.mg "min" = none) (ha : PA X [e] ta) (hkw : PK X kws tk)
    (he : backTo pos (starEach [e] X.env) = (false, eval e X.env) :: backTo pos (starEach [] X.env) := by rfl) (hpl : (backTo pos (starEach [e] X.env)).any (·.1) = false := by rfl)
    (hall : (backToKw pos (keywordEach kws X.env)).all (·.1.isSome) = true := by rfl) (hkn : (backToKw pos (keywordEach kws X.env)).any (·.1.isNone) = false := by rfl)
    (hks : (backToKw pos (keywordEach kws X.env)).filterMap (·.1) = [("default" : Str)] := by rfl) : PE X (.Call (.Name "min" p) [e] kws pos) (tMinD X.K ta tk) := by
  refine ⟨fun pins s σ H Q I h => ?_⟩
  refine wpAny_Call_Name_kw (ld_blt I hg hm (show bootBuiltins "min" = some (.builtin "min") by decide +kernel) ?_ (by decide) (by decide))
  refine callWith_kw (thn (ha.run pos pins s σ H _ I h) fun us s1 hv => ?_) he hpl hall hkn
  obtain ⟨vs, H1, I1, r1, q1⟩ := hv
  refine thn (hkw.run pos pins s1 σ H1 _ I1 q1) fun ws s2 hv2 => ?_
  obtain ⟨zs, H2, I2, r2, a, ns, d, ev, ez, ht, q⟩ := hv2
  subst ev ez
  obtain ⟨u, eu, rx⟩ := vals1 r1
  subst eu
  cases rx
  obtain ⟨z, ez, rz⟩ := vals1 r2
  subst ez
  rw [hks]
  obtain ⟨its, rv, ht', _⟩ := I2.tuple ht
  have hu := hr.un
  refine PySem.W.min_tuple_datum_default (xs := ns) (I2.ok.hd hcalm) ht' (by simpa using hold_ints rv) (by show X.A.units + 1 + 0 < cLine; omega) (fun e0 h' tk hk => ?_) fun y ys i v h' tk e1 hi hh hk => ?_
  · subst e0
    exact ⟨d, H2, I2.kept (t' := tk) hk, rz, q d rfl⟩
  · subst e1
    exact ⟨.int (minOf y ys), H2, I2.kept (t' := tk) hk, holds_int hh, q _ rfl⟩
def tMaxD (K : PySem.W.Frag) (ta tk : TA) : TE := fun σ H Q => ta σ H fun vs H1 => tk σ H1 fun zs H2 => ∃ (a : Addr) (ns : List Int) (d : V), vs = [.ref a] ∧ zs = [d] ∧ SqL K H2 a (ns.map V.int) ∧ ∀ v, headMax ns d v → Q v H2
theorem pe_maxD {e : Expr} {kws : List Keyword} {ta tk : TA} {p pos : Pos} {k : Nat} (hcalm : X.calm = true) (hr : Room k X.A) (hg : Gl X "max") (hm : X.mg "max" = none) (ha : PA X [e] ta) (hkw : PK X kws tk)
    (he : backTo pos (starEach [e] X.env) = (false, eval e X.env) :: backTo pos (starEach [] X.env) := by rfl) (hpl : (backTo pos (starEach [e] X.env)).any (·.1) = false := by rfl)
    (hall : (backToKw pos (keywordEach kws X.env)).all (·.1.isSome) = true := by rfl) (hkn : (backToKw pos (keywordEach kws X.env)).any (·.1.isNone) = false := by rfl)
    (hks : (backToKw pos (keywordEach kws X.env)).filterMap (·.1) = [("default" : Str)] := by rfl) : PE X (.Call (.Name "max" p) [e] kws pos) (tMaxD X.K ta tk) := by
  refine ⟨fun pins s σ H Q I h => ?_⟩
  refine wpAny_Call_Name_kw (ld_blt I hg hm (show bootBuiltins "max" = some (.builtin "max") by decide +kernel) ?_ (by decide) (by decide))
  refine callWith_kw (thn (ha.run pos pins s σ H _ I h) fun us s1 hv => ?_) he hpl hall hkn
  obtain ⟨vs, H1, I1, r1, q1⟩ := hv
  refine thn (hkw.run pos pins s1 σ H1 _ I1 q1) fun ws s2 hv2 => ?_
  obtain ⟨zs, H2, I2, r2, a, ns, d, ev, ez, ht, q⟩ := hv2
  subst ev ez
  obtain ⟨u, eu, rx⟩ := vals1 r1
  subst eu
  cases rx
  obtain ⟨z, ez, rz⟩ := vals1 r2
  subst ez
  rw [hks]
  obtain ⟨its, rv, ht', _⟩ := I2.list ht
  have hu := hr.un
  refine PySem.W.max_list_datum_default (xs := ns) (I2.ok.hd hcalm) ht'.isList (by simpa using hold_ints rv) (by show X.A.units + 1 + 0 < cLine; omega) (fun e0 h' tk hk => ?_) fun y ys i v h' tk e1 hi hh hk => ?_
  · subst e0
    exact ⟨d, H2, I2.kept (t' := tk) hk, rz, q d rfl⟩
  · subst e1
    exact ⟨.int (maxOf y ys), H2, I2.kept (t' := tk) hk, holds_int hh, q _ rfl⟩
end
/-! ### x in c, c an object with a __contains__ of its own -/
section
variable {X : Cx} {k : Nat} {C f : Addr} {fd : FuncData} {sp : Sp}
structure OwnIn (K : PySem.W.Frag) (C f : Addr) (fd : FuncData) (ps : List Str) : Prop where
  at_ : PySem.W.findIn K (.ref C) "__contains__" = some (some (.ref f))
  fn : PySem.W.isFn K (.ref f) = true
  bd : Binds K fd ps []
def rOwnIn (C : Addr) (sp : Sp) : R2 := fun x y H Q => ∃ a dx fs, y = .ref a ∧ H a = some (.ins C dx fs) ∧ sp [y, x] H (fun v H' => ∃ c, v = .bl c ∧ Q (.bl c) H') E0
theorem op_ownIn {ps : List Str} (F : FnOk X.prog X.w X.K X.mg X.base CX0 k f fd ps sp) (O : OwnIn X.K C f fd ps) (hr : Room k X.A) : OpR X (compareOp .In) (rOwnIn C sp) := by
  intro pins s σ H x y v u Q I rx ry h
  obtain ⟨a, dx, fs, rfl, ha, hsp⟩ := h
  cases ry
  obtain ⟨mA, J, _⟩ := ins_get I.hok ha
  obtain ⟨od, J, _⟩ := J.look
  obtain ⟨m, hF⟩ := I.fr
  refine PySem.W.in_K hF I.ok.mod.kin J O.at_ O.fn ?_
  refine wpAny_mono (run_fn (dvs := []) (ds := []) (Q := fun v H' => ∃ c, v = .bl c ∧ Q (.bl c) H') (vs := [.ref a, x]) (us := [.ref a, v]) F hr O.bd .nil pass0 I (.cons rfl (.cons rx .nil)) (by simpa using hsp)) (fun w s' hv => ?_) fun _ _ e => e
  obtain ⟨z, H', I', rz, c, rfl, q⟩ := hv
  cases (show w = Value.bool c from rz)
  exact wpAny_truthy_bool ⟨.bl c, H', I', rfl, q⟩
end
end Z
namespace Z
open PySem PySem.Spec PyProof.Rows L2 PySem.W
theorem and_rest : ∀ (n a b : Nat), a ≤ n → (a ^^^ (a &&& b)) + (a &&& b) = a
  | 0, a, b, h => by
    obtain rfl : a = 0 := by omega
    simp
  | n + 1, a, b, h => by
    by_cases e : a = 0
    · subst e; simp
    have ih := and_rest n (a / 2) (b / 2) (by omega)
    have d1 : (a &&& b) / 2 = (a / 2) &&& (b / 2) := Nat.and_div_two
    have d2 : (a ^^^ (a &&& b)) / 2 = (a / 2) ^^^ ((a &&& b) / 2) := Nat.xor_div_two
    have m1 : (a &&& b) % 2 = (a % 2) &&& (b % 2) := by have := @Nat.and_mod_two_pow a b 1; simpa using this
    have m2 : (a ^^^ (a &&& b)) % 2 = (a % 2) ^^^ ((a &&& b) % 2) := by have := @Nat.xor_mod_two_pow a (a &&& b) 1; simpa using this
    rw [d1] at d2
    rw [m1] at m2
    have ha := Nat.mod_two_eq_zero_or_one a
    have hb := Nat.mod_two_eq_zero_or_one b
    have key : (a ^^^ (a &&& b)) % 2 + (a &&& b) % 2 = a % 2 := by
      rw [m1, m2]
      rcases ha with ha | ha <;> rcases hb with hb | hb <;> rw [ha, hb] <;> rfl
    omega
section
variable {X : Cx}
theorem op_andInv : OpR X (binaryOp .BitAnd) (fun x y H Q => ∃ a b : Nat, x = .int (a : Int) ∧ y = .int (Builtin.bitNot (b : Int)) ∧ Q (.int ((a ^^^ (a &&& b) : Nat) : Int)) H) :=
  OpR.imp' op_and fun x y H Q ⟨a, b, h1, h2, q⟩ => ⟨_, _, h1, h2, by
    have nb : ¬ 0 ≤ Builtin.bitNot (b : Int) := by show ¬ 0 ≤ -(b : Int) - 1; omega
    have nn : Builtin.bitNot (Builtin.bitNot (b : Int)) = (b : Int) := by show -(-(b : Int) - 1) - 1 = _; omega
    show Q (.int (Builtin.bitAnd (a : Int) (Builtin.bitNot (b : Int)))) H
    rw [bitAnd_pn (by omega) nb, nn, Int.toNat_natCast, Int.toNat_natCast]
    have := and_rest a a b (Nat.le_refl _)
    rw [show (a : Int) - ((a &&& b : Nat) : Int) = ((a ^^^ (a &&& b) : Nat) : Int) by omega]
    exact q⟩
theorem op_isB : OpR X (compareOp .Is) (fun x y H Q => ∃ c d, x = .bl c ∧ y = .bl d ∧ Q (.bl (c == d)) H) := by
  intro pins s σ H x y v u Q I rx ry h
  obtain ⟨c, d, rfl, rfl, q⟩ := h
  cases rx
  cases ry
  exact is_bool ⟨.bl _, H, I, rfl, q⟩
end
end Z
namespace Z
open PySem PySem.Spec PyProof.Rows L2
/-! ### a weaker wish, behind arguments -/
def tMono (t : TA) : TA := fun σ H R => ∃ R' : List V → Hp → Prop, t σ H R' ∧ ∀ vs H', R' vs H' → R vs H'
theorem pa_mono {X : Cx} {es : List Expr} {t : TA} (h : PA X es t) : PA X es (tMono t) := ⟨fun pos pins s σ H R I hR => by
  obtain ⟨R', h1, h2⟩ := hR
  exact thn (h.run pos pins s σ H R' I h1) fun us s1 ⟨vs, H1, I1, r, q⟩ => ⟨vs, H1, I1, r, h2 _ _ q⟩⟩
/-! ### own errors with one field -/
/-- what __init__ promises: the field is set, in a new dict -/
def spErr (C : Addr) (f : Str) : Sp := fun vs H Q _ => ∃ (a : Addr) (v : V), vs = [.ref a, v] ∧ H a = some (exo a C none) ∧
  ∀ dx, H dx = none → dx ≠ a → Q .non (upd (upd H dx (exd dx [(f, v)])) a (exo a C (some dx)))
/-- the class as the top has left it; its __init__ at fI -/
structure ErrAt (K : PySem.W.Frag) (mg : Str → Option Value) (x q f : Str) (st : Stmt) (C : Addr) : Prop where
  gC : mg x = some (.ref C)
  ox : OexC K C
  xf : XfC K C
  no : PySem.W.findIn K (.ref C) f = some none
  te : PySem.W.exmOne K (.ref C) (.ref C) = some true
  fn : ∃ (fI : Addr) (fd : FuncData), Fun K "__init__" q st fI fd ∧ PySem.W.findIn K (.ref C) "__init__" = some (some (.ref fI)) ∧ PySem.W.typeIn K (.ref fI) = some (.type "function") ∧ Binds K fd ["self", f] []
/-- the same, with what its __init__ keeps -/
def PrErr (P : Program) (w : World) (K : PySem.W.Frag) (mg : Str → Option Value) (base : Heap) (x f : Str) (C : Addr) : Prop :=
  mg x = some (.ref C) ∧ OexC K C ∧ ∃ (fI : Addr) (fd : FuncData), PySem.W.findIn K (.ref C) "__init__" = some (some (.ref fI)) ∧ PySem.W.typeIn K (.ref fI) = some (.type "function") ∧ Binds K fd ["self", f] [] ∧ FnOk P w K mg base CX0 1 fI fd ["self", f] (spErr C f)
/-- an error of the class at C flies: its own dict, new, holds f = v; all else is as it was -/
def Bad (C : Addr) (f : Str) (v : V) (H : Hp) (E : XK) : Prop := ∀ d H', Same H H' → H d = none → H' d = some (.xd [(f, v)]) → E (.ref C) (some d) H'
theorem Bad.imp {C : Addr} {f : Str} {v : V} {H : Hp} {E E' : XK} (h : Bad C f v H E) (k : ∀ cls d H', E cls d H' → E' cls d H') : Bad C f v H E' := fun d H' s n e => k _ _ _ (h d H' s n e)
theorem Bad.later {C : Addr} {f : Str} {v : V} {H H1 : Hp} {E : XK} (s : Same H H1) (h : Bad C f v H E) : Bad C f v H1 E := fun d H' s1 n e => h d H' (fun b o q => s1 b o (s b o q)) (by
  cases q : H d with
  | none => rfl
  | some o => rw [s _ _ q] at n; cases n) e
def tErr (C : Addr) (f : Str) (ta : TA) : L2.St → Hp → XK → Prop := fun σ H Q => ta σ H fun vs H1 => ∃ v, vs = [v] ∧ Bad C f v H1 Q
section
variable {X : Cx} {C : Addr} {x f : Str} {e : Expr} {es : List Expr} {ta : TA} {p pos pos2 : Pos} {W : WX}
theorem pmk_err (E : PrErr X.prog X.w X.K X.mg X.base x f C) (hr : Room 2 X.A) (ha : PA X (e :: es) ta) (hg : Gl X x := by rfl)
    (hdb : (x == ("__debug__" : Str)) = false := by decide) (he : starEach (e :: es) X.env = (false, eval e X.env) :: starEach es X.env := by rfl) (hpl : (backTo pos (starEach es X.env)).any (·.1) = false := by rfl) :
    PMk X (.Call (.Name x p) (e :: es) [] pos) (tErr C f ta) := by
  obtain ⟨gC, ox, fI, fd, iC, tI, bd, F⟩ := E
  intro pins s σ H Q I h
  refine pmk_oex (k := 1) (dvs := []) (ds := []) ox iC tI F hr bd .nil pass0 hg gC (pa_mono ha) hdb he hpl pins s σ H Q I ⟨_, h, fun vs H1 hv => ?_⟩
  obtain ⟨v, rfl, hb⟩ := hv
  refine ⟨by show 1 ≤ 1000; decide, fun a ha => ⟨a, v, rfl, upd_same, fun dx hdx hne => ⟨rfl, dx, [(f, v)], upd_same, ?_, ?_, ?_⟩⟩⟩
  · rw [upd_ne hne, upd_same]
  · rw [upd_ne hne] at hdx
    exact hdx
  · rw [upd_ne hne] at hdx
    refine hb dx _ (fun b o q => ?_) hdx upd_same
    have n1 : b ≠ dx := ne_of_none q hdx
    have n2 : b ≠ a := ne_of_none q ha
    rw [upd_ne n1, del_ne n2, upd_ne n2, upd_ne n1, upd_ne n2]
    exact q
/-- raise C(e) -/
def tRaise (W : WX) (C : Addr) (f : Str) (ta : TA) : TS := fun _ σ H => tErr C f ta σ H fun cls d H' => W cls d σ H'
theorem ps_raiseE (hc : X.calm = true) (tk : Takes X W) (E : PrErr X.prog X.w X.K X.mg X.base x f C) (hr : Room 2 X.A) (ha : PA X (e :: es) ta) (hg : Gl X x := by rfl)
    (hdb : (x == ("__debug__" : Str)) = false := by decide) (he : starEach (e :: es) X.env = (false, eval e X.env) :: starEach es X.env := by rfl) (hpl : (backTo pos (starEach es X.env)).any (·.1) = false := by rfl) :
    PS X (.Raise (some (.Call (.Name x p) (e :: es) [] pos)) none pos2) (tRaise W C f ta) := ps_raise hc tk (pmk_err E hr ha hg hdb he hpl)
end
/-! ### try, several clauses, each with a name -/
/-- a clause: its class, the slot of its name, its suite -/
abbrev Clause := Value × Nat × (Addr → Value → Option Addr → TS)
def endsAs (D : Ends) (i : Nat) : Ends := { nx := fun σ' H' => D.nx (σ'.set i none) H', rt := D.rt, bk := fun σ' H' => D.bk (σ'.set i none) H', ct := fun σ' H' => D.ct (σ'.set i none) H' }
def wEach (K : PySem.W.Frag) (Wout : WX) (D : Ends) : List Clause → WX
  | [] => Wout
  | c :: r => fun cls d σ H => (PySem.W.exmOne K cls c.1 = some true ∧ ∀ a, H a = none → c.2.2 a cls d (endsAs D c.2.1) (σ.set c.2.1 (some (.ref a))) H) ∨ (PySem.W.exmOne K cls c.1 = some false ∧ wEach K Wout D r cls d σ H)
inductive Each (X : Cx) : List ExceptHandler → List Clause → Prop
  | nil : Each X [] []
  | cons {x n : Str} {c : Value} {i : Nat} {ts : Addr → Value → Option Addr → TS} {b₀ : Stmt} {suite : List Stmt} {np pos' : Pos} {hds : List ExceptHandler} {l : List Clause} (hi : X.N[i]? = some n) (hln : X.env.kindOf n = some .local) (hc : Names X x c)
      (hsu : ∀ (a : Addr) (oe : Obj) (cls : Value) (d : Option Addr) (pn : List (Addr × Obj)), Zc cls d oe → (∃ vs, oe.data = .fields vs) → PSs (X.suite a ((a, oe) :: pn)) (b₀ :: suite) (ts a cls d)) (r : Each X hds l) :
      Each X (.ExceptHandler (some (.Name x np)) (some n) (b₀ :: suite) pos' :: hds) ((c, i, ts) :: l)
section
variable {X : Cx} {pins : List (Addr × Obj)} {σ : L2.St} {H : Hp} {a : Addr} {cls : Value} {d : Option Addr} {B : Heap} {sI : Shared} {Wout : WX} {D : Ends}
/-- the exception, held by the frame that looks at it, is offered to the clauses -/
theorem offered (hs : X.stack = X.env :: X.outer) (hf : X.env.frame = some X.env.locals) (hN : X.N.Nodup) (tk : Takes X Wout) (nb : ∀ b o, sI.heap.get? b = some o → b ∉ frs X.stack → B.get? b = some o) (J : Inv X pins σ H sI) (na : H a = none) :
    ∀ {hds : List ExceptHandler} {l : List Clause} {s : Shared}, Each X hds l → HandSPX.FlyingZ B (X.env :: X.outer) a (Zc cls d) s.heap → sI.heap.UpToSlots s.heap → s.os = sI.os → AllBare s.gens → wEach X.K Wout D l cls d σ H →
      wpAny (model X.prog X.w) X.A (handleBy (.ref a) X.env hds) (SP X pins D) X.xe s := by
  intro hds l s hk
  induction hk with
  | nil =>
    intro fl up os ag w
    obtain ⟨_, _, _, oe, vs, T, oT, ts, he, hz, hd, h1, hr⟩ := id fl
    refine wpAny_handleBy_nil ?_
    unfold PySem.passOn
    refine wpAny_bind (wpAny_field he hd h1 ?_)
    rw [if_neg (by simp : ¬ ((Value.ref T == Value.none) = true))]
    have out : wpAny (model X.prog X.w) X.A (setFlight (.ref a) X.env.frame) (fun _ s2 => wpAny (model X.prog X.w) X.A (throw (.ref a) : Sem Flow) (SP X pins D) X.xe s2) X.xe s := by
      rw [hf]
      obtain ⟨hp, g, dr, t, o⟩ := s
      refine HandSPX.setFlight_upZ fl fun h4 hh up4 => wpAny_throw (tk _ _ ⟨a, B, sI, pins, σ, H, cls, d, rfl, J, nb, up.trans up4, .inr (.inr (by rw [hs]; exact hh)), na, os, ag, w⟩)
    first
      | exact wpAny_bind (wpAny_pure (wpAny_bind out))
      | exact wpAny_bind out
  | @cons x n c i ts b₀ suite np pos' hds2 l2 hi hln hc hsu r ih =>
    intro fl up os ag w
    obtain ⟨hp, g, dr, t, o⟩ := s
    have J0 : Inv X pins σ H ⟨hp, g, dr, t, o⟩ := J.landed nb fl.1 up os ag
    -- where the exception stands: no frame
    have apart : ∀ {h : Heap}, HandSPX.FlyingZ B (X.env :: X.outer) a (Zc cls d) h → a ≠ X.env.locals ∧ a ∉ X.fs := fun {h} f => by
      obtain ⟨oe, vs, he, _, hd⟩ := f.there
      have nf : a ∉ frs (X.env :: X.outer) := fun hm => by
        obtain ⟨_, o', e', hn⟩ := f.2.2.1.mem hm
        rw [he] at e'
        cases e'
        exact hn _ hd
      refine ⟨fun z => nf (List.mem_filterMap.mpr ⟨X.env, List.mem_cons_self, by rw [hf, z]⟩), fun hm => ?_⟩
      obtain ⟨e, he', q⟩ := List.mem_filterMap.mp hm
      exact nf (List.mem_filterMap.mpr ⟨e, List.mem_cons_of_mem _ he', q⟩)
    obtain ⟨oe, vs, he, hz, hd⟩ := fl.there
    obtain ⟨nL, nF⟩ := apart fl
    have S0 := J0.suite he hd na nL nF
    refine wpAny_handleBy_cons (codeAny_handlers_test ?_) (by intro q; cases q)
    have LT : PySem.W.Looks (model X.prog X.w) hp (typeOf (.ref a)) cls := fun _ _ _ _ k q => wpAny_typeOf_ref (k _ _ he) (by rw [hz.1]; exact q)
    have named : ∀ {Q : Value → Shared → Prop} {E : Value → Shared → Prop}, Q c ⟨hp, g, dr, t, o⟩ → wpAny (model X.prog X.w) (X.A.mark (some (.ref a))) (eval (.Name x np) X.env) Q E ⟨hp, g, dr, t, o⟩ := fun {Q E} q => by
      obtain ⟨hg, hdb, hm | ⟨hm, hv, hnn⟩⟩ := hc
      · exact ld_glob (X := X.suite a ((a, oe) :: (X.pn ++ pins))) S0 hg hm q hdb
      · exact ld_blt (X := X.suite a ((a, oe) :: (X.pn ++ pins))) S0 hg hm hv q hnn hdb
    rcases w with ⟨hb, hyes⟩ | ⟨hb, hno⟩
    · have LM := PySem.W.exm_one (M := model X.prog X.w) J0.kIn LT hb
      refine named (LM.here (codeAny_handlers_suite_as (HandSPX.lands_againZ fl fun h2 fl2 up2 => ?_)))
      have J2 : Inv X pins σ H ⟨h2, g, dr, t, o⟩ := J.landed nb fl2.1 (up.trans up2) os ag
      obtain ⟨oe2, vs2, he2, hz2, hd2⟩ := fl2.there
      have S2 := J2.suite he2 hd2 na nL nF
      refine store_ok (X := X.suite a ((a, oe2) :: (X.pn ++ pins))) (v := .ref a) S2 hN hi (.inl hln) rfl (fun s5 S5 => ?_) (.inr hln)
      refine wpAny_mono ((hsu a oe2 cls d (X.pn ++ pins) hz2 ⟨_, hd2⟩).run [] s5 _ H _ S5 (hyes a na)) (fun f s6 q6 => ?_) (fun _ _ z => z.elim)
      have gone : ∀ {σ6 : L2.St} {H6 : Hp} {Q : Shared → Prop}, Inv (X.suite a ((a, oe2) :: (X.pn ++ pins))) [] σ6 H6 s6 → (∀ s7, Inv X pins (σ6.set i none) H6 s7 → Q s7) →
          wpAny (model X.prog X.w) X.A (do bindName X.env n .none; unbindBehindTheSuite X.env n pos') (fun _ s7 => Q s7) X.xe s6 := fun S6 k => gone_ok (S6.unsuite J2.ok) hN hi hln k
      match f, q6 with
      | .next, ⟨_, _, S6, q⟩ => exact gone S6 fun s7 J7 => ⟨_, _, J7, q⟩
      | .brk, ⟨_, _, S6, q⟩ => exact gone S6 fun s7 J7 => ⟨_, _, J7, q⟩
      | .cont, ⟨_, _, S6, q⟩ => exact gone S6 fun s7 J7 => ⟨_, _, J7, q⟩
      | .ret u, ⟨_, _, _, S6, rv, q⟩ => exact gone S6 fun s7 J7 => ⟨_, _, _, J7, rv, q⟩
    · have LM := PySem.W.exm_one (M := model X.prog X.w) J0.kIn LT hb
      refine named (LM.here ?_)
      show wpAny _ X.A (handleBy (.ref a) X.env hds2) _ _ _
      exact ih fl up os ag hno
end
section
variable {X : Cx} {body : List Stmt} {h₀ : ExceptHandler} {hds : List ExceptHandler} {l : List Clause} {pos : Pos} {tb : WX → TS} {Wout : WX}
/-- try: body / except x as n: .. / except y as m: .. -/
theorem ps_try_each (hs : X.stack = X.env :: X.outer) (hf : X.env.frame = some X.env.locals) (hN : X.N.Nodup) (tk : Takes X Wout)
    (hb : ∀ (W : WX) (pn : List (Addr × Obj)) (xe : Value → Shared → Prop), Takes (X.tr pn xe) W → PassesOwn (model X.prog X.w) X.A X.env xe → PSs (X.tr pn xe) body (tb W))
    (hh : Each X (h₀ :: hds) l) : PS X (.Try body (h₀ :: hds) [] [] pos) (fun D σ H => tb (wEach X.K Wout D l) D σ H) := by
  refine ⟨fun pins s σ H D I h => ?_⟩
  have ok := I.ok
  have hfr : X.A.frames = some (X.env :: X.outer) := by rw [ok.frames, hs]
  have run := fun (xe : Value → Shared → Prop) (tk' : Takes (X.tr (X.pn ++ pins) xe) (wEach X.K Wout D l)) (po : PassesOwn (model X.prog X.w) X.A X.env xe) => (hb _ (X.pn ++ pins) xe tk' po).run [] s σ H D (I.toTry _) h
  refine wpAny_Try_except (wpAny_mono (run (fun e s₁ => wpAny (model X.prog X.w) X.A (noteFrame e X.env) (fun _ s₂ => wpAny (model X.prog X.w) X.A (setFlight e none) (fun _ s₃ => wpAny (model X.prog X.w) X.A (handleBy e X.env (h₀ :: hds)) (SP X pins D) X.xe s₃) X.xe s₂) X.xe s₁)
    (fun u s' air => ?_) PassesOwn.looking) (fun f s1 q => ?_) fun e s1 he => he)
  · obtain ⟨a, B, sI, pins', σ', H', cls, d, rfl, J', nb, up, sky, na, os, ag, w⟩ := air
    have sky' : Sky B (X.env :: X.outer) a (Zc cls d) X.env.locals s'.heap := by rw [← hs]; exact sky
    exact Sky.land Zc.steady hfr hf sky' fun h3 fl3 up3 => offered (s := { s' with heap := h3 }) hs hf hN tk nb (J'.ofTry ok) na hh fl3 (up.trans up3) os ag w
  · match f, q with
    | .next, ⟨σ', H', J', q⟩ => exact wpAny_execs_nil ⟨σ', H', J'.ofTry ok, q⟩
    | .brk, ⟨σ', H', J', q⟩ => exact ⟨σ', H', J'.ofTry ok, q⟩
    | .cont, ⟨σ', H', J', q⟩ => exact ⟨σ', H', J'.ofTry ok, q⟩
    | .ret u, ⟨v, σ', H', J', rv, q⟩ => exact ⟨v, σ', H', J'.ofTry ok, rv, q⟩
end
end Z
namespace Z
open PySem PySem.Spec PyProof.Rows L2
/-! ### repr of any value -/
def kD : Key → PyData
  | .inl i => .int i
  | .inr x => .str x
inductive Sh (K : PySem.W.Frag) (H : Hp) : V → PyData → Prop
  | of {v : V} {d : PyData} (h : Dp K H v d) (nd : d.hasDict = false) : Sh K H v d
  | emp {a : Addr} (h : H a = some (.dK [])) : Sh K H (.ref a) (.dict [])
  | one {a : Addr} {k : Key} {i : Int} (h : H a = some (.dK [(k, .int i)])) : Sh K H (.ref a) (.dict [(kD k, .int i)])
def rShow (K : PySem.W.Frag) : List V → Hp → VK → Prop := fun xs H Q => ∃ (v : V) (d : PyData), xs = [v] ∧ Sh K H v d ∧ d.showable = true ∧ d.depth ≤ 60 ∧ d.shown.length ≤ sizeLine ∧ Q (.str d.shown) H
section
variable {X : Cx}
theorem call_show (hgd : X.A.guards = some []) (hu : X.A.units + 64 < cLine) : CallR X (.builtin "repr") (rShow X.K) := by
  intro pins s σ H xs us Q I r h
  obtain ⟨v, d, ex, hd, sh, dp, hz, q⟩ := h
  subst ex
  obtain ⟨u, eu, rx⟩ := vals1 r
  subst eu
  have shown : ∀ {a : Addr} {as : List Addr}, Reads s.heap (.ref a) d as → (d.hasDict = true → sysModules ∉ as) → wpAny (model X.prog X.w) X.A (call (.builtin "repr") [.ref a]) (EP X pins σ Q) X.xe s := fun rd nm =>
    repr_of_reads' rd sh nm hgd (by omega) (fun _ _ e => e) (fun h' t tk hk => ⟨.str d.shown, H, I.kept (t' := tk) hk, ⟨t, rfl⟩, q⟩) hz
  have isDict : ∀ {a : Addr} {kvs : List (Key × V)}, H a = some (.dK kvs) → (a == sysModules) = false ∧ ∃ vs, KV kvs vs ∧ s.heap.DictOf (mixKind X.prog X.w) a vs := fun e => (dk_of I.hok e).2
  cases hd with
  | of h nd =>
    have hr : ∀ a, v = .ref a → ∃ as, Reads s.heap (.ref a) d as := fun a e => by
      subst e
      obtain ⟨as, r2⟩ := Dp.reads I d _ _ h rx
      cases rx
      exact ⟨as, r2⟩
    cases h with
    | non =>
      cases rx
      simp only [PyData.shown] at q
      exact PySem.P.repr_of_none ⟨.str _, H, I.tok _, ⟨_, rfl⟩, q⟩
    | bl b =>
      cases rx
      simp only [PyData.shown] at q
      exact PySem.P.repr_of_bool ⟨.str _, H, I.tok _, ⟨_, rfl⟩, q⟩
    | int i =>
      obtain ⟨t, rfl⟩ := rx
      simp only [PyData.shown] at q
      exact PySem.P.repr_of_int (by simpa [PyData.showable] using sh) ⟨.str _, H, I.tok _, ⟨_, rfl⟩, q⟩
    | str x =>
      obtain ⟨t, rfl⟩ := rx
      simp only [PyData.shown] at q hz
      exact PySem.P.repr_of_str ⟨.str _, H, I.tok _, ⟨_, rfl⟩, q⟩ hz
    | lst hs ha =>
      cases rx
      obtain ⟨as, r2⟩ := hr _ rfl
      exact shown r2 fun z => by rw [nd] at z; cases z
    | tup hs ha =>
      cases rx
      obtain ⟨as, r2⟩ := hr _ rfl
      exact shown r2 fun z => by rw [nd] at z; cases z
  | @emp a h =>
    cases rx
    obtain ⟨hne, vs, kv, o, es, ep, ho, hx, hdat, _, pr, _⟩ := isDict h
    cases kv
    have e0 : es.toList = [] := by
      cases he : es.toList with
      | nil => rfl
      | cons x l => rw [he] at pr; cases pr
    have rd : Reads s.heap (.ref a) (.dict []) (a :: [] ++ []) := Reads.dict ho hx.1 hdat (by rw [e0]; exact .nil) (by rw [e0]; exact .nil)
    exact shown rd fun _ hm => by
      simp at hm
      rw [hm] at hne
      simp at hne
  | @one a k i h =>
    cases rx
    obtain ⟨hne, vs, kv, o, es, ep, ho, hx, hdat, _, pr, _⟩ := isDict h
    cases kv with
    | cons h1 h2 =>
      cases h2
      obtain ⟨e1, rv⟩ := h1
      obtain ⟨t, rv⟩ := rv
      rename_i q' _
      obtain ⟨k', v'⟩ := q'
      dsimp only at e1 rv
      subst e1 rv
      generalize hl : es.toList = l at pr
      cases pr with
      | cons hk hv hr =>
        cases hr
        rename_i e
        have rk : Reads s.heap e.key (kD k) [] := by
          rcases keyIs_shape hk with ⟨j, u, rfl, e2⟩ | ⟨y, u, rfl, e2⟩
          · rw [e2]; exact .int j u
          · rw [e2]; exact .str y u
        have rv : Reads s.heap e.val (.int i) [] := by rw [hv]; exact .int i t
        have rd : Reads s.heap (.ref a) (.dict [(kD k, .int i)]) (a :: ([] ++ []) ++ ([] ++ [])) := Reads.dict ho hx.1 hdat (by rw [hl]; exact .cons rk .nil) (by rw [hl]; exact .cons rv .nil)
        exact shown rd fun _ hm => by
          simp at hm
          rw [hm] at hne
          simp at hne
end
/-! ### isinstance of the error that a suite holds -/
structure IsExc (K : PySem.W.Frag) (C : Addr) : Prop where
  ok : (PySem.W.clsIn K C).isSome = true
  xf : XfC K C
  ha : PySem.W.findIn K (.ref C) "__class__" = some (some (.builtin "object.__class__"))
  hn : PySem.W.specialIn K (.builtin "object.__class__") "__get__" = some (some (.builtin "getset_descriptor.__get__"))
  ht : PySem.W.takesIn K (.builtin "object.__class__") = some true
  hm : PySem.W.mroIn K C (.type "object") = some true
def rIsX (K : PySem.W.Frag) (D a : Addr) (cls : Value) (d : Option Addr) : List V → Hp → VK → Prop := fun xs H Q => ∃ (c : V) (cv : Value) (dd : Addr) (fs : List (Str × V)) (b : Bool), xs = [.ref a, c] ∧ (∀ u, RelV c u → u = cv) ∧ cls = .ref D ∧ d = some dd ∧ H dd = some (.xd fs) ∧ PySem.W.kitOne K (.ref D) cv = some b ∧ Q (.bl b) H
theorem call_isX {X : Cx} {a D : Addr} {cls : Value} {d : Option Addr} {oe : Obj} {pn : List (Addr × Obj)} (C : IsExc X.K D) (hz : Zc cls d oe) (hf : ∃ vs, oe.data = .fields vs) : CallR (X.suite a ((a, oe) :: pn)) (.builtin "isinstance") (rIsX X.K D a cls d) := by
  intro pins s σ H xs us Q I r h
  obtain ⟨c, cv, dd, fs, b, rfl, hcv, ec, ed, hx, e, q⟩ := h
  subst ec ed
  obtain ⟨hga, _⟩ := I.pin (a, oe) (List.mem_append_left _ List.mem_cons_self)
  obtain ⟨vs, hv⟩ := hf
  have ob : ObjOk X.prog X.w H s.heap dd (.xd fs) := I.hok dd _ hx
  obtain ⟨mA, hns, _⟩ := ob
  obtain ⟨od, ho, _⟩ := lookIn_ns hns
  have J : PySem.W.InstAt s.heap a oe D (some od) := ⟨hga, hz.1, by unfold PySem.W.notCls; rw [hv] <;> rfl, by rw [hz.2]; exact ho⟩
  match us, r with
  | [_, u], .cons rx (.cons rt .nil) =>
    cases rx
    obtain rfl := hcv _ rt
    exact PySem.W.kia_one (PySem.W.kitx_exc C.ok C.xf.ga C.xf.gg C.xf.exC C.ha C.hn C.ht C.hm) I.kIn J e (fun z => nomatch z) fun tk => ⟨.bl b, H, I.kept (t' := tk) fun _ _ z => z, rfl, q⟩
end Z
namespace K1
open PySem PySem.Spec L2 Z
def topS (i : Nat) : Stmt := PySem.Challenge.pw_arrowcells_k65_walkers_step_by_step.main.body.getD i (.Pass ⟨0, 0, 0, 0⟩)
abbrev s_is_number : Stmt := topS 5
abbrev N_is_number : List Str := ["value"]
theorem sc_is_number : FnScope N_is_number ["value"] (defScope s_is_number) := ⟨rfl, rfl, rfl, by decide +kernel, rfl, by decide +kernel, by decide +kernel⟩
abbrev s_is_whole : Stmt := topS 6
abbrev N_is_whole : List Str := ["value", "low", "high"]
theorem sc_is_whole : FnScope N_is_whole ["value", "low", "high"] (defScope s_is_whole) := ⟨rfl, rfl, rfl, by decide +kernel, rfl, by decide +kernel, by decide +kernel⟩
abbrev s_need_number : Stmt := topS 10
abbrev N_need_number : List Str := ["value", "low", "high"]
theorem sc_need_number : FnScope N_need_number ["value", "low", "high"] (defScope s_need_number) := ⟨rfl, rfl, rfl, by decide +kernel, rfl, by decide +kernel, by decide +kernel⟩
abbrev s_need_track : Stmt := topS 11
abbrev N_need_track : List Str := ["tail", "ring"]
theorem sc_need_track : FnScope N_need_track ["tail", "ring"] (defScope s_need_track) := ⟨rfl, rfl, rfl, by decide +kernel, rfl, by decide +kernel, by decide +kernel⟩
abbrev s_need_walkers : Stmt := topS 12
abbrev N_need_walkers : List Str := ["slow", "fast", "lead", "high"]
theorem sc_need_walkers : FnScope N_need_walkers ["slow", "fast", "lead", "high"] (defScope s_need_walkers) := ⟨rfl, rfl, rfl, by decide +kernel, rfl, by decide +kernel, by decide +kernel⟩
abbrev s_stop_at : Stmt := topS 13
abbrev N_stop_at : List Str := ["tail", "ring", "steps"]
theorem sc_stop_at : FnScope N_stop_at ["tail", "ring", "steps"] (defScope s_stop_at) := ⟨rfl, rfl, rfl, by decide +kernel, rfl, by decide +kernel, by decide +kernel⟩
abbrev s_stop : Stmt := topS 14
abbrev N_stop : List Str := ["tail", "ring", "steps"]
theorem sc_stop : FnScope N_stop ["tail", "ring", "steps"] (defScope s_stop) := ⟨rfl, rfl, rfl, by decide +kernel, rfl, by decide +kernel, by decide +kernel⟩
abbrev s_meet : Stmt := topS 15
abbrev N_meet : List Str := ["tail", "ring", "slow", "fast", "lead"]
theorem sc_meet : FnScope N_meet ["tail", "ring", "slow", "fast", "lead"] (defScope s_meet) := ⟨rfl, rfl, rfl, by decide +kernel, rfl, by decide +kernel, by decide +kernel⟩
abbrev s_least_turn : Stmt := topS 16
abbrev N_least_turn : List Str := ["tail", "ring", "slow", "fast", "lead", "ahead", "part", "step", "turn", "first"]
theorem sc_least_turn : FnScope N_least_turn ["tail", "ring", "slow", "fast", "lead"] (defScope s_least_turn) := ⟨rfl, rfl, rfl, by decide +kernel, rfl, by decide +kernel, by decide +kernel⟩
abbrev s_inverse : Stmt := topS 17
abbrev N_inverse : List Str := ["number", "ring", "first", "second", "told", "more", "times"]
theorem sc_inverse : FnScope N_inverse ["number", "ring"] (defScope s_inverse) := ⟨rfl, rfl, rfl, by decide +kernel, rfl, by decide +kernel, by decide +kernel⟩
abbrev s_meets_always : Stmt := topS 18
abbrev N_meets_always : List Str := ["slow", "fast", "lead"]
theorem sc_meets_always : FnScope N_meets_always ["slow", "fast", "lead"] (defScope s_meets_always) := ⟨rfl, rfl, rfl, by decide +kernel, rfl, by decide +kernel, by decide +kernel⟩
abbrev s_u_meets_always : Stmt := topS 19
abbrev N_u_meets_always : List Str := ["slow", "fast", "lead", "ahead"]
theorem sc_u_meets_always : FnScope N_u_meets_always ["slow", "fast", "lead"] (defScope s_u_meets_always) := ⟨rfl, rfl, rfl, by decide +kernel, rfl, by decide +kernel, by decide +kernel⟩
abbrev s_missed_track : Stmt := topS 20
abbrev N_missed_track : List Str := ["slow", "fast", "lead", "stops", "tail"]
theorem sc_missed_track : FnScope N_missed_track ["slow", "fast", "lead"] (defScope s_missed_track) := ⟨rfl, rfl, rfl, by decide +kernel, rfl, by decide +kernel, by decide +kernel⟩
abbrev s_law_well : Stmt := topS 22
abbrev N_law_well : List Str := ["_law_script", "_law_turn", "_law_own", "_law_stirred", "_law_cell"]
theorem sc_law_well : FnScope N_law_well ["_law_script", "_law_turn"] (defScope s_law_well) := ⟨rfl, rfl, rfl, by decide +kernel, rfl, by decide +kernel, by decide +kernel⟩
abbrev s_law_take : Stmt := topS 23
abbrev N_law_take : List Str := ["_law_well_here", "_law_limit", "_law_figure", "_law_seed"]
theorem sc_law_take : FnScope N_law_take ["_law_well_here", "_law_limit"] (defScope s_law_take) := ⟨rfl, rfl, rfl, by decide +kernel, rfl, by decide +kernel, by decide +kernel⟩
abbrev s_law_pick : Stmt := topS 24
abbrev N_law_pick : List Str := ["_law_well_here", "_law_some"]
theorem sc_law_pick : FnScope N_law_pick ["_law_well_here", "_law_some"] (defScope s_law_pick) := ⟨rfl, rfl, rfl, by decide +kernel, rfl, by decide +kernel, by decide +kernel⟩
abbrev s_law_stop : Stmt := topS 25
abbrev N_law_stop : List Str := ["_law_tail_here", "_law_round_here", "_law_paces"]
theorem sc_law_stop : FnScope N_law_stop ["_law_tail_here", "_law_round_here", "_law_paces"] (defScope s_law_stop) := ⟨rfl, rfl, rfl, by decide +kernel, rfl, by decide +kernel, by decide +kernel⟩
abbrev s_law_first_meeting : Stmt := topS 26
abbrev N_law_first_meeting : List Str := ["_law_tail_here", "_law_round_here", "_law_calm", "_law_quick", "_law_gap", "_law_turn"]
theorem sc_law_first_meeting : FnScope N_law_first_meeting ["_law_tail_here", "_law_round_here", "_law_calm", "_law_quick", "_law_gap"] (defScope s_law_first_meeting) := ⟨rfl, rfl, rfl, by decide +kernel, rfl, by decide +kernel, by decide +kernel⟩
abbrev s_law_great_number : Stmt := topS 27
abbrev N_law_great_number : List Str := ["_law_well_here", "_law_branch", "_law_found"]
theorem sc_law_great_number : FnScope N_law_great_number ["_law_well_here"] (defScope s_law_great_number) := ⟨rfl, rfl, rfl, by decide +kernel, rfl, by decide +kernel, by decide +kernel⟩
abbrev s_law_shared : Stmt := topS 28
abbrev N_law_shared : List Str := ["_law_first", "_law_second", "_law_left", "_law_right_here", "_law_one", "_law_two", "_law_often"]
theorem sc_law_shared : FnScope N_law_shared ["_law_first", "_law_second"] (defScope s_law_shared) := ⟨rfl, rfl, rfl, by decide +kernel, rfl, by decide +kernel, by decide +kernel⟩
abbrev s_law_far_meeting : Stmt := topS 29
abbrev N_law_far_meeting : List Str := ["_law_tail_here", "_law_round_here", "_law_calm", "_law_quick", "_law_gap", "_law_apart", "_law_common", "_law_often", "_law_period", "_law_first", "_law_least"]
theorem sc_law_far_meeting : FnScope N_law_far_meeting ["_law_tail_here", "_law_round_here", "_law_calm", "_law_quick", "_law_gap"] (defScope s_law_far_meeting) := ⟨rfl, rfl, rfl, by decide +kernel, rfl, by decide +kernel, by decide +kernel⟩
abbrev s_law_error : Stmt := topS 30
abbrev N_law_error : List Str := ["_law_branch", "_law_some", "e"]
theorem sc_law_error : FnScope N_law_error ["_law_branch", "_law_some"] (defScope s_law_error) := ⟨rfl, rfl, rfl, by decide +kernel, rfl, by decide +kernel, by decide +kernel⟩
abbrev s_law_are_refused : Stmt := topS 31
abbrev N_law_are_refused : List Str := ["_law_well_here", "_law_menu", "_law_some", "_law_branch", "_law_spot", "_law_bent", "_law_odd", "_law_big", "_law_due", "_law_each"]
theorem sc_law_are_refused : FnScope N_law_are_refused ["_law_well_here"] (defScope s_law_are_refused) := ⟨rfl, rfl, rfl, by decide +kernel, rfl, by decide +kernel, by decide +kernel⟩
abbrev s_law_is_small_right : Stmt := topS 32
abbrev N_law_is_small_right : List Str := ["_law_well_here", "_law_long", "_law_round_here", "_law_calm", "_law_quick", "_law_gap", "_law_paces", "_law_spot", "_law_turn", "_law_due", "_law_told"]
theorem sc_law_is_small_right : FnScope N_law_is_small_right ["_law_well_here"] (defScope s_law_is_small_right) := ⟨rfl, rfl, rfl, by decide +kernel, rfl, by decide +kernel, by decide +kernel⟩
abbrev s_law_is_missed_right : Stmt := topS 33
abbrev N_law_is_missed_right : List Str := ["_law_well_here", "_law_calm", "_law_gap", "_law_quick", "_law_due", "_law_total", "_law_long", "_law_told", "_law_seen"]
theorem sc_law_is_missed_right : FnScope N_law_is_missed_right ["_law_well_here"] (defScope s_law_is_missed_right) := ⟨rfl, rfl, rfl, by decide +kernel, rfl, by decide +kernel, by decide +kernel⟩
abbrev s_law_is_great_right : Stmt := topS 34
abbrev N_law_is_great_right : List Str := ["_law_well_here", "_law_long", "_law_round_here", "_law_calm", "_law_quick", "_law_gap", "_law_paces", "_law_due", "_law_apart", "_law_is_due"]
theorem sc_law_is_great_right : FnScope N_law_is_great_right ["_law_well_here"] (defScope s_law_is_great_right) := ⟨rfl, rfl, rfl, by decide +kernel, rfl, by decide +kernel, by decide +kernel⟩
abbrev s_law_right : Stmt := topS 35
abbrev N_law_right : List Str := ["_law_well_here"]
theorem sc_law_right : FnScope N_law_right ["_law_well_here"] (defScope s_law_right) := ⟨rfl, rfl, rfl, by decide +kernel, rfl, by decide +kernel, by decide +kernel⟩
abbrev s_law : Stmt := topS 36
abbrev N_law : List Str := ["_law_script", "_law_turn"]
theorem sc_law : FnScope N_law ["_law_script"] (defScope s_law) := ⟨rfl, rfl, rfl, by decide +kernel, rfl, by decide +kernel, by decide +kernel⟩
abbrev s_err_InvalidNumber : Stmt := inClass (topS 3) 0
theorem sc_err_InvalidNumber : FnScope ["self", "given"] ["self", "given"] (defScope s_err_InvalidNumber) := ⟨rfl, rfl, rfl, by decide +kernel, rfl, by decide +kernel, by decide +kernel⟩

def DefAt (K : PySem.W.Frag) (mg : Str → Option Value) (x : Str) (st : Stmt) (ps : List Str) : Prop := ∃ (f : Addr) (fd : FuncData), Fun K x x st f fd ∧ mg x = some (.ref f) ∧ Binds K fd ps []
def MethAt (K : PySem.W.Frag) (C : Addr) (m q : Str) (st : Stmt) (ps : List Str) : Prop := ∃ (f : Addr) (fd : FuncData), Fun K m q st f fd ∧ Meth K C m f ∧ Binds K fd ps []
def InitAt (K : PySem.W.Frag) (C : Addr) (q : Str) (st : Stmt) (ps : List Str) : Prop := ∃ (f : Addr) (fd : FuncData), Fun K "__init__" q st f fd ∧ Mk K C f ∧ Binds K fd ps []
def EqAt (K : PySem.W.Frag) (C : Addr) (q : Str) (st : Stmt) : Prop := ∃ (f : Addr) (fd : FuncData), Fun K "__eq__" q st f fd ∧ OwnEq K C f fd
def InAt (K : PySem.W.Frag) (C : Addr) (q : Str) (st : Stmt) (ps : List Str) : Prop := ∃ (f : Addr) (fd : FuncData), Fun K "__contains__" q st f fd ∧ OwnIn K C f fd ps
/-- a def whose code object is known -/
def DefAtC (K : PySem.W.Frag) (mg : Str → Option Value) (x : Str) (st : Stmt) (ps : List Str) (c : Addr) : Prop := ∃ (f : Addr) (fd : FuncData), Fun K x x st f fd ∧ mg x = some (.ref f) ∧ Binds K fd ps [] ∧ fd.code = .ref c
structure Txt (K : PySem.W.Frag) (mg : Str → Option Value) (C CA : Addr) : Prop where
  b_isinstance : mg "isinstance" = none
  b_int : mg "int" = none
  b_bool : mg "bool" = none
  b_len : mg "len" = none
  b_list : mg "list" = none
  b_range : mg "range" = none
  b_divmod : mg "divmod" = none
  b_abs : mg "abs" = none
  b_repr : mg "repr" = none
  b_all : mg "all" = none
  b_max : mg "max" = none
  b_min : mg "min" = none
  c_MOST_NUMBER : ∃ t, mg "MOST_NUMBER" = some (.int 1000000000000000000000000000000 t)
  c_MOST_MISSED : ∃ t, mg "MOST_MISSED" = some (.int 1000 t)
  g_gcd : mg "gcd" = some (.builtin "math.gcd")
  mgC : mg "InvalidNumber" = some (.ref C)
  mgCA : mg "ArrowError" = some (.ref CA)
  x_InvalidNumber : ErrAt K mg "InvalidNumber" "InvalidNumber.__init__" "given" s_err_InvalidNumber C
  i_InvalidNumber : IsExc K C
  k_InvalidNumber_ArrowError : PySem.W.kitOne K (.ref C) (.ref CA) = some true
  d_is_number : DefAt K mg "is_number" s_is_number ["value"]
  d_is_whole : DefAt K mg "is_whole" s_is_whole ["value", "low", "high"]
  d__need_number : DefAt K mg "_need_number" s_need_number ["value", "low", "high"]
  d__need_track : DefAt K mg "_need_track" s_need_track ["tail", "ring"]
  d__need_walkers : DefAt K mg "_need_walkers" s_need_walkers ["slow", "fast", "lead", "high"]
  d_stop_at : DefAt K mg "stop_at" s_stop_at ["tail", "ring", "steps"]
  d__stop : DefAt K mg "_stop" s_stop ["tail", "ring", "steps"]
  d_meet : DefAt K mg "meet" s_meet ["tail", "ring", "slow", "fast", "lead"]
  d__least_turn : DefAt K mg "_least_turn" s_least_turn ["tail", "ring", "slow", "fast", "lead"]
  d__inverse : DefAt K mg "_inverse" s_inverse ["number", "ring"]
  d_meets_always : DefAt K mg "meets_always" s_meets_always ["slow", "fast", "lead"]
  d__meets_always : DefAt K mg "_meets_always" s_u_meets_always ["slow", "fast", "lead"]
  d_missed_track : DefAt K mg "missed_track" s_missed_track ["slow", "fast", "lead"]
  d__law_well : DefAt K mg "_law_well" s_law_well ["_law_script", "_law_turn"]
  d__law_take : DefAt K mg "_law_take" s_law_take ["_law_well_here", "_law_limit"]
  d__law_pick : DefAt K mg "_law_pick" s_law_pick ["_law_well_here", "_law_some"]
  d__law_stop : DefAt K mg "_law_stop" s_law_stop ["_law_tail_here", "_law_round_here", "_law_paces"]
  d__law_first_meeting : DefAt K mg "_law_first_meeting" s_law_first_meeting ["_law_tail_here", "_law_round_here", "_law_calm", "_law_quick", "_law_gap"]
  d__law_great_number : DefAt K mg "_law_great_number" s_law_great_number ["_law_well_here"]
  d__law_shared : DefAt K mg "_law_shared" s_law_shared ["_law_first", "_law_second"]
  d__law_far_meeting : DefAt K mg "_law_far_meeting" s_law_far_meeting ["_law_tail_here", "_law_round_here", "_law_calm", "_law_quick", "_law_gap"]
  d__law_error : DefAt K mg "_law_error" s_law_error ["_law_branch", "_law_some"]
  d__law_are_refused : DefAt K mg "_law_are_refused" s_law_are_refused ["_law_well_here"]
  d__law_is_small_right : DefAt K mg "_law_is_small_right" s_law_is_small_right ["_law_well_here"]
  d__law_is_missed_right : DefAt K mg "_law_is_missed_right" s_law_is_missed_right ["_law_well_here"]
  d__law_is_great_right : DefAt K mg "_law_is_great_right" s_law_is_great_right ["_law_well_here"]
  d__law_right : DefAt K mg "_law_right" s_law_right ["_law_well_here"]
  d_law : DefAt K mg "law" s_law ["_law_script"]

section
variable (P : Program) (w : World) (K : PySem.W.Frag) (mg : Str → Option Value) (base : Heap)
/-- what a def of the module promises -/
def Pr (x : Str) (st : Stmt) (k : Nat) (ps : List Str) (sp : Sp) : Prop := ∃ (f : Addr) (fd : FuncData), Fun K x x st f fd ∧ mg x = some (.ref f) ∧ Binds K fd ps [] ∧ FnOk P w K mg base CX0 k f fd ps sp
def PrG (x : Str) (st : Stmt) (k : Nat) (ps : List Str) (sp : Sp) : Prop := ∃ (f : Addr) (fd : FuncData), Fun K x x st f fd ∧ mg x = some (.ref f) ∧ Binds K fd ps [] ∧ FnG P w K mg base k f fd ps sp
def PrM (C : Addr) (m q : Str) (st : Stmt) (k : Nat) (ps : List Str) (sp : Sp) : Prop := ∃ (f : Addr) (fd : FuncData), Fun K m q st f fd ∧ Meth K C m f ∧ Binds K fd ps [] ∧ FnOk P w K mg base CX0 k f fd ps sp
def PrI (C : Addr) (q : Str) (st : Stmt) (k : Nat) (ps : List Str) (sp : Sp) : Prop := ∃ (f : Addr) (fd : FuncData), Fun K "__init__" q st f fd ∧ Mk K C f ∧ Binds K fd ps [] ∧ FnOk P w K mg base CX0 k f fd ps sp
def PrE (C : Addr) (q : Str) (st : Stmt) (k : Nat) (sp : Sp) : Prop := ∃ (f : Addr) (fd : FuncData), Fun K "__eq__" q st f fd ∧ OwnEq K C f fd ∧ FnOk P w K mg base CX0 k f fd ["self", "other"] sp
end
section
variable {X : Cx} {k n : Nat} {C : Addr} {ps ks : List Str} {sp : Sp} {x m q : Str} {st : Stmt} {p pos apos : Pos} {e o : Expr} {es : List Expr} {kws : List Keyword} {ta : TE} {t tk : TA}
theorem pe_globI {i : Int} (hg : Gl X x) (hm : ∃ t, X.mg x = some (.int i t)) (hd : (x == ("__debug__" : Str)) = false := by decide) : PE X (.Name x pos) (tC (.int i)) := by
  obtain ⟨t, e⟩ := hm
  exact pe_glob hg e ⟨t, rfl⟩ hd
theorem pe_globS {i : Str} (hg : Gl X x) (hm : ∃ t, X.mg x = some (.str i t)) (hd : (x == ("__debug__" : Str)) = false := by decide) : PE X (.Name x pos) (tC (.str i)) := by
  obtain ⟨t, e⟩ := hm
  exact pe_glob hg e ⟨t, rfl⟩ hd
theorem pe_bty (n : String) (hg : Gl X x) (hm : X.mg x = none) (hv : bootBuiltins x = some (.type n)) (hn : x ≠ "__name__" := by decide) (hd : (x == ("__debug__" : Str)) = false := by decide) : PE X (.Name x pos) (tC (.ty n)) :=
  pe_bltn hg hm hv (show RelV (.ty n) (.type n) from rfl) hn hd
def tCal (sp : Sp) (t : TA) : TE := fun σ H Q => t σ H fun vs H1 => sp vs H1 Q E0
theorem pcall (G : Pr X.prog X.w X.K X.mg X.base x st k ps sp) (hr : Room k X.A) (ha : PA X (e :: es) t) (hg : Gl X x := by rfl) (hdb : (x == ("__debug__" : Str)) = false := by decide)
    (he : starEach (e :: es) X.env = (false, eval e X.env) :: starEach es X.env := by rfl) (hpl : (backTo pos (starEach es X.env)).any (·.1) = false := by rfl) : PE X (.Call (.Name x p) (e :: es) [] pos) (tCal sp t) := by
  obtain ⟨f, fd, F, gl, bd, G⟩ := G
  have h := pe_call (p := p) (pos := pos) G hr hg gl F.kp bd .nil pass0 ha hdb he hpl
  constructor
  intro pins s σ H Q I hq
  refine h.run pins s σ H Q I ?_
  simpa only [tCall, tCal, List.append_nil] using hq
theorem pcallG (G : PrG X.prog X.w X.K X.mg X.base x st k ps sp) (hr : Room k X.A) (hgd : X.A.guards = some []) (ha : PA X (e :: es) t) (hg : Gl X x := by rfl) (hdb : (x == ("__debug__" : Str)) = false := by decide)
    (he : starEach (e :: es) X.env = (false, eval e X.env) :: starEach es X.env := by rfl) (hpl : (backTo pos (starEach es X.env)).any (·.1) = false := by rfl) : PE X (.Call (.Name x p) (e :: es) [] pos) (tCal sp t) := by
  obtain ⟨f, fd, F, gl, bd, G⟩ := G
  exact pe_callG G hr hgd hg gl F.kp bd ha hdb he hpl
def tMet (C : Addr) (m : Str) (sp : Sp) (ta : TE) (t : TA) : TE := fun σ H Q => ta σ H fun x H1 => ∃ a dx fs, x = .ref a ∧ H1 a = some (.ins C dx fs) ∧ fs.lookup m = none ∧ t σ H1 fun vs H2 => sp (x :: vs) H2 Q E0
theorem pmeth {pl : Sem Bool} (he : PE X o ta) (c : Cls X.K C) (G : PrM X.prog X.w X.K X.mg X.base C m q st k ps sp) (hr : Room k X.A) (ha : PA X (e :: es) t)
    (hst : starEach (e :: es) X.env = (false, eval e X.env) :: starEach es X.env := by rfl) (hpl : (backTo pos (starEach es X.env)).any (·.1) = false := by rfl)
    (ht : eval (.Call (.Attribute o m apos) (e :: es) [] pos) X.env = (do
      let ov ← eval o X.env
      standAt apos.atName
      let (f, first) ← holding [ov] (getMethod ov m pl)
      callWith pos f first (backTo pos (starEach (e :: es) X.env)) (backToKw pos (keywordEach [] X.env))) := by rfl) :
    PE X (.Call (.Attribute o m apos) (e :: es) [] pos) (tMet C m sp ta t) := by
  obtain ⟨f, fd, F, hm, bd, G⟩ := G
  have h := pe_meth (pl := pl) (pos := pos) (apos := apos) he c hm G hr bd .nil pass0 ha hst hpl ht
  constructor
  intro pins s σ H Q I hq
  refine h.run pins s σ H Q I ?_
  simpa only [tMeth, tMet, List.append_nil] using hq
def tMak (C : Addr) (sp : Sp) (t : TA) : TE := fun σ H Q => t σ H fun vs H1 => ∀ x dx, H1 x = none → H1 dx = none → dx ≠ x → sp (.ref x :: vs) (upd (upd H1 dx (.own x)) x (.ins C dx [])) (fun v H2 => v = .non ∧ Q (.ref x) H2) E0
theorem pmake (G : PrI X.prog X.w X.K X.mg X.base C q st k ps sp) (hm : X.mg x = some (.ref C)) (hr : Room (k + 1) X.A) (ha : PA X (e :: es) t) (hg : Gl X x := by rfl) (hdb : (x == ("__debug__" : Str)) = false := by decide)
    (he : starEach (e :: es) X.env = (false, eval e X.env) :: starEach es X.env := by rfl) (hpl : (backTo pos (starEach es X.env)).any (·.1) = false := by rfl) : PE X (.Call (.Name x p) (e :: es) [] pos) (tMak C sp t) := by
  obtain ⟨f, fd, F, M, bd, G⟩ := G
  have h := pe_make (p := p) (pos := pos) M G hr hg hm bd .nil pass0 ha hdb he hpl
  constructor
  intro pins s σ H Q I hq
  refine h.run pins s σ H Q I ?_
  simpa only [tMake, tMak, List.append_nil] using hq
def tOwn (C : Addr) (sp : Sp) (g : Bool → Bool) (K : PySem.W.Frag) : R2 := rOwnC C sp g K
theorem pOwnEq (G : PrE X.prog X.w X.K X.mg X.base C q st k sp) (hr : Room k X.A) : OpR X (compareOp .Eq) (tOwn C sp id X.K) := by
  obtain ⟨f, fd, F, O, G⟩ := G
  exact op_ownEq G O hr
theorem pOwnNe (G : PrE X.prog X.w X.K X.mg X.base C q st k sp) (hr : Room (k + 1) X.A) : OpR X (compareOp .NotEq) (tOwn C sp (fun c => !c) X.K) := by
  obtain ⟨f, fd, F, O, G⟩ := G
  exact op_ownNe G O hr
section
variable {g : List Value → List Value → List Value} {gV : List V → List V → List V}
def tCalN (m : Nat) (sp : Sp) (gV : List V → List V → List V) (tk : TA) : TE := fun σ H Q => tk σ H fun zs H2 => zs.length = m ∧ sp (gV [] zs) H2 Q E0
theorem pcallN0 (G : Pr X.prog X.w X.K X.mg X.base x st k ps sp) (hr : Room k X.A) (hb : ∀ {f : Addr} {fd : FuncData}, Fun X.K x x st f fd → KBn X.K fd ps 0 ks g gV) (hkw : PK X kws tk) (hg : Gl X x := by rfl)
    (hall : (backToKw pos (keywordEach kws X.env)).all (·.1.isSome) = true := by rfl) (hks : (backToKw pos (keywordEach kws X.env)).filterMap (·.1) = ks := by rfl)
    (hdb : (x == ("__debug__" : Str)) = false := by decide) (hpl : ((backTo pos (starEach [] X.env)).any (·.1) || (backToKw pos (keywordEach kws X.env)).any (·.1.isNone)) = false := by rfl) :
    PE X (.Call (.Name x p) [] kws pos) (tCalN ks.length sp gV tk) := by
  obtain ⟨f, fd, F, gl, bd, G⟩ := G
  have h := pe_callN0 (p := p) (pos := pos) G hr hg gl F.kp (hb F) pass0 hkw hall hks hdb hpl
  constructor
  intro pins s σ H Q I hq
  refine h.run pins s σ H Q I ?_
  show tk σ H fun zs H2 => ([] : List V).length = 0 ∧ zs.length = ks.length ∧ sp (gV [] zs) H2 Q E0
  simpa only [tCalN, List.length_nil, true_and] using hq
theorem pmethN0 {pl : Sem Bool} (he : PE X o ta) (c : Cls X.K C) (G : PrM X.prog X.w X.K X.mg X.base C m q st k ps sp) (hr : Room k X.A) (hb : ∀ {f : Addr} {fd : FuncData}, Fun X.K m q st f fd → KBn X.K fd ps 1 ks g gV) (hkw : PK X kws tk)
    (hall : (backToKw pos (keywordEach kws X.env)).all (·.1.isSome) = true := by rfl) (hks : (backToKw pos (keywordEach kws X.env)).filterMap (·.1) = ks := by rfl)
    (hpl : ((backTo pos (starEach [] X.env)).any (·.1) || (backToKw pos (keywordEach kws X.env)).any (·.1.isNone)) = false := by rfl)
    (ht : eval (.Call (.Attribute o m apos) [] kws pos) X.env = (do
      let ov ← eval o X.env
      standAt apos.atName
      let (f, first) ← holding [ov] (getMethod ov m pl)
      callWith pos f first (backTo pos (starEach [] X.env)) (backToKw pos (keywordEach kws X.env))) := by rfl) :
    PE X (.Call (.Attribute o m apos) [] kws pos) (tMethN C m ks.length sp gV E0 ta tk) := by
  obtain ⟨f, fd, F, hm, bd, G⟩ := G
  exact pe_methN0 (pl := pl) he c hm G hr (hb F) pass0 hkw hall hks hpl ht
def tMakN (C : Addr) (m : Nat) (sp : Sp) (gV : List V → List V → List V) (tk : TA) : TE := fun σ H Q => tk σ H fun zs H2 => zs.length = m ∧ ∀ x dx, H2 x = none → H2 dx = none → dx ≠ x →
  sp (gV [.ref x] zs) (upd (upd H2 dx (.own x)) x (.ins C dx [])) (fun v H3 => v = .non ∧ Q (.ref x) H3) E0
theorem pmakeK0 (G : PrI X.prog X.w X.K X.mg X.base C q st k ps sp) (hm : X.mg x = some (.ref C)) (hr : Room (k + 1) X.A) (hb : ∀ {f : Addr} {fd : FuncData}, Fun X.K "__init__" q st f fd → KBn X.K fd ps 1 ks g gV) (hkw : PK X kws tk) (hg : Gl X x := by rfl)
    (hall : (backToKw pos (keywordEach kws X.env)).all (·.1.isSome) = true := by rfl) (hks : (backToKw pos (keywordEach kws X.env)).filterMap (·.1) = ks := by rfl) (hdb : (x == ("__debug__" : Str)) = false := by decide)
    (hpl : ((backTo pos (starEach [] X.env)).any (·.1) || (backToKw pos (keywordEach kws X.env)).any (·.1.isNone)) = false := by rfl) :
    PE X (.Call (.Name x p) [] kws pos) (tMakN C ks.length sp gV tk) := by
  obtain ⟨f, fd, F, M, bd, G⟩ := G
  have h := pe_makeK0 (p := p) (pos := pos) M G hr hg hm (hb F) pass0 hkw hall hks hdb hpl
  constructor
  intro pins s σ H Q I hq
  refine h.run pins s σ H Q I ?_
  show tk σ H fun zs H2 => ([] : List V).length = 0 ∧ zs.length = ks.length ∧ ∀ x dx, H2 x = none → H2 dx = none → dx ≠ x → sp (gV [.ref x] zs) (upd (upd H2 dx (.own x)) x (.ins C dx [])) (fun v H3 => v = .non ∧ Q (.ref x) H3) E0
  simpa only [tMakN, List.length_nil, true_and] using hq
end
end
def PrC (P : Program) (w : World) (K : PySem.W.Frag) (mg : Str → Option Value) (base : Heap) (C : Addr) (q : Str) (st : Stmt) (k : Nat) (ps : List Str) (sp : Sp) : Prop := ∃ (f : Addr) (fd : FuncData), Fun K "__contains__" q st f fd ∧ OwnIn K C f fd ps ∧ FnOk P w K mg base CX0 k f fd ps sp
theorem pOwnIn {X : Cx} {C : Addr} {q : Str} {st : Stmt} {k : Nat} {ps : List Str} {sp : Sp} (G : PrC X.prog X.w X.K X.mg X.base C q st k ps sp) (hr : Room k X.A) : OpR X (compareOp .In) (rOwnIn C sp) := by
  obtain ⟨f, fd, F, O, G⟩ := G
  exact op_ownIn G O hr
theorem kb_one {K : PySem.W.Frag} {n q a : Str} {st : Stmt} {f : Addr} {fd : FuncData} (F : Fun K n q st f fd) (h : ∀ (kV doc pm : Value) (an : Option Addr) (cdv ct : Value) (u : Value), bindArgs (PySem.W.fnOf n q (defArgs st) (defBody st) (defScope st) .none kV doc pm an cdv ct) ⟨[], [(a, u)]⟩ = pure [(a, u)]) : KBn K fd [a] 0 [a] (fun us ws => us ++ ws) (fun vs zs => vs ++ zs) := by
  obtain ⟨oc, od, kV, doc, pm, an, cdv, ct, osl, rfl, lk, hcd⟩ := F.ex
  exact kbn_of (fun us ws => us ++ ws) (fun h1 h2 => h1.append h2) (fun us ws h1 h2 => match us, ws, h1, h2 with | [], [u], _, _ => h _ _ _ _ _ _ u)

/-! ### defs that may raise -/
def PrX (P : Program) (w : World) (K : PySem.W.Frag) (mg : Str → Option Value) (base : Heap) (x : Str) (st : Stmt) (k : Nat) (ps : List Str) (sp : Sp) : Prop := ∃ (f : Addr) (fd : FuncData), Fun K x x st f fd ∧ mg x = some (.ref f) ∧ Binds K fd ps [] ∧ FnOk P w K mg base (L2.CX P w) k f fd ps sp
def PrMX (P : Program) (w : World) (K : PySem.W.Frag) (mg : Str → Option Value) (base : Heap) (C : Addr) (m q : Str) (st : Stmt) (k : Nat) (ps : List Str) (sp : Sp) : Prop := ∃ (f : Addr) (fd : FuncData), Fun K m q st f fd ∧ Meth K C m f ∧ Binds K fd ps [] ∧ FnOk P w K mg base (L2.CX P w) k f fd ps sp
def PrIX (P : Program) (w : World) (K : PySem.W.Frag) (mg : Str → Option Value) (base : Heap) (C : Addr) (q : Str) (st : Stmt) (k : Nat) (ps : List Str) (sp : Sp) : Prop := ∃ (f : Addr) (fd : FuncData), Fun K "__init__" q st f fd ∧ Mk K C f ∧ Binds K fd ps [] ∧ FnOk P w K mg base (L2.CX P w) k f fd ps sp
section
variable {X : Cx} {k n : Nat} {C : Addr} {ps ks : List Str} {sp : Sp} {x m q : Str} {st : Stmt} {p pos apos : Pos} {e o : Expr} {es : List Expr} {kws : List Keyword} {ta : TE} {t tk : TA} {W : WX}
def tCalX (sp : Sp) (E : XK) (t : TA) : TE := fun σ H Q => t σ H fun vs H1 => sp vs H1 Q E
theorem pcallX (E : XK) (G : PrX X.prog X.w X.K X.mg X.base x st k ps sp) (hr : Room k X.A) (hx : Passes (L2.CX X.prog X.w) X E) (ha : PA X (e :: es) t) (hg : Gl X x := by rfl) (hdb : (x == ("__debug__" : Str)) = false := by decide)
    (he : starEach (e :: es) X.env = (false, eval e X.env) :: starEach es X.env := by rfl) (hpl : (backTo pos (starEach es X.env)).any (·.1) = false := by rfl) : PE X (.Call (.Name x p) (e :: es) [] pos) (tCalX sp E t) := by
  obtain ⟨f, fd, F, gl, bd, G⟩ := G
  have h := pe_call (p := p) (pos := pos) G hr hg gl F.kp bd .nil hx ha hdb he hpl
  constructor
  intro pins s σ H Q I hq
  refine h.run pins s σ H Q I ?_
  simpa only [tCall, tCalX, List.append_nil] using hq
/-- in a try's body -/
def tCalW (sp : Sp) (W : WX) (t : TA) : TE := fun σ H Q => t σ H fun vs H1 => sp vs H1 Q fun cls d H' => W cls d σ H'
theorem pcallW (G : PrX X.prog X.w X.K X.mg X.base x st k ps sp) (hr : Room k X.A) (tk : Takes X W) (ha : PA X (e :: es) t) (hg : Gl X x := by rfl) (hdb : (x == ("__debug__" : Str)) = false := by decide)
    (he : starEach (e :: es) X.env = (false, eval e X.env) :: starEach es X.env := by rfl) (hpl : (backTo pos (starEach es X.env)).any (·.1) = false := by rfl) : PE X (.Call (.Name x p) (e :: es) [] pos) (tCalW sp W t) := by
  obtain ⟨f, fd, F, gl, bd, G⟩ := G
  exact pe_callS (p := p) (pos := pos) G hr hg gl F.kp bd (fun σ => passAt tk σ) ha hdb he hpl
theorem pcallXN0 {g : List Value → List Value → List Value} {gV : List V → List V → List V} (E : XK) (G : PrX X.prog X.w X.K X.mg X.base x st k ps sp) (hr : Room k X.A) (hx : Passes (L2.CX X.prog X.w) X E) (hb : ∀ {f : Addr} {fd : FuncData}, Fun X.K x x st f fd → KBn X.K fd ps 0 ks g gV) (hkw : PK X kws tk) (hg : Gl X x := by rfl)
    (hall : (backToKw pos (keywordEach kws X.env)).all (·.1.isSome) = true := by rfl) (hks : (backToKw pos (keywordEach kws X.env)).filterMap (·.1) = ks := by rfl)
    (hdb : (x == ("__debug__" : Str)) = false := by decide) (hpl : ((backTo pos (starEach [] X.env)).any (·.1) || (backToKw pos (keywordEach kws X.env)).any (·.1.isNone)) = false := by rfl) :
    PE X (.Call (.Name x p) [] kws pos) (fun σ H Q => tk σ H fun zs H2 => zs.length = ks.length ∧ sp (gV [] zs) H2 Q E) := by
  obtain ⟨f, fd, F, gl, bd, G⟩ := G
  have h := pe_callN0 (p := p) (pos := pos) G hr hg gl F.kp (hb F) hx hkw hall hks hdb hpl
  constructor
  intro pins s σ H Q I hq
  refine h.run pins s σ H Q I ?_
  show tk σ H fun zs H2 => ([] : List V).length = 0 ∧ zs.length = ks.length ∧ sp (gV [] zs) H2 Q E
  simpa only [List.length_nil, true_and] using hq
end
theorem kb_ord {K : PySem.W.Frag} {n q : Str} {st : Stmt} {ps : List Str} {f : Addr} {fd : FuncData} (F : Fun K n q st f fd) (h : ∀ (kV doc pm : Value) (an : Option Addr) (cdv ct : Value) (us ws : List Value), us.length = 0 → ws.length = ps.length → bindArgs (PySem.W.fnOf n q (defArgs st) (defBody st) (defScope st) .none kV doc pm an cdv ct) ⟨us, ps.zip ws⟩ = pure (ps.zip (us ++ ws))) : KBn K fd ps 0 ps (fun us ws => us ++ ws) (fun vs zs => vs ++ zs) := by
  obtain ⟨oc, od, kV, doc, pm, an, cdv, ct, osl, rfl, lk, hcd⟩ := F.ex
  exact kbn_of (fun us ws => us ++ ws) (fun h1 h2 => h1.append h2) (fun us ws h1 h2 => h _ _ _ _ _ _ us ws h1 h2)
theorem kb_stop_at {K : PySem.W.Frag} {f : Addr} {fd : FuncData} (F : Fun K "stop_at" "stop_at" s_stop_at f fd) : KBn K fd ["tail", "ring", "steps"] 0 ["tail", "ring", "steps"] (fun us ws => us ++ ws) (fun vs zs => vs ++ zs) := kb_ord F (fun _ _ _ _ _ _ us ws h1 h2 => match us, ws, h1, h2 with | [], [_, _, _], _, _ => rfl)
theorem kb_meet {K : PySem.W.Frag} {f : Addr} {fd : FuncData} (F : Fun K "meet" "meet" s_meet f fd) : KBn K fd ["tail", "ring", "slow", "fast", "lead"] 0 ["tail", "ring", "slow", "fast", "lead"] (fun us ws => us ++ ws) (fun vs zs => vs ++ zs) := kb_ord F (fun _ _ _ _ _ _ us ws h1 h2 => match us, ws, h1, h2 with | [], [_, _, _, _, _], _, _ => rfl)
theorem kb_missed_track {K : PySem.W.Frag} {f : Addr} {fd : FuncData} (F : Fun K "missed_track" "missed_track" s_missed_track f fd) : KBn K fd ["slow", "fast", "lead"] 0 ["slow", "fast", "lead"] (fun us ws => us ++ ws) (fun vs zs => vs ++ zs) := kb_ord F (fun _ _ _ _ _ _ us ws h1 h2 => match us, ws, h1, h2 with | [], [_, _, _], _, _ => rfl)
theorem kb_meets_always {K : PySem.W.Frag} {f : Addr} {fd : FuncData} (F : Fun K "meets_always" "meets_always" s_meets_always f fd) : KBn K fd ["slow", "fast", "lead"] 0 ["slow", "fast", "lead"] (fun us ws => us ++ ws) (fun vs zs => vs ++ zs) := kb_ord F (fun _ _ _ _ _ _ us ws h1 h2 => match us, ws, h1, h2 with | [], [_, _, _], _, _ => rfl)
theorem ok_err_InvalidNumber {P : Program} {w : World} {K : PySem.W.Frag} {mg : Str → Option Value} {base : Heap} {C CA : Addr} (T : Txt K mg C CA) : PrErr P w K mg base "InvalidNumber" "given" C := by
  obtain ⟨fI, fd, F, iC, tI, bd⟩ := T.x_InvalidNumber.fn
  refine ⟨T.x_InvalidNumber.gC, T.x_InvalidNumber.ox, fI, fd, iC, tI, bd, F.ok sc_err_InvalidNumber (fun vs H Q E h => ?_) (fun cdv A outer s H vs Q E hr h => ?_)⟩
  · obtain ⟨_, _, rfl, _⟩ := h
    rfl
  · obtain ⟨a, v, rfl, ha, k⟩ := h
    exact ⟨_, pss_one (ps_ost (pv 0) (pv 1)), ⟨_, rfl, _, rfl, a, C, rfl, T.x_InvalidNumber.ox, T.x_InvalidNumber.no, .inl ⟨ha, fun dx h1 h2 => k dx h1 h2⟩⟩⟩
end K1
/-! Heaps, data, promises. -/
namespace K1
open PySem PySem.Spec L2 Z
/-! ### what never changes -/
def Imm (H H' : Hp) : Prop := (∀ b xs, H b = some (.tup xs) → H' b = some (.tup xs)) ∧ ∀ b o u, H b = some (.frz o u) → H' b = some (.frz o u)
theorem Imm.refl (H : Hp) : Imm H H := ⟨fun _ _ h => h, fun _ _ _ h => h⟩
theorem Imm.trans {H H1 H2 : Hp} (a : Imm H H1) (b : Imm H1 H2) : Imm H H2 := ⟨fun c xs h => b.1 c xs (a.1 c xs h), fun c o u h => b.2 c o u (a.2 c o u h)⟩
theorem Imm.of {H H' : Hp} (e : Same H H') : Imm H H' := ⟨fun b xs h => e b _ h, fun b o u h => e b _ h⟩
theorem same_new {H : Hp} {p : Addr} {o : HO} (h : H p = none) : Same H (upd H p o) := fun b x e => by
  rw [upd_ne (ne_of_none e h)]
  exact e
/-- all but the thing at j is as it was -/
def Chg (j : Addr) (H H' : Hp) : Prop := ∀ b o, H b = some o → b ≠ j → H' b = some o
theorem Chg.refl (j : Addr) (H : Hp) : Chg j H H := fun _ _ h _ => h
theorem Chg.trans {j : Addr} {H H1 H2 : Hp} (a : Chg j H H1) (b : Chg j H1 H2) : Chg j H H2 := fun c o h n => b c o (a c o h n) n
theorem Chg.of {j : Addr} {H H' : Hp} (e : Same H H') : Chg j H H' := fun b o h _ => e b o h
theorem Chg.upd {j : Addr} {H : Hp} {o : HO} : Chg j H (upd H j o) := fun b x e n => by
  rw [upd_ne n]
  exact e
def Mu : HO → Prop
  | .tup _ => False
  | .frz _ _ => False
  | _ => True
theorem Chg.imm {j : Addr} {H H' : Hp} {u : HO} (e : Chg j H H') (h : H j = some u) (m : Mu u) : Imm H H' := by
  refine ⟨fun b xs q => e b _ q fun z => ?_, fun b o x q => e b _ q fun z => ?_⟩
  · subst z
    rw [h] at q
    cases q
    exact m
  · subst z
    rw [h] at q
    cases q
    exact m
theorem SqT.imm {K : PySem.W.Frag} {H H' : Hp} {a : Addr} {xs : List V} (e : Imm H H') (h : SqT K H a xs) : SqT K H' a xs := by
  rcases h with (h | ⟨o, h⟩) | h
  · exact .inl (.inl (e.1 _ _ h))
  · exact .inl (.inr ⟨o, e.2 _ _ _ h⟩)
  · exact .inr h
theorem PT.imm {H H' : Hp} {a : Addr} {xs : List V} (e : Imm H H') (h : PT H a xs) : PT H' a xs := by
  obtain ⟨o, q, ho⟩ := h
  exact ⟨o, e.2 _ _ _ q, ho⟩
theorem SqL.chg {K : PySem.W.Frag} {j : Addr} {H H' : Hp} {a : Addr} {xs : List V} (e : Chg j H H') (n : a ≠ j) (h : SqL K H a xs) : SqL K H' a xs := by
  rcases h with (h | ⟨o, h⟩) | h
  · exact .inl (.inl (e _ _ h n))
  · exact .inl (.inr ⟨o, e _ _ h n⟩)
  · exact .inr h
theorem SqT.ty {K : PySem.W.Frag} {H : Hp} {a : Addr} {xs : List V} (h : SqT K H a xs) : TyX K H (.ref a) (.type "tuple") := by
  rcases h with (h | ⟨o, h⟩) | ⟨o, its, n, h, hc, _⟩
  · exact .base (.tup h)
  · exact .fTuple h
  · exact .kTuple h hc
/-! ### tuples of pairs -/
def TP (K : PySem.W.Frag) (H : Hp) (v : V) (ls : List (V × V)) : Prop := ∃ (a : Addr) (rs : List Addr), v = .ref a ∧ PT H a (rs.map V.ref) ∧ Paired (fun b (p : V × V) => SqT K H b [p.1, p.2]) rs ls
theorem Paired.imm {K : PySem.W.Frag} {H H' : Hp} (e : Imm H H') : ∀ {rs : List Addr} {ls : List (V × V)}, Paired (fun b (p : V × V) => SqT K H b [p.1, p.2]) rs ls → Paired (fun b (p : V × V) => SqT K H' b [p.1, p.2]) rs ls
  | _, _, .nil => .nil
  | _, _, .cons h t => .cons (SqT.imm e h) (Paired.imm e t)
theorem TP.imm {K : PySem.W.Frag} {H H' : Hp} {v : V} {ls : List (V × V)} (e : Imm H H') (h : TP K H v ls) : TP K H' v ls := by
  obtain ⟨a, rs, ev, p, q⟩ := h
  exact ⟨a, rs, ev, PT.imm e p, Paired.imm e q⟩
theorem Paired.len {α β : Type} {F : α → β → Prop} : ∀ {l : List α} {m : List β}, Paired F l m → l.length = m.length
  | _, _, .nil => rfl
  | _, _, .cons _ t => congrArg Nat.succ (Paired.len t)
theorem Paired.at {α β : Type} {F : α → β → Prop} : ∀ {l : List α} {m : List β} {i : Nat} {x : α}, Paired F l m → l[i]? = some x → ∃ y, m[i]? = some y ∧ F x y
  | _, _, _, _, .nil, e => by simp at e
  | _, _, 0, _, .cons h _, e => by
    simp at e
    subst e
    exact ⟨_, rfl, h⟩
  | _, _, i + 1, _, .cons _ t, e => by
    obtain ⟨y, h1, h2⟩ := Paired.at (i := i) t (by simpa using e)
    exact ⟨y, by simpa using h1, h2⟩
theorem Paired.snoc {α β : Type} {F : α → β → Prop} {x : α} {y : β} (h : F x y) : ∀ {l : List α} {m : List β}, Paired F l m → Paired F (l ++ [x]) (m ++ [y])
  | _, _, .nil => .cons h .nil
  | _, _, .cons a t => .cons a (Paired.snoc h t)
theorem Paired.app {α β : Type} {F : α → β → Prop} : ∀ {l l2 : List α} {m m2 : List β}, Paired F l m → Paired F l2 m2 → Paired F (l ++ l2) (m ++ m2)
  | _, _, _, _, .nil, h => h
  | _, _, _, _, .cons a t, h => .cons a (Paired.app t h)
/-- the i-th turn over a tuple of pairs -/
theorem pairs_at {K : PySem.W.Frag} {H : Hp} {rs : List Addr} {ls : List (V × V)} {i : Nat} {x : V} (q : Paired (fun b (p : V × V) => SqT K H b [p.1, p.2]) rs ls) (e : (rs.map V.ref)[i]? = some x) :
    ∃ b p, x = .ref b ∧ rs[i]? = some b ∧ ls[i]? = some p ∧ SqT K H b [p.1, p.2] := by
  rw [List.getElem?_map] at e
  cases hb : rs[i]? with
  | none => rw [hb] at e; cases e
  | some b =>
    rw [hb] at e
    cases e
    obtain ⟨p, h1, h2⟩ := Paired.at q hb
    exact ⟨b, p, rfl, rfl, h1, h2⟩
/-! ### the data of a store -/
def ch (c : Nat) : Str := ⟨#[c]⟩
def nV (p : Nat × Int) : V × V := (.str (ch p.1), .int p.2)
def cV (p : Int × Int) : V × V := (.int p.1, .int p.2)
structure NOk (ns : List (Nat × Int)) : Prop where
  one : 1 ≤ ns.length
  four : ns.length ≤ 4
  let_ : ∀ p ∈ ns, 97 ≤ p.1 ∧ p.1 ≤ 122
  pl : ∀ p ∈ ns, 0 ≤ p.2 ∧ p.2 ≤ 999
  asc : (ns.map (·.1)).Pairwise (· < ·)
structure COk (cs : List (Int × Int)) : Prop where
  few : cs.length ≤ 400
  pl : ∀ p ∈ cs, 1 ≤ p.1 ∧ p.1 ≤ 999 ∧ 0 ≤ p.2 ∧ p.2 ≤ 999
  asc : (cs.map (·.1)).Pairwise (· < ·)
def numS (i : Int) : Str := Str.ofString (toString i)
def nameW (p : Nat × Int) : Str := ch p.1 ++ Str.ofString "=" ++ numS p.2
def cellW (p : Int × Int) : Str := numS p.1 ++ Str.ofString ">" ++ numS p.2
def sp1 : Str := Str.ofString " "
def nTxt (ns : List (Nat × Int)) : Str := Txt.join sp1 (ns.map nameW)
def cTxt (cs : List (Int × Int)) : Str := if cs = [] then Str.ofString "none" else Txt.join sp1 (cs.map cellW)
def stTxt (ns : List (Nat × Int)) (cs : List (Int × Int)) : Str := nTxt ns ++ Str.ofString " | " ++ cTxt cs
def lTxt (ns : List (Nat × Int)) : Str := Txt.join Str.empty (ns.map fun p => ch p.1)
def goals (ns : List (Nat × Int)) (cs : List (Int × Int)) : List Int := ns.map (·.2) ++ cs.map (·.2)
def lookC (cs : List (Int × Int)) (i : Int) : V := match cs.find? (fun p => decide (p.1 = i)) with
  | some p => .int p.2
  | none => .non
def isC (cs : List (Int × Int)) (i : Int) : Bool := cs.any fun p => decide (p.1 = i)
def goneB (ns : List (Nat × Int)) (cs : List (Int × Int)) (i : Int) : Bool := !decide (i = 0) && (!isC cs i && decide (i ∈ goals ns cs))
/-! ### a store -/
def flds (v u : V) (lt tx : Str) (pd ad ld : Addr) : List (Str × V) :=
  [("names", v), ("cells", u), ("letters", .str lt), ("text", .str tx), ("places", .ref pd), ("arrows", .ref ad), ("led_to", .ref ld)]
def kN (ns : List (Nat × Int)) : List (Key × V) := ns.map fun p => (Sum.inr (ch p.1), V.int p.2)
def kC (cs : List (Int × Int)) : List (Key × V) := cs.map fun p => (Sum.inl p.1, V.int p.2)
structure StoreAt (K : PySem.W.Frag) (C : Addr) (H : Hp) (x : Addr) (v u : V) (ns : List (Nat × Int)) (cs : List (Int × Int)) (dx pd ad ld : Addr) (ks : List (Key × V)) : Prop where
  ob : H x = some (.ins C dx (flds v u (lTxt ns) (stTxt ns cs) pd ad ld))
  nm : TP K H v (ns.map nV)
  ce : TP K H u (cs.map cV)
  pd_ : H pd = some (.dK (kN ns))
  ad_ : H ad = some (.dK (kC cs))
  ld_ : H ld = some (.dK ks)
  led : ∀ i : Int, (valV ks (Sum.inl i : Key)).isSome = decide (i ∈ goals ns cs)
  nok : NOk ns
  cok : COk cs
def St (K : PySem.W.Frag) (C : Addr) (H : Hp) (x : Addr) (ns : List (Nat × Int)) (cs : List (Int × Int)) : Prop := ∃ v u dx pd ad ld ks, StoreAt K C H x v u ns cs dx pd ad ld ks
theorem St.same {K : PySem.W.Frag} {C : Addr} {H H' : Hp} {x : Addr} {ns : List (Nat × Int)} {cs : List (Int × Int)} (e : Same H H') (h : St K C H x ns cs) : St K C H' x ns cs := by
  obtain ⟨v, u, dx, pd, ad, ld, ks, S⟩ := h
  exact ⟨v, u, dx, pd, ad, ld, ks, e _ _ S.ob, S.nm.imm (.of e), S.ce.imm (.of e), e _ _ S.pd_, e _ _ S.ad_, e _ _ S.ld_, S.led, S.nok, S.cok⟩
theorem St.chg {K : PySem.W.Frag} {C j : Addr} {H H' : Hp} {x : Addr} {ns : List (Nat × Int)} {cs : List (Int × Int)} {l : List V} (e : Chg j H H') (hj : H j = some (.lst l)) (h : St K C H x ns cs) : St K C H' x ns cs := by
  obtain ⟨v, u, dx, pd, ad, ld, ks, S⟩ := h
  have im : Imm H H' := e.imm hj trivial
  have n : ∀ {b : Addr} {o : HO}, H b = some o → o ≠ .lst l → H' b = some o := fun q d => e _ _ q (ne_of q hj d)
  exact ⟨v, u, dx, pd, ad, ld, ks, n S.ob (fun z => nomatch z), S.nm.imm im, S.ce.imm im, n S.pd_ (fun z => nomatch z), n S.ad_ (fun z => nomatch z), n S.ld_ (fun z => nomatch z), S.led, S.nok, S.cok⟩
/-! ### promises -/
def JugAt (H : Hp) (j : Addr) : Prop := ∃ g s c : Int, H j = some (.lst [.int g, .int s, .int c]) ∧ -(2 ^ 64) < s ∧ s < 2 ^ 64
section
variable (K : PySem.W.Frag) (C : Addr)
def sp_is_number : Sp := fun vs H Q _ => ∃ (i : Int), vs = [.int i] ∧ Q (.bl true) H
def sp_is_whole : Sp := fun vs H Q _ => ∃ (i : Int) (lo : Int) (hi : Int), vs = [.int i, .int lo, .int hi] ∧ lo ≤ i ∧ i ≤ hi ∧ Q (.bl true) H
def sp_is_place : Sp := fun vs H Q _ => ∃ (i : Int), vs = [.int i] ∧ 0 ≤ i ∧ i ≤ 999 ∧ Q (.bl true) H
def sp_is_letter : Sp := fun vs H Q _ => ∃ (c : Nat), vs = [.str (ch c)] ∧ 97 ≤ c ∧ c ≤ 122 ∧ Q (.bl true) H
def sp_is_tuple_of : Sp := fun vs H Q _ => ∃ (a : Addr) (xs : List V), vs = [.ref a, .int (xs.length : Int)] ∧ SqT K H a xs ∧ Q (.bl true) H
def sp_number_in : Sp := fun vs H Q _ => ∃ i : Int, vs = [.str (numS i), .int 999] ∧ 0 ≤ i ∧ i ≤ 999 ∧ Q (.int i) H
def sp_are_store_names : Sp := fun vs H Q _ => ∃ (v : V) (ns : List (Nat × Int)), vs = [v] ∧ TP K H v (ns.map nV) ∧ NOk ns ∧ Q (.bl true) H
def sp_wrong_cell : Sp := fun vs H Q _ => ∃ (v : V) (cs : List (Int × Int)), vs = [v] ∧ TP K H v (cs.map cV) ∧ COk cs ∧ ∀ (H' : Hp), Same H H' → Q .non H'
def sp_store_text : Sp := fun vs H Q _ => ∃ (v : V) (u : V) (ns : List (Nat × Int)) (cs : List (Int × Int)), vs = [v, u] ∧ TP K H v (ns.map nV) ∧ TP K H u (cs.map cV) ∧ NOk ns ∧ COk cs ∧ ∀ (H' : Hp), Same H H' → Q (.str (stTxt ns cs)) H'
def sp_init : Sp := fun vs H Q _ => ∃ (x : Addr) (dx : Addr) (v : V) (u : V) (ns : List (Nat × Int)) (cs : List (Int × Int)), vs = [.ref x, v, u] ∧ H x = some (.ins C dx []) ∧ TP K H v (ns.map nV) ∧ TP K H u (cs.map cV) ∧ NOk ns ∧ COk cs ∧
  ∀ (H' : Hp), St K C H' x ns cs → Chg x H H' → Q .non H'
def sp_eq : Sp := fun vs H Q _ => ∃ (x : Addr) (y : V) (ns : List (Nat × Int)) (cs : List (Int × Int)), vs = [.ref x, y] ∧ St K C H x ns cs ∧
  ((∃ (x' : Addr) (ns' : List (Nat × Int)) (cs' : List (Int × Int)), y = .ref x' ∧ St K C H x' ns' cs' ∧ Q (.bl (decide (ns = ns' ∧ cs = cs'))) H) ∨ (((∃ (z : Str), y = .str z) ∨ (∃ (i : Int), y = .int i) ∨ ∃ (a : Addr) (xs : List V), y = .ref a ∧ SqT K H a xs) ∧ Q (.bl false) H))
def sp_at : Sp := fun vs H Q _ => ∃ (x : Addr) (ns : List (Nat × Int)) (cs : List (Int × Int)) (p : Nat × Int), vs = [.ref x, .str (ch p.1)] ∧ St K C H x ns cs ∧ p ∈ ns ∧ Q (.int p.2) H
def sp_arrow : Sp := fun vs H Q _ => ∃ (x : Addr) (ns : List (Nat × Int)) (cs : List (Int × Int)) (i : Int), vs = [.ref x, .int i] ∧ St K C H x ns cs ∧ 0 ≤ i ∧ i ≤ 999 ∧ Q (lookC cs i) H
def sp_is_gone : Sp := fun vs H Q _ => ∃ (x : Addr) (ns : List (Nat × Int)) (cs : List (Int × Int)) (i : Int), vs = [.ref x, .int i] ∧ St K C H x ns cs ∧ 0 ≤ i ∧ i ≤ 999 ∧ Q (.bl (goneB ns cs i)) H
def sp_name_in : Sp := fun vs H Q _ => ∃ p : Nat × Int, vs = [.str (nameW p)] ∧ 97 ≤ p.1 ∧ p.1 ≤ 122 ∧ 0 ≤ p.2 ∧ p.2 ≤ 999 ∧ ∀ (H' : Hp) (b : Addr), Same H H' → H b = none → H' b = some (.tup [(nV p).1, (nV p).2]) → Q (.ref b) H'
def sp_cell_in : Sp := fun vs H Q _ => ∃ p : Int × Int, vs = [.str (cellW p)] ∧ 0 ≤ p.1 ∧ p.1 ≤ 999 ∧ 0 ≤ p.2 ∧ p.2 ≤ 999 ∧ ∀ (H' : Hp) (b : Addr), Same H H' → H b = none → H' b = some (.tup [(cV p).1, (cV p).2]) → Q (.ref b) H'
def sp_read_store : Sp := fun vs H Q _ => ∃ (ns : List (Nat × Int)) (cs : List (Int × Int)), vs = [.str (stTxt ns cs)] ∧ NOk ns ∧ COk cs ∧ ∀ (H' : Hp) (x : Addr), Same H H' → H x = none → St K C H' x ns cs → Q (.ref x) H'
def sp_law_jug : Sp := fun vs H Q _ => ∃ (a : Addr) (ns : List Int) (t : Int), vs = [.ref a, .int t] ∧ SqL K H a (ns.map V.int) ∧ 0 ≤ t ∧ t ≤ 1000 ∧ ns.length ≤ 63 ∧ ∀ (H' : Hp) (j : Addr), Same H H' → H j = none → JugAt H' j → Q (.ref j) H'
def sp_law_take : Sp := fun vs H Q _ => ∃ (j : Addr) (m : Int), vs = [.ref j, .int m] ∧ JugAt H j ∧ 1 ≤ m ∧ m < 1000000 ∧ ∀ (H' : Hp) (k : Int), Chg j H H' → JugAt H' j → 0 ≤ k → k < m → Q (.int k) H'
def sp_law_one_of : Sp := fun vs H Q _ => ∃ (j : Addr) (l : Addr) (xs : List V), vs = [.ref j, .ref l] ∧ JugAt H j ∧ l ≠ j ∧ SqL K H l xs ∧ xs ≠ [] ∧ xs.length < 1000000 ∧ ∀ (H' : Hp) (x : V), Chg j H H' → JugAt H' j → x ∈ xs → Q x H'
def sp_law_letters : Sp := fun vs H Q _ => ∃ (j : Addr) (m : Int), vs = [.ref j, .int m] ∧ JugAt H j ∧ 1 ≤ m ∧ m ≤ 4 ∧ ∀ H' p (cs : List Nat), Chg j H H' → JugAt H' j → H p = none → H' p = some (.lst (cs.map fun c => V.str (ch c))) → (cs.length : Int) = m →
  (∀ c ∈ cs, 97 ≤ c ∧ c ≤ 122) → cs.Pairwise (· < ·) → Q (.ref p) H'
def sp_law_drawn_cells : Sp := fun vs H Q _ => ∃ (j : Addr) (m : Int), vs = [.ref j, .int m] ∧ JugAt H j ∧ 0 ≤ m ∧ m ≤ 30 ∧ ∀ H' t pc pg (rs : List Addr) (cs : List (Int × Int)) (gs : List Int), Chg j H H' → JugAt H' j → H' t = some (.tup [.ref pc, .ref pg]) →
  H pc = none → H' pc = some (.lst (rs.map V.ref)) → Paired (fun b (p : V × V) => SqT K H' b [p.1, p.2]) rs (cs.map cV) → H pg = none → H' pg = some (.lst (gs.map V.int)) → gs ≠ [] → gs.length ≤ 100 → (∀ g ∈ gs, 0 ≤ g ∧ g ≤ 999) → COk cs → cs.length ≤ 30 → Q (.ref t) H'
def sp_law_arrows : Sp := fun vs H Q _ => ∃ (u : V) (cs : List (Int × Int)), vs = [u] ∧ TP K H u (cs.map cV) ∧ COk cs ∧ ∀ (H' : Hp) (d : Addr), Same H H' → H d = none → H' d = some (.dK (kC cs)) → Q (.ref d) H'
def sp_law_turned : Sp := fun vs H Q _ => ∃ (j : Addr) (v : V) (u : V) (g : Addr) (ns : List (Nat × Int)) (cs : List (Int × Int)) (gs : List Int), vs = [.ref j, v, u, .ref g] ∧ JugAt H j ∧ g ≠ j ∧ H g = some (.lst (gs.map V.int)) ∧ gs ≠ [] ∧ gs.length ≤ 100 ∧ (∀ i ∈ gs, 0 ≤ i ∧ i ≤ 999) ∧ TP K H v (ns.map nV) ∧ TP K H u (cs.map cV) ∧ NOk ns ∧ COk cs ∧
  ∀ (H' : Hp) (t : Addr) (v' : V) (u' : V) (ns' : List (Nat × Int)) (cs' : List (Int × Int)), Chg j H H' → JugAt H' j → SqT K H' t [v', u'] → TP K H' v' (ns'.map nV) → TP K H' u' (cs'.map cV) → NOk ns' → COk cs' → Q (.ref t) H'
def sp_law_tells : Sp := fun vs H Q _ => ∃ (x : Addr) (v : V) (u : V) (ns : List (Nat × Int)) (cs : List (Int × Int)), vs = [.ref x, v, u] ∧ St K C H x ns cs ∧ TP K H v (ns.map nV) ∧ TP K H u (cs.map cV) ∧ ∀ (H' : Hp), Same H H' → Q (.bl true) H'
def sp_law_places_right : Sp := fun vs H Q _ => ∃ (x : Addr) (v : V) (u : V) (l : Addr) (ns : List (Nat × Int)) (cs : List (Int × Int)) (ps : List Int), vs = [.ref x, v, u, .ref l] ∧ St K C H x ns cs ∧ TP K H v (ns.map nV) ∧ TP K H u (cs.map cV) ∧ H l = some (.lst (ps.map V.int)) ∧ ps ≠ [] ∧ (∀ i ∈ ps, 0 ≤ i ∧ i ≤ 999) ∧ ∀ (H' : Hp), Same H H' → Q (.bl true) H'
def sp_law_right : Sp := fun vs H Q _ => ∃ (j : Addr), vs = [.ref j] ∧ JugAt H j ∧ ∀ (H' : Hp), Chg j H H' → Q (.bl true) H'
def sp_law : Sp := fun vs H Q _ => ∃ (a : Addr) (ns : List Int), vs = [.ref a] ∧ SqL K H a (ns.map V.int) ∧ ns.length ≤ 63 ∧ ∀ (H' : Hp), Q (.bl true) H'
end
end K1
/-! Walks over anything; texts; small lemmas. -/
namespace K1
open PySem PySem.Spec L2 Z
theorem for_it {J : It} {n : Nat} {g : TG} {tb : TS} {D : Ends} {σ : L2.St} {H : Hp} (Pv : Nat → L2.St → Hp → Prop) (h0 : Pv 0 σ H) (go : ∀ i σ H, i < n → Pv i σ H → J.go i H) (stop : ∀ σ H, Pv n σ H → J.stop n H)
    (hs : ∀ i v σ H H', i < n → Pv i σ H → J.yld i H v H' → g v σ H' fun σ2 H2 => tb { D with nx := Pv (i + 1), ct := Pv (i + 1), bk := D.nx } σ2 H2) (hd : ∀ σ H, Pv n σ H → D.nx σ H) :
    ∃ W : Nat → Nat → L2.St → Hp → Prop, (∃ m, W 0 m σ H) ∧ ∀ i m σ H, W i m σ H →
      (J.stop i H ∧ D.nx σ H) ∨ (J.go i H ∧ ∃ N : L2.St → Hp → Prop, (∀ σ' H', N σ' H' → ∃ m', m' < m ∧ W (i + 1) m' σ' H') ∧ ∀ x H', J.yld i H x H' → g x σ H' fun σ2 H2 => tb { D with nx := N, ct := N, bk := D.nx } σ2 H2) := by
  refine ⟨fun i m σ H => m = n - i ∧ i ≤ n ∧ Pv i σ H, ⟨n, by simp, Nat.zero_le _, h0⟩, ?_⟩
  rintro i m σ H ⟨rfl, hi, p⟩
  by_cases hlt : i < n
  · exact .inr ⟨go i σ H hlt p, Pv (i + 1), fun σ' H' p' => ⟨n - (i + 1), by omega, rfl, hlt, p'⟩, fun x H' y => hs i x σ H H' hlt p y⟩
  · have e : i = n := by omega
    subst e
    exact .inl ⟨stop σ H p, hd σ H p⟩
theorem lc_it {J : It} {n : Nat} {g : TG} {tt : TT} {te : TE} {vs : List Nat} {σ : L2.St} {H1 : Hp} {D : Addr} {Qd : Hp → Prop} (Pv : Nat → Hp → Prop) (h0 : Pv 0 (upd H1 D (.lst []))) (go : ∀ i H, i < n → Pv i H → J.go i H) (stop : ∀ H, Pv n H → J.stop n H)
    (hs : ∀ i x H H', i < n → Pv i H → J.yld i H x H' → g x (wipe σ vs) H' fun σ2 H2 => wipe σ2 vs = wipe σ vs ∧ tt σ2 H2 fun b H3 =>
      if b = true then te σ2 H3 fun y H4 => ∃ acc, H4 D = some (.lst acc) ∧ acc.length < sizeLine ∧ Pv (i + 1) (upd H4 D (.lst (acc ++ [y]))) else Pv (i + 1) H3) (hd : ∀ H, Pv n H → Qd H) :
    ∃ W : Nat → Nat → Hp → Prop, (∃ m, W 0 m (upd H1 D (.lst []))) ∧ ∀ i m H, W i m H →
      (J.stop i H ∧ Qd H) ∨ (J.go i H ∧ ∃ Nx : Hp → Prop, (∀ H', Nx H' → ∃ m', m' < m ∧ W (i + 1) m' H') ∧ ∀ x H', J.yld i H x H' → g x (wipe σ vs) H' fun σ2 H2 => wipe σ2 vs = wipe σ vs ∧ tt σ2 H2 fun b H3 =>
        if b = true then te σ2 H3 fun y H4 => ∃ acc, H4 D = some (.lst acc) ∧ acc.length < sizeLine ∧ Nx (upd H4 D (.lst (acc ++ [y]))) else Nx H3) := by
  refine ⟨fun i m H => m = n - i ∧ i ≤ n ∧ Pv i H, ⟨n, by simp, Nat.zero_le _, h0⟩, ?_⟩
  rintro i m H ⟨rfl, hi, p⟩
  by_cases hlt : i < n
  · exact .inr ⟨go i H hlt p, Pv (i + 1), fun H' p' => ⟨n - (i + 1), by omega, rfl, hlt, p'⟩, fun x H' y => hs i x H H' hlt p y⟩
  · have e : i = n := by omega
    subst e
    exact .inl ⟨stop H p, hd H p⟩
theorem lt_none {c : Nat} : decide ((Str.ofString "").cps.toList < (ch c).cps.toList) = true := by
  have e : (Str.ofString "").cps.toList = [] := by decide +kernel
  rw [e]
  exact decide_eq_true (List.nil_lt_cons _ _)
theorem lt_sign {a c : Nat} (h : a < c) : decide ((ch a).cps.toList < (ch c).cps.toList) = true := decide_eq_true (List.cons_lt_cons_iff.mpr (.inl h))
theorem asc_at {α : Type} {f : α → Nat} {ls : List α} (h : (ls.map f).Pairwise (· < ·)) {i : Nat} {p q : α} (e : ls[i]? = some p) (e2 : ls[i + 1]? = some q) : f p < f q := by
  rw [List.pairwise_map] at h
  obtain ⟨h1, rfl⟩ := List.getElem?_eq_some_iff.mp e
  obtain ⟨h2, rfl⟩ := List.getElem?_eq_some_iff.mp e2
  exact List.pairwise_iff_getElem.mp h _ _ h1 h2 (Nat.lt_succ_self _)
theorem asc_atI {α : Type} {f : α → Int} {ls : List α} (h : (ls.map f).Pairwise (· < ·)) {i : Nat} {p q : α} (e : ls[i]? = some p) (e2 : ls[i + 1]? = some q) : f p < f q := by
  rw [List.pairwise_map] at h
  obtain ⟨h1, rfl⟩ := List.getElem?_eq_some_iff.mp e
  obtain ⟨h2, rfl⟩ := List.getElem?_eq_some_iff.mp e2
  exact List.pairwise_iff_getElem.mp h _ _ h1 h2 (Nat.lt_succ_self _)
theorem map_at {α β : Type} {f : α → β} {ls : List α} {i : Nat} {y : β} (e : (ls.map f)[i]? = some y) : ∃ x, ls[i]? = some x ∧ y = f x := by
  rw [List.getElem?_map] at e
  cases h : ls[i]? with
  | none => rw [h] at e; cases e
  | some x => rw [h] at e; exact ⟨x, rfl, (Option.some.inj e).symm⟩
/-- a comprehension over a tuple of pairs that makes nothing -/
theorem lc_pairs {α : Type} {K : PySem.W.Frag} {rs : List Addr} {ls : List α} {a : Addr} {g : TG} {te : TE} {vs : List Nat} {σ : L2.St} {H1 : Hp} {D : Addr} {Qd : Hp → Prop} (emb : α → V × V) (f : α → V)
    (hT : PT H1 a (rs.map V.ref)) (hp : Paired (fun b (p : V × V) => SqT K H1 b [p.1, p.2]) rs (ls.map emb)) (hD : H1 D = none) (hz : ls.length ≤ 1000)
    (hs : ∀ b p H (R : V → Hp → Prop), Same H1 H → SqT K H b [(emb p).1, (emb p).2] → p ∈ ls → R (f p) H → g (.ref b) (wipe σ vs) H fun σ2 H2 => wipe σ2 vs = wipe σ vs ∧ te σ2 H2 R)
    (hd : ∀ H, Same H1 H → H D = some (.lst (ls.map f)) → Qd H) :
    ∃ W : Nat → Nat → Hp → Prop, (∃ m, W 0 m (upd H1 D (.lst []))) ∧ ∀ i m H, W i m H →
      ((Itt K a).stop i H ∧ Qd H) ∨ ((Itt K a).go i H ∧ ∃ Nx : Hp → Prop, (∀ H', Nx H' → ∃ m', m' < m ∧ W (i + 1) m' H') ∧ ∀ x H', (Itt K a).yld i H x H' → g x (wipe σ vs) H' fun σ2 H2 => wipe σ2 vs = wipe σ vs ∧ tYes σ2 H2 fun b H3 =>
        if b = true then te σ2 H3 fun y H4 => ∃ acc, H4 D = some (.lst acc) ∧ acc.length < sizeLine ∧ Nx (upd H4 D (.lst (acc ++ [y]))) else Nx H3) := by
  have hl : rs.length = ls.length := by rw [Paired.len hp, List.length_map]
  refine lc_tup (xs := rs.map V.ref) (fun i H => Same H1 H ∧ H D = some (.lst ((ls.take i).map f))) ⟨same_new hD, upd_same⟩ (fun i H _ h => (PT.same h.1 hT).sq) (fun i x H hx h => ?_) (fun H h => hd H h.1 ?_)
  · obtain ⟨sm, hDl⟩ := h
    obtain ⟨b, p, rfl, e1, e2, hq⟩ := pairs_at (Paired.imm (.of sm) hp) hx
    obtain ⟨q, e3, rfl⟩ := map_at e2
    have hi : i < ls.length := (List.getElem?_eq_some_iff.mp e3).1
    refine hs b q H (fun y H4 => ∃ acc, H4 D = some (.lst acc) ∧ acc.length < sizeLine ∧ Same H1 (upd H4 D (.lst (acc ++ [y]))) ∧ upd H4 D (.lst (acc ++ [y])) D = some (.lst ((ls.take (i + 1)).map f))) sm hq (List.mem_of_getElem? e3) ⟨_, hDl, ?_, fun c o e => ?_, ?_⟩
    · rw [List.length_map, List.length_take]
      exact small1000 (by omega)
    · have nb : c ≠ D := ne_of_none e hD
      rw [upd_ne nb]
      exact sm _ _ e
    · rw [upd_same, List.take_add_one, e3, List.map_append]
      rfl
  · have := h.2
    rw [List.length_map, hl, List.take_length] at this
    exact this
theorem lcP {α : Type} {K : PySem.W.Frag} {rs : List Addr} {ls : List α} {a : Addr} {i : Nat} {g : TG} {te : TE} {vs : List Nat} {σ : L2.St} {H : Hp} {Q : VK} (emb : α → V × V) (f : α → V) (hv : σ[i]? = some (some (.ref a)))
    (hT : PT H a (rs.map V.ref)) (hp : Paired (fun b (p : V × V) => SqT K H b [p.1, p.2]) rs (ls.map emb)) (hz : ls.length ≤ 1000)
    (hs : ∀ b p H' (R : V → Hp → Prop), Same H H' → SqT K H' b [(emb p).1, (emb p).2] → p ∈ ls → R (f p) H' → g (.ref b) (wipe σ vs) H' fun σ2 H2 => wipe σ2 vs = wipe σ vs ∧ te σ2 H2 R)
    (hd : ∀ H' D, Same H H' → H D = none → H' D = some (.lst (ls.map f)) → Q (.ref D) H') : tLc (iTup K (tVar i)) g tYes te vs σ H Q :=
  ⟨_, hv, a, rfl, ⟨_, hT.sq⟩, fun D hD => lc_pairs emb f hT hp hD hz hs fun H' sm hl => hd H' D sm hD hl⟩
/-- a walk over a tuple of pairs -/
theorem for_pairs {K : PySem.W.Frag} {rs : List Addr} {ls : List (V × V)} {a : Addr} {g : TG} {tb : TS} {D : Ends} {σ : L2.St} {H H0 : Hp} (Pv : Nat → L2.St → Hp → Prop) (h0 : Pv 0 σ H)
    (hT : PT H0 a (rs.map V.ref)) (hp : Paired (fun b (p : V × V) => SqT K H0 b [p.1, p.2]) rs ls) (hI : ∀ i σ H, Pv i σ H → Imm H0 H)
    (hs : ∀ i b p σ H, rs[i]? = some b → ls[i]? = some p → SqT K H b [p.1, p.2] → Pv i σ H → g (.ref b) σ H fun σ2 H2 => tb { D with nx := Pv (i + 1), ct := Pv (i + 1), bk := D.nx } σ2 H2) (hd : ∀ σ H, Pv ls.length σ H → D.nx σ H) :
    ∃ W : Nat → Nat → L2.St → Hp → Prop, (∃ m, W 0 m σ H) ∧ ∀ i m σ H, W i m σ H →
      ((Itt K a).stop i H ∧ D.nx σ H) ∨ ((Itt K a).go i H ∧ ∃ N : L2.St → Hp → Prop, (∀ σ' H', N σ' H' → ∃ m', m' < m ∧ W (i + 1) m' σ' H') ∧ ∀ x H', (Itt K a).yld i H x H' → g x σ H' fun σ2 H2 => tb { D with nx := N, ct := N, bk := D.nx } σ2 H2) := by
  have hl : rs.length = ls.length := Paired.len hp
  refine for_it (n := ls.length) Pv h0 (fun i σ H hi p => ⟨rs.map V.ref, (rs.map V.ref)[i]'(by simpa using hl ▸ hi), (PT.imm (hI _ _ _ p) hT).sq, List.getElem?_eq_getElem _⟩) (fun σ H p => ⟨rs.map V.ref, (PT.imm (hI _ _ _ p) hT).sq, by simp [hl]⟩) (fun i v σ H H' hi p y => ?_) hd
  obtain ⟨rfl, y⟩ := y
  obtain ⟨b, q, rfl, e1, e2, hq⟩ := pairs_at (Paired.imm (hI _ _ _ p) hp) (y _ (PT.imm (hI _ _ _ p) hT).sq)
  exact hs i b q σ H' e1 e2 hq p
/-- the same, each with its place -/
theorem for_enumP {K : PySem.W.Frag} {rs : List Addr} {ls : List (V × V)} {a : Addr} {g : TG} {tb : TS} {D : Ends} {σ : L2.St} {H H0 : Hp} (Pv : Nat → L2.St → Hp → Prop) (h0 : Pv 0 σ H)
    (hT : PT H0 a (rs.map V.ref)) (hp : Paired (fun b (p : V × V) => SqT K H0 b [p.1, p.2]) rs ls) (hI : ∀ i σ H, Pv i σ H → Same H0 H)
    (hs : ∀ i b p σ H t, rs[i]? = some b → ls[i]? = some p → SqT K H b [p.1, p.2] → Pv i σ H → H t = none → g (.ref t) σ (upd H t (.tup [.int (i : Nat), .ref b])) fun σ2 H2 => tb { D with nx := Pv (i + 1), ct := Pv (i + 1), bk := D.nx } σ2 H2) (hd : ∀ σ H, Pv ls.length σ H → D.nx σ H) :
    ∃ W : Nat → Nat → L2.St → Hp → Prop, (∃ m, W 0 m σ H) ∧ ∀ i m σ H, W i m σ H →
      ((IteT K a).stop i H ∧ D.nx σ H) ∨ ((IteT K a).go i H ∧ ∃ N : L2.St → Hp → Prop, (∀ σ' H', N σ' H' → ∃ m', m' < m ∧ W (i + 1) m' σ' H') ∧ ∀ x H', (IteT K a).yld i H x H' → g x σ H' fun σ2 H2 => tb { D with nx := N, ct := N, bk := D.nx } σ2 H2) := by
  have hl : rs.length = ls.length := Paired.len hp
  refine for_it (n := ls.length) Pv h0 (fun i σ H hi p => ⟨rs.map V.ref, (rs.map V.ref)[i]'(by simpa using hl ▸ hi), (PT.same (hI _ _ _ p) hT).sq, List.getElem?_eq_getElem _⟩) (fun σ H p => ⟨rs.map V.ref, (PT.same (hI _ _ _ p) hT).sq, by simp [hl]⟩) (fun i v σ H H' hi p y => ?_) hd
  obtain ⟨t, x, rfl, hn, rfl, y⟩ := y
  obtain ⟨b, q, rfl, e1, e2, hq⟩ := pairs_at (Paired.imm (.of (hI _ _ _ p)) hp) (y _ (PT.same (hI _ _ _ p) hT).sq)
  exact hs i b q σ H t e1 e2 hq p hn
/-! ### numbers as texts -/
theorem numS_nat {i : Int} (h : 0 ≤ i) : numS i = Str.ofString (toString ((i.toNat : Nat) : Int)) := by
  unfold numS
  rw [Int.toNat_of_nonneg h]
theorem tl_numS {i : Int} (h : 0 ≤ i) : TL.tl (numS i) = TL.numL i.toNat := by
  rw [numS_nat h]
  exact TL.tl_num _
theorem num_facts : ∀ n : Fin 1000, (TL.numL n.val).length ≤ 3 ∧ TL.numL n.val ≠ [] ∧ (TL.numL n.val = [48] ∨ (TL.numL n.val)[0]? ≠ some 48) := by decide +kernel
theorem num_len {i : Int} (h : 0 ≤ i) (h2 : i ≤ 999) : (numS i).length ≤ 3 := by
  rw [TL.len_tl, tl_numS h]
  exact (num_facts ⟨i.toNat, by omega⟩).1
theorem num_pos {i : Int} (h : 0 ≤ i) (h2 : i ≤ 999) : 1 ≤ (numS i).length := by
  rw [TL.len_tl, tl_numS h]
  have := (num_facts ⟨i.toNat, by omega⟩).2.1
  exact List.length_pos_iff.mpr this
theorem digit_in {c : Nat} (h1 : 48 ≤ c) (h2 : c ≤ 57) : decide (c ∈ (Str.ofString "0123456789").cps.toList) = true := by
  have e : (Str.ofString "0123456789").cps.toList = (List.range 10).map (· + 48) := by decide +kernel
  rw [e]
  exact decide_eq_true (List.mem_map.mpr ⟨c - 48, List.mem_range.mpr (by omega), by omega⟩)
theorem letter_in {c : Nat} (h1 : 97 ≤ c) (h2 : c ≤ 122) : decide (c ∈ (Str.ofString "abcdefghijklmnopqrstuvwxyz").cps.toList) = true := by
  have e : (Str.ofString "abcdefghijklmnopqrstuvwxyz").cps.toList = (List.range 26).map (· + 97) := by decide +kernel
  rw [e]
  exact decide_eq_true (List.mem_map.mpr ⟨c - 97, List.mem_range.mpr (by omega), by omega⟩)
theorem num_int {i : Int} (h : 0 ≤ i) (h2 : i ≤ 999) : PySem.intText? (numS i) = some i := by
  rw [numS_nat h, TL.int_num, Int.toNat_of_nonneg h]
  exact Nat.le_trans (num_facts ⟨i.toNat, by omega⟩).1 (by decide)
theorem num_log {i : Int} (h : 0 ≤ i) (h2 : i ≤ 999) : i.natAbs.log2 < 1920 := by
  have e : i.natAbs.log2 ≤ i.natAbs := Nat.log2_le_self _
  omega
theorem str_ne {x y : Str} (h : TL.tl x ≠ TL.tl y) : decide (V.str x = V.str y) = false := decide_eq_false fun e => h (by cases e; rfl)
theorem z0_tl : TL.tl (Str.ofString "0") = [48] := by decide +kernel
theorem e_tl : TL.tl (Str.ofString "") = [] := by decide +kernel
theorem n999 : (Str.ofString (toString (999 : Int))).length = 3 := by decide +kernel
theorem num_dig {i : Int} (h : 0 ≤ i) : ∀ c ∈ TL.tl (numS i), 48 ≤ c ∧ c ≤ 57 := fun c hc => by
  rw [tl_numS h] at hc
  refine ⟨?_, ?_⟩
  · by_cases z : c < 48
    · exact absurd hc (TL.numL_free (.inl z))
    · omega
  · by_cases z : 57 < c
    · exact absurd hc (TL.numL_free (.inr z))
    · omega
theorem num_head {i : Int} (h : 0 ≤ i) (h2 : i ≤ 999) : ∃ c t, TL.tl (numS i) = c :: t ∧ (c = 48 → numS i = Str.ofString "0") := by
  have F := num_facts ⟨i.toNat, by omega⟩
  have e := tl_numS h
  rcases hx : TL.tl (numS i) with _ | ⟨c, t⟩
  · exact absurd (e.symm.trans hx) F.2.1
  · refine ⟨c, t, rfl, fun z => ?_⟩
    subst z
    have hx2 := e.symm.trans hx
    rcases F.2.2 with q | q
    · apply TL.ext_tl
      rw [z0_tl, e]
      exact q
    · exact absurd (by rw [hx2]; rfl) q
theorem at_nat {α : Type} {xs : List α} {i : Nat} {x : α} (h : xs[i]? = some x) : atI xs (i : Int) = some x := by
  have hi : i < xs.length := (List.getElem?_eq_some_iff.mp h).1
  have e : ixN xs.length (i : Int) = some i := by
    unfold ixN
    rw [if_pos (by omega), if_pos (by omega)]
    rfl
  show (ixN xs.length (i : Int)).bind _ = _
  rw [e]
  exact h
theorem at_first {α : Type} {xs : List α} {x : α} : atI (x :: xs) 0 = some x := at_nat (i := 0) rfl
theorem at_snd {α : Type} {xs : List α} {x y : α} : atI (x :: y :: xs) 1 = some y := at_nat (i := 1) rfl
theorem asc_uniq {α β : Type} {f : α → β} {R : β → β → Prop} (irr : ∀ b, ¬ R b b) : ∀ {ls : List α}, (ls.map f).Pairwise R → ∀ {p q : α}, p ∈ ls → q ∈ ls → f p = f q → p = q
  | x :: t, h, p, q, hp, hq, e => by
    rw [List.map_cons, List.pairwise_cons] at h
    rcases List.mem_cons.mp hp with rfl | hp' <;> rcases List.mem_cons.mp hq with rfl | hq'
    · rfl
    · exact absurd (e ▸ h.1 (f q) (List.mem_map_of_mem hq')) (irr _)
    · exact absurd (e ▸ h.1 (f p) (List.mem_map_of_mem hp')) (irr _)
    · exact asc_uniq irr h.2 hp' hq' e
theorem val_n {ns : List (Nat × Int)} (ok : NOk ns) {p : Nat × Int} (h : p ∈ ns) : valV (kN ns) (Sum.inr (ch p.1) : Key) = some (.int p.2) := by
  unfold valV kN
  rw [List.find?_map]
  cases hf : ns.find? ((fun kv : Key × V => decide (kv.1 = Sum.inr (ch p.1))) ∘ fun p => (Sum.inr (ch p.1), V.int p.2)) with
  | none =>
    have := List.find?_eq_none.mp hf p h
    simp at this
  | some q =>
    have h1 := List.find?_some hf
    have h2 := List.mem_of_find?_eq_some hf
    have e : q.1 = p.1 := by
      simp only [Function.comp, decide_eq_true_eq, Sum.inr.injEq] at h1
      have := congrArg (fun s : Str => s.cps.toList) h1
      simpa [ch] using this
    have := asc_uniq (f := fun p : Nat × Int => p.1) (fun b => Nat.lt_irrefl b) ok.asc h2 h e
    subst this
    rfl
theorem find_c (cs : List (Int × Int)) (i : Int) : valV (kC cs) (Sum.inl i : Key) = (cs.find? fun p => decide (p.1 = i)).map fun p => V.int p.2 := by
  unfold valV kC
  rw [List.find?_map, Option.map_map]
  have e : ((fun kv : Key × V => decide (kv.1 = Sum.inl i)) ∘ fun p : Int × Int => ((Sum.inl p.1 : Key), V.int p.2)) = fun p => decide (p.1 = i) := by
    funext p
    simp
  rw [e]
  rfl
theorem look_c (cs : List (Int × Int)) (i : Int) : (valV (kC cs) (Sum.inl i : Key)).getD .non = lookC cs i := by
  rw [find_c]
  unfold lookC
  cases cs.find? fun p => decide (p.1 = i) <;> rfl
theorem some_c (cs : List (Int × Int)) (i : Int) : (valV (kC cs) (Sum.inl i : Key)).isSome = isC cs i := by
  rw [find_c, Option.isSome_map]
  unfold isC
  rw [Bool.eq_iff_iff, List.find?_isSome, List.any_eq_true]
theorem ch_len (c : Nat) : (ch c).length = 1 := rfl
theorem len_app (a b : Str) : (a ++ b).length = a.length + b.length := by
  rw [TL.len_tl, TL.len_tl, TL.len_tl, TL.tl_append, List.length_append]
theorem emp_app (a : Str) : Str.empty ++ a = a := TL.ext_tl (by rw [TL.tl_append]; rfl)
theorem nameW_len {p : Nat × Int} (h : 0 ≤ p.2) (h2 : p.2 ≤ 999) : (nameW p).length ≤ 5 := by
  have := num_len h h2
  have e : (Str.ofString "=").length = 1 := by decide +kernel
  unfold nameW
  rw [len_app, len_app, ch_len, e]
  omega
theorem cellW_len {p : Int × Int} (h : 0 ≤ p.1) (h2 : p.1 ≤ 999) (h3 : 0 ≤ p.2) (h4 : p.2 ≤ 999) : (cellW p).length ≤ 7 := by
  have a := num_len h h2
  have b := num_len h3 h4
  have e : (Str.ofString ">").length = 1 := by decide +kernel
  unfold cellW
  rw [len_app, len_app, e]
  omega
theorem eq1_len : (Str.ofString "=").length = 1 := by decide +kernel
theorem gt1_len : (Str.ofString ">").length = 1 := by decide +kernel
theorem sp1_len : (Str.ofString " ").length = 1 := by decide +kernel
theorem bar_len : (Str.ofString " | ").length = 3 := by decide +kernel
theorem none_len : (Str.ofString "none").length = 4 := by decide +kernel
theorem nameW_eq (p : Nat × Int) : Str.empty ++ ch p.1 ++ Str.ofString "=" ++ Str.ofString (toString p.2) = nameW p := by
  rw [emp_app]
  rfl
theorem cellW_eq (p : Int × Int) : Str.empty ++ Str.ofString (toString p.1) ++ Str.ofString ">" ++ Str.ofString (toString p.2) = cellW p := by
  rw [emp_app]
  rfl
theorem sum_len {k : Nat} : ∀ {ys : List Str}, (∀ y ∈ ys, y.length ≤ k) → (ys.map fun x => x.length).sum ≤ k * ys.length
  | [], _ => by simp
  | y :: t, h => by
    have := sum_len (ys := t) fun z hz => h z (List.mem_cons_of_mem _ hz)
    have h1 := h y List.mem_cons_self
    rw [List.map_cons, List.sum_cons, List.length_cons, Nat.mul_succ]
    omega
theorem tl_glue (y : Str) (l : List Str) : TL.tl (Txt.join y l) = TL.joinL (TL.tl y) (l.map TL.tl) := by
  rw [TL.join_eq, TL.tl_join]
theorem joinL_len {k : Nat} {S : List Nat} : ∀ {l : List (List Nat)}, (∀ y ∈ l, y.length ≤ k) → (TL.joinL S l).length ≤ (k + S.length) * l.length
  | [], _ => by simp [TL.joinL]
  | [y], h => by
    have := h y List.mem_cons_self
    simp only [TL.joinL, List.length_cons, List.length_nil]
    omega
  | y :: z :: t, h => by
    have h1 := h y List.mem_cons_self
    have h2 := joinL_len (S := S) (l := z :: t) fun q hq => h q (List.mem_cons_of_mem _ hq)
    simp only [TL.joinL, List.length_append, List.length_cons, Nat.mul_succ] at h2 ⊢
    omega
theorem glue_len {k : Nat} {y : Str} {l : List Str} (h : ∀ z ∈ l, z.length ≤ k) : (Txt.join y l).length ≤ (k + y.length) * l.length := by
  have := joinL_len (k := k) (S := TL.tl y) (l := l.map TL.tl) fun z hz => by
    obtain ⟨q, hq, rfl⟩ := List.mem_map.mp hz
    rw [← TL.len_tl]
    exact h q hq
  rw [TL.len_tl, tl_glue, TL.len_tl y]
  rw [List.length_map] at this
  exact this
theorem nTxt_len {ns : List (Nat × Int)} (ok : NOk ns) : (nTxt ns).length ≤ 24 := by
  have h := glue_len (k := 5) (y := sp1) (l := ns.map nameW) fun y hy => by
    obtain ⟨p, hp, rfl⟩ := List.mem_map.mp hy
    exact nameW_len (ok.pl p hp).1 (ok.pl p hp).2
  have e : sp1.length = 1 := sp1_len
  have := ok.four
  rw [List.length_map, e] at h
  unfold nTxt
  omega
theorem cs_le {cs : List (Int × Int)} (ok : COk cs) : ∀ y ∈ cs.map cellW, y.length ≤ 7 := fun y hy => by
  obtain ⟨p, hp, rfl⟩ := List.mem_map.mp hy
  obtain ⟨a, b, c, d⟩ := ok.pl p hp
  exact cellW_len (by omega) b c d
theorem cTxt_len {cs : List (Int × Int)} (ok : COk cs) : (cTxt cs).length ≤ 3204 := by
  have h := glue_len (k := 7) (y := sp1) (l := cs.map cellW) (cs_le ok)
  have e : sp1.length = 1 := sp1_len
  have := ok.few
  have e2 := none_len
  rw [List.length_map, e] at h
  unfold cTxt
  split
  · omega
  · omega
theorem glue_nil {y : Str} : Txt.join y [] = Str.empty := TL.ext_tl (by rw [tl_glue]; rfl)
theorem glue_pos {k : Nat} {S : List Nat} : ∀ {l : List (List Nat)}, l ≠ [] → (∀ y ∈ l, 1 ≤ y.length) → 1 ≤ (TL.joinL S l).length
  | [y], _, h => h y List.mem_cons_self
  | y :: z :: t, _, h => by
    have h1 := h y List.mem_cons_self
    simp only [TL.joinL, List.length_append]
    omega
theorem cells_pos {cs : List (Int × Int)} (h : cs ≠ []) : 1 ≤ (Txt.join sp1 (cs.map cellW)).length := by
  rw [TL.len_tl, tl_glue]
  refine glue_pos (k := 0) (by simpa using h) fun y hy => ?_
  obtain ⟨q, hq, rfl⟩ := List.mem_map.mp hy
  obtain ⟨p, hp, rfl⟩ := List.mem_map.mp hq
  rw [← TL.len_tl]
  unfold cellW
  rw [len_app, len_app, gt1_len]
  omega
theorem none_of {H H' : Hp} {b : Addr} (e : Same H H') (h : H' b = none) : H b = none := by
  cases q : H b with
  | none => rfl
  | some o => rw [e _ _ q] at h; cases h
theorem sl_le {n : Nat} (h : n ≤ 100000) : n ≤ sizeLine := by
  rw [sizeLine_eq]
  omega
end K1
/-! Data: what it shows, when it is alike. -/
namespace K1
open PySem PySem.Spec L2 Z
def nP (p : Nat × Int) : PyData := .tuple [.str (ch p.1), .int p.2]
def cP (p : Int × Int) : PyData := .tuple [.int p.1, .int p.2]
def nD (ns : List (Nat × Int)) : PyData := .tuple (ns.map nP)
def cD (cs : List (Int × Int)) : PyData := .tuple (cs.map cP)
theorem dp_pairs {α : Type} {K : PySem.W.Frag} {H : Hp} {emb : α → V × V} {dat : α → PyData} (go : ∀ b p, SqT K H b [(emb p).1, (emb p).2] → Dp K H (.ref b) (dat p)) :
    ∀ {rs : List Addr} {ls : List α}, Paired (fun b (p : V × V) => SqT K H b [p.1, p.2]) rs (ls.map emb) → DpAll K H (rs.map V.ref) (ls.map dat)
  | [], [], _ => .nil
  | _ :: _, _ :: _, .cons h t => .cons (go _ _ h) (dp_pairs go t)
theorem dp_n {K : PySem.W.Frag} {H : Hp} {v : V} {ns : List (Nat × Int)} (h : TP K H v (ns.map nV)) : Dp K H v (nD ns) := by
  obtain ⟨a, rs, rfl, ht, hp⟩ := h
  exact .tup ht.sq (dp_pairs (dat := nP) (fun b p q => .tup q (.cons (.str _) (.cons (.int _) .nil))) hp)
theorem dp_c {K : PySem.W.Frag} {H : Hp} {v : V} {cs : List (Int × Int)} (h : TP K H v (cs.map cV)) : Dp K H v (cD cs) := by
  obtain ⟨a, rs, rfl, ht, hp⟩ := h
  exact .tup ht.sq (dp_pairs (dat := cP) (fun b p q => .tup q (.cons (.int _) (.cons (.int _) .nil))) hp)
theorem dp_ints {K : PySem.W.Frag} {H : Hp} : ∀ xs : List Int, DpAll K H (xs.map V.int) (xs.map PyData.int)
  | [] => .nil
  | _ :: t => .cons (.int _) (dp_ints t)
theorem eqv_all {α : Type} [DecidableEq α] {dat : α → PyData} (go : ∀ a b, (dat a).eqv (dat b) = decide (a = b)) : ∀ l m : List α, PyData.eqvAll (l.map dat) (m.map dat) = decide (l = m)
  | [], [] => by simp [PyData.eqvAll]
  | [], _ :: _ => by simp [PyData.eqvAll]
  | _ :: _, [] => by simp [PyData.eqvAll]
  | a :: l, b :: m => by
    rw [List.map_cons, List.map_cons, PyData.eqvAll, go, eqv_all go l m, Bool.eq_iff_iff]
    simp
theorem ch_inj {a b : Nat} : (ch a == ch b) = decide (a = b) := by
  rw [Bool.eq_iff_iff]
  simp only [beq_iff_eq, decide_eq_true_eq]
  refine ⟨fun e => ?_, fun e => by rw [e]⟩
  have := congrArg (fun s : Str => s.cps.toList) e
  simpa [ch] using this
theorem eqv_n (l m : List (Nat × Int)) : (nD l).eqv (nD m) = decide (l = m) := by
  refine Eq.trans (by simp only [nD, PyData.eqv]) (eqv_all (dat := nP) (fun a b => ?_) l m)
  simp only [nP, PyData.eqv, PyData.eqvAll, ch_inj, Bool.and_true]
  rw [Bool.eq_iff_iff]
  simp only [Bool.and_eq_true, decide_eq_true_eq, beq_iff_eq]
  exact ⟨fun h => Prod.ext h.1 h.2, fun h => by rw [h]; exact ⟨rfl, rfl⟩⟩
theorem eqv_c (l m : List (Int × Int)) : (cD l).eqv (cD m) = decide (l = m) := by
  refine Eq.trans (by simp only [cD, PyData.eqv]) (eqv_all (dat := cP) (fun a b => ?_) l m)
  simp only [cP, PyData.eqv, PyData.eqvAll, Bool.and_true]
  rw [Bool.eq_iff_iff]
  simp only [Bool.and_eq_true, decide_eq_true_eq, beq_iff_eq]
  exact ⟨fun h => Prod.ext h.1 h.2, fun h => by rw [h]; exact ⟨rfl, rfl⟩⟩
/-- small: what it shows, how deep it is -/
structure Fit (d : PyData) (n m : Nat) : Prop where
  len : d.shown.length ≤ n
  ok : d.showable = true
  nod : d.hasDict = false
  dep : d.depth ≤ m
theorem fit_le {d : PyData} {n m n' m' : Nat} (h : Fit d n m) (a : n ≤ n') (b : m ≤ m') : Fit d n' m' := ⟨Nat.le_trans h.len a, h.ok, h.nod, Nat.le_trans h.dep b⟩
theorem fit_non : Fit .none 5 0 := ⟨by decide +kernel, rfl, rfl, Nat.le_refl _⟩
theorem fit_bl (b : Bool) : Fit (.bool b) 5 0 := ⟨by cases b <;> decide +kernel, rfl, rfl, Nat.le_refl _⟩
theorem fit_int {i : Int} (h : 0 ≤ i) (h2 : i ≤ 999) : Fit (.int i) 5 0 := ⟨by
  have := num_len h h2
  show (Str.ofString (toString i)).length ≤ 5
  unfold numS at this
  omega, by show decide _ = true; exact decide_eq_true (num_log h h2), rfl, Nat.le_refl _⟩
theorem fit_str {x : Str} {n : Nat} (h : ∀ c ∈ TL.tl x, c < 16 ^ 8) (hn : x.length ≤ n) : Fit (.str x) (10 * n + 2) 0 := ⟨by
  have := StrLaws.reprText_len x h
  show (reprText x).length ≤ _
  omega, rfl, rfl, Nat.le_refl _⟩
theorem fit_all {k m : Nat} : ∀ {ds : List PyData}, (∀ d ∈ ds, Fit d k m) → ((PyData.shownAll ds).map (·.length)).sum ≤ k * ds.length ∧ (PyData.shownAll ds).length = ds.length ∧ PyData.showableAll ds = true ∧ PyData.hasDictAll ds = false ∧ PyData.depthAll ds ≤ m
  | [], _ => ⟨by simp [PyData.shownAll], by simp [PyData.shownAll], by simp [PyData.showableAll], by simp [PyData.hasDictAll], by simp [PyData.depthAll]⟩
  | d :: t, h => by
    obtain ⟨a, b, c, e, f⟩ := fit_all (ds := t) fun x hx => h x (List.mem_cons_of_mem _ hx)
    have q := h d List.mem_cons_self
    have q1 := q.len
    have q4 := q.dep
    refine ⟨?_, ?_, ?_, ?_, ?_⟩
    · simp only [PyData.shownAll, List.map_cons, List.sum_cons, List.length_cons, Nat.mul_succ]
      omega
    · simp only [PyData.shownAll, List.length_cons, b]
    · simp only [PyData.showableAll, q.ok, c, Bool.and_true]
    · simp only [PyData.hasDictAll, q.nod, e, Bool.or_false]
    · simp only [PyData.depthAll]
      omega
theorem fit_list {k m : Nat} {ds : List PyData} (h : ∀ d ∈ ds, Fit d k m) : Fit (.list ds) ((k + 2) * ds.length + 3) (m + 1) := by
  obtain ⟨a, b, c, e, f⟩ := fit_all h
  have l := listText_len_le (PyData.shownAll ds)
  refine ⟨?_, ?_, ?_, ?_⟩
  · simp only [PyData.shown]
    rw [b] at l
    rw [Nat.add_mul]
    omega
  · simp only [PyData.showable, c]
  · simp only [PyData.hasDict, e]
  · simp only [PyData.depth]
    omega
theorem piled_sum (ts : List Str) : piled ts = (ts.map (·.length)).sum + 2 * ts.length := by
  induction ts with
  | nil => rfl
  | cons t r ih => rw [piled_cons, ih, List.map_cons, List.sum_cons, List.length_cons]; omega
theorem tup_len (ts : List Str) : (tupleText ts).length ≤ (ts.map (·.length)).sum + 2 * ts.length + 3 := by
  unfold tupleText
  rw [len_app, len_app]
  have e1 : (("(" : Str)).length = 1 := by decide +kernel
  have e2 : ((if ts.length == 1 then ",)" else ")" : String) : Str).length ≤ 2 := by
    split <;> decide +kernel
  rw [e1]
  rcases ts with _ | ⟨t, r⟩
  · have e3 : (Str.join ", " ([] : List Str)).length = 0 := rfl
    rw [e3]
    omega
  · have := join_length_add (t :: r) (by simp)
    rw [piled_sum] at this
    omega
theorem fit_tup {k m : Nat} {ds : List PyData} (h : ∀ d ∈ ds, Fit d k m) : Fit (.tuple ds) ((k + 2) * ds.length + 3) (m + 1) := by
  obtain ⟨a, b, c, e, f⟩ := fit_all h
  have l := tup_len (PyData.shownAll ds)
  refine ⟨?_, ?_, ?_, ?_⟩
  · simp only [PyData.shown]
    rw [b] at l
    rw [Nat.add_mul]
    omega
  · simp only [PyData.showable, c]
  · simp only [PyData.hasDict, e]
  · simp only [PyData.depth]
    omega
theorem ch_small {c : Nat} (h : c ≤ 122) : ∀ d ∈ TL.tl (ch c), d < 16 ^ 8 := fun d hd => by
  have : d = c := by simpa [ch] using hd
  subst this
  exact Nat.lt_of_le_of_lt h (by decide)
theorem fit_n {ns : List (Nat × Int)} (ok : NOk ns) : Fit (nD ns) 135 2 := by
  have h := fit_tup (k := 31) (m := 1) (ds := ns.map nP) fun d hd => by
    obtain ⟨p, hp, rfl⟩ := List.mem_map.mp hd
    refine fit_le (fit_tup (k := 12) (m := 0) fun d hd => ?_) (show (12 + 2) * 2 + 3 ≤ 31 by decide) (by decide)
    rcases List.mem_cons.mp hd with rfl | hd
    · exact fit_str (n := 1) (ch_small (ok.let_ p hp).2) (Nat.le_refl _)
    · rcases List.mem_cons.mp hd with rfl | hd
      · exact fit_le (fit_int (ok.pl p hp).1 (ok.pl p hp).2) (by decide) (by decide)
      · cases hd
  have := ok.four
  rw [List.length_map] at h
  have e : (31 + 2) * ns.length + 3 ≤ 135 := by omega
  exact fit_le h e (by decide)
theorem fit_c {cs : List (Int × Int)} (ok : COk cs) : Fit (cD cs) 7603 2 := by
  have h := fit_tup (k := 17) (m := 1) (ds := cs.map cP) fun d hd => by
    obtain ⟨p, hp, rfl⟩ := List.mem_map.mp hd
    obtain ⟨a, b, c, e⟩ := ok.pl p hp
    refine fit_le (fit_tup (k := 5) (m := 0) fun d hd => ?_) (show (5 + 2) * 2 + 3 ≤ 17 by decide) (by decide)
    rcases List.mem_cons.mp hd with rfl | hd
    · exact fit_int (by omega) b
    · rcases List.mem_cons.mp hd with rfl | hd
      · exact fit_int c e
      · cases hd
  have := ok.few
  rw [List.length_map] at h
  have e : (17 + 2) * cs.length + 3 ≤ 7603 := by omega
  exact fit_le h e (by decide)
theorem shaped_all {α : Type} {dat : α → PyData} (go : ∀ a, (dat a).canLay0 = true) : ∀ l : List α, PyData.canLayAll0 (l.map dat) = true
  | [] => by simp [PyData.canLayAll0]
  | a :: t => by rw [List.map_cons, PyData.canLayAll0, go, shaped_all go t]; rfl
theorem shape_n {ns : List (Nat × Int)} (ok : NOk ns) : SeqAt.shaped (nD ns) = true := by
  have e1 : ∀ l : List (Nat × Int), (∀ p ∈ l, p.1 ≤ 122) → PyData.canLayAll0 (l.map nP) = true := by
    intro l
    induction l with
    | nil => intro _; simp [PyData.canLayAll0]
    | cons p t ih =>
      intro h
      have h1 := h p List.mem_cons_self
      have : PyData.strOk (ch p.1) = true := by
        show (#[p.1] : Array Nat).all (· < 0x110000) = true
        simp
        omega
      simp only [List.map_cons, PyData.canLayAll0, nP, PyData.canLay0, this, ih fun q hq => h q (List.mem_cons_of_mem _ hq), Bool.and_true]
  have e2 := (fit_n ok).dep
  unfold SeqAt.shaped
  rw [Bool.and_eq_true, decide_eq_true_eq]
  refine ⟨?_, by omega⟩
  simp only [nD, PyData.canLay0]
  exact e1 ns fun p hp => (ok.let_ p hp).2
theorem shape_c {cs : List (Int × Int)} (ok : COk cs) : SeqAt.shaped (cD cs) = true := by
  have e2 := (fit_c ok).dep
  unfold SeqAt.shaped
  rw [Bool.and_eq_true, decide_eq_true_eq]
  refine ⟨?_, by omega⟩
  simp only [cD, PyData.canLay0]
  exact shaped_all (dat := cP) (fun a => by simp only [cP, PyData.canLay0, PyData.canLayAll0, Bool.and_true]) cs
theorem valV_none {kvs : List (Key × V)} {k : Key} (h : k ∉ kvs.map (·.1)) : valV kvs k = none := by
  cases e : valV kvs k with
  | none => rfl
  | some v => exact absurd (valV_in e) h
theorem merge_id : ∀ (more kvs : List (Key × V)), ((kvs ++ more).map (·.1)).Nodup → mergeK kvs more = kvs ++ more
  | [], kvs, _ => by simp [mergeK]
  | p :: t, kvs, h => by
    have hn : p.1 ∉ kvs.map (·.1) := by
      rw [List.map_append, List.nodup_append] at h
      exact fun z => h.2.2 _ z _ (List.mem_map_of_mem List.mem_cons_self) rfl
    have e : mergeK kvs (p :: t) = mergeK (putK kvs p.1 p.2) t := rfl
    rw [e, putK_new _ (valV_none hn), merge_id t _ (by simpa using h)]
    simp
theorem nodup_n {ns : List (Nat × Int)} (ok : NOk ns) : ((kN ns).map (·.1)).Nodup := by
  unfold kN
  rw [List.map_map]
  refine List.pairwise_map.mpr ((List.pairwise_map.mp ok.asc).imp fun {p q} h e => ?_)
  simp only [Function.comp, Sum.inr.injEq] at e
  have := congrArg (fun s : Str => s.cps.toList) e
  simp [ch] at this
  omega
theorem nodup_c {cs : List (Int × Int)} (ok : COk cs) : ((kC cs).map (·.1)).Nodup := by
  unfold kC
  rw [List.map_map]
  refine List.pairwise_map.mpr ((List.pairwise_map.mp ok.asc).imp fun {p q} h e => ?_)
  simp only [Function.comp, Sum.inl.injEq] at e
  omega
theorem merge_n {ns : List (Nat × Int)} (ok : NOk ns) : mergeK [] (kN ns) = kN ns := merge_id (kN ns) [] (by simpa using nodup_n ok)
theorem merge_c {cs : List (Int × Int)} (ok : COk cs) : mergeK [] (kC cs) = kC cs := merge_id (kC cs) [] (by simpa using nodup_c ok)
theorem pair_n {K : PySem.W.Frag} {H : Hp} : ∀ {rs : List Addr} {ns : List (Nat × Int)}, Paired (fun b (p : V × V) => SqT K H b [p.1, p.2]) rs (ns.map nV) → Paired (fun p (kv : Key × V) => SqT K H p [kV kv.1, kv.2]) rs (kN ns)
  | [], [], _ => .nil
  | _ :: _, _ :: _, .cons h t => .cons h (pair_n t)
theorem pair_c {K : PySem.W.Frag} {H : Hp} : ∀ {rs : List Addr} {cs : List (Int × Int)}, Paired (fun b (p : V × V) => SqT K H b [p.1, p.2]) rs (cs.map cV) → Paired (fun p (kv : Key × V) => SqT K H p [kV kv.1, kv.2]) rs (kC cs)
  | [], [], _ => .nil
  | _ :: _, _ :: _, .cons h t => .cons h (pair_c t)
/-- a dict of the seconds of pairs, all with the value true -/
theorem dcP {K : PySem.W.Frag} {rs : List Addr} {ls : List (V × V)} {gs : List Int} {te : TE} {g : TG} {tk tv : TE} {vs : List Nat} {σ : L2.St} {H : Hp} {Q : VK}
    (hte : ∀ R : VK, (∀ a H1, Same H H1 → PT H1 a (rs.map V.ref) → R (.ref a) H1) → te σ H R)
    (hp : Paired (fun b (p : V × V) => SqT K H b [p.1, p.2]) rs ls) (hg : ls.map (·.2) = gs.map V.int) (hz : ls.length ≤ 1000)
    (hs : ∀ (b : Addr) (p : V × V) (i : Int) H' (R : V → V → Hp → Prop), Same H H' → SqT K H' b [p.1, V.int i] → R (.int i) (.bl true) H' → g (.ref b) (wipe σ vs) H' fun σ2 H2 => wipe σ2 vs = wipe σ vs ∧ tk σ2 H2 fun y H4 => tv σ2 H4 fun z H5 => R y z H5)
    (hd : ∀ H' D kvs, Same H H' → H D = none → H' D = some (.dK kvs) → (∀ j : Int, (valV kvs (Sum.inl j : Key)).isSome = decide (j ∈ gs)) → Q (.ref D) H') : tDc (iTup K te) g tYes tk tv vs σ H Q := by
  refine hte _ fun a H1 sm hT => ⟨a, rfl, ⟨_, hT.sq⟩, fun D hD => ?_⟩
  have hp1 := Paired.imm (.of sm) hp
  have hl : rs.length = ls.length := Paired.len hp
  have hgl : ls.length = gs.length := by simpa using congrArg List.length hg
  have hDn : H D = none := by
    cases e : H D with
    | none => rfl
    | some o => rw [sm _ _ e] at hD; cases hD
  refine dc_tup (xs := rs.map V.ref) (fun i H' => Same H1 H' ∧ ∃ kvs : List (Key × V), H' D = some (.dK kvs) ∧ kvs.length ≤ i ∧ ∀ j : Int, (valV kvs (Sum.inl j : Key)).isSome = decide (j ∈ gs.take i)) ⟨same_new hD, [], upd_same, Nat.le_refl _, fun j => by simp [valV_nil]⟩
    (fun i H _ h => (PT.same h.1 hT).sq) (fun i x H' hx h => ?_) (fun H' h => ?_)
  · obtain ⟨s2, kvs, hk, kl, hv⟩ := h
    obtain ⟨b, p, rfl, e1, e2, hq⟩ := pairs_at (Paired.imm (.of s2) hp1) hx
    have hi : i < ls.length := (List.getElem?_eq_some_iff.mp e2).1
    have e3 : (gs.map V.int)[i]? = some p.2 := by rw [← hg, List.getElem?_map, e2]; rfl
    obtain ⟨z, e4, e5⟩ := map_at e3
    rw [e5] at hq
    refine hs b p z H' (fun y z2 H5 => ∃ kvs k, y = kV k ∧ H5 D = some (.dK kvs) ∧ kvs.length < sizeLine ∧ (Same H1 (upd H5 D (.dK (putK kvs k z2))) ∧ ∃ kvs' : List (Key × V), upd H5 D (.dK (putK kvs k z2)) D = some (.dK kvs') ∧ kvs'.length ≤ i + 1 ∧ ∀ j : Int, (valV kvs' (Sum.inl j : Key)).isSome = decide (j ∈ gs.take (i + 1)))) (sm.trans s2) hq
      ⟨kvs, Sum.inl z, rfl, hk, ?_, fun c o e => ?_, _, upd_same, ?_, fun j => ?_⟩
    · exact small1000 (by omega)
    · have nb : c ≠ D := ne_of_none e hD
      rw [upd_ne nb]
      exact s2 _ _ e
    · exact Nat.le_trans (length_putK _ _ _) (by omega)
    · rw [valV_put, List.take_add_one, e4]
      by_cases ej : j = z
      · subst ej
        rw [if_pos rfl]
        simp
      · rw [if_neg (fun q => ej (Sum.inl.inj q)), hv]
        simp [ej]
  · obtain ⟨s2, kvs, hk, _, hv⟩ := h
    rw [List.length_map, hl, hgl, List.take_length] at hv
    exact hd H' D kvs (sm.trans s2) hDn hk hv
/-- t + u, a tuple behind it -/
theorem cat_pt {K : PySem.W.Frag} {H : Hp} {a b : Addr} {xs ys : List V} {R : VK} (ha : PT H a xs) (hb : PT H b ys) (hz : xs.length + ys.length ≤ 10000) (k : ∀ t H1, Same H H1 → PT H1 t (xs ++ ys) → R (.ref t) H1) : rCatP K (.ref a) (.ref b) H R := by
  refine ⟨a, b, xs, ys, rfl, rfl, ha.sq, hb.sq, sl_le (by omega), fun e => k b H (fun _ _ h => h) (by subst e; exact hb), fun _ e => k a H (fun _ _ h => h) (by subst e; rw [List.append_nil]; exact ha), fun _ _ p o hn ho => k p _ (same_new hn) (PT.new ho)⟩
end K1
/-! Comprehensions that make pairs; the signs of a store's text. -/
namespace K1
open PySem PySem.Spec L2 Z
theorem lcMk {α : Type} {K : PySem.W.Frag} {ls : List α} {te : TE} {g : TG} {tel : TE} {vs : List Nat} {σ : L2.St} {H : Hp} {Q : VK} (wd : α → V) (G : α → V × V → Prop) (Pre : Addr → Hp → Prop)
    (hte : ∀ R : VK, (∀ l H1, Pre l H1 → R (.ref l) H1) → te σ H R) (hz : ls.length ≤ 1000) (hq : ∀ l H1, Pre l H1 → ∃ xs, SqL K H1 l xs)
    (hb : ∀ l H1 D, Pre l H1 → H1 D = none → ∃ Iv : Hp → Prop, Iv H1 ∧ (∀ H' o, Iv H' → Iv (upd H' D o)) ∧ (∀ H', Iv H' → SqL K H' l (ls.map wd)) ∧
      (∀ p H' acc (R : V → Hp → Prop), p ∈ ls → Iv H' → H' D = some (.lst acc) → (∀ b q H'', Iv H'' → Imm H' H'' → H'' D = some (.lst acc) → G p q → SqT K H'' b [q.1, q.2] → R (.ref b) H'') →
        g (wd p) (wipe σ vs) H' fun σ2 H2 => wipe σ2 vs = wipe σ vs ∧ tel σ2 H2 R) ∧
      (∀ H' bs qs, Iv H' → H' D = some (.lst (bs.map V.ref)) → Paired (fun b (p : V × V) => SqT K H' b [p.1, p.2]) bs qs → Paired G ls qs → Q (.ref D) H')) : tLc (iList K te) g tYes tel vs σ H Q := by
  refine hte _ fun l H1 pre => ?_
  refine ⟨l, rfl, hq _ _ pre, fun D hD => ?_⟩
  obtain ⟨Iv, i0, iu, il, ih, id⟩ := hb l H1 D pre hD
  refine lc_it (n := ls.length) (fun i H' => Iv H' ∧ ∃ (bs : List Addr) (qs : List (V × V)), bs.length = i ∧ H' D = some (.lst (bs.map V.ref)) ∧ Paired (fun b (p : V × V) => SqT K H' b [p.1, p.2]) bs qs ∧ Paired G (ls.take i) qs)
    ⟨iu _ _ i0, [], [], rfl, upd_same, .nil, .nil⟩ (fun i H' hi h => ⟨ls.map wd, (ls.map wd)[i]'(by simpa using hi), il _ h.1, List.getElem?_eq_getElem _⟩) (fun H' h => ⟨ls.map wd, il _ h.1, by simp⟩) (fun i x H' H2 hi h y => ?_) (fun H' h => ?_)
  · obtain ⟨iv, bs, qs, hl, hk, hp, hg⟩ := h
    obtain ⟨rfl, y⟩ := y
    obtain ⟨p, e1, rfl⟩ := map_at (y _ (il _ iv))
    refine ih p H2 (bs.map V.ref) _ (List.mem_of_getElem? e1) iv hk fun b q H3 iv3 im hk3 gq hq => ?_
    refine ⟨_, hk3, ?_, iu _ _ iv3, bs ++ [b], qs ++ [q], by simp [hl], ?_, ?_, ?_⟩
    · rw [List.length_map]
      exact small1000 (by omega)
    · rw [upd_same, List.map_append]
      rfl
    · have i4 : Imm H3 (upd H3 D (.lst (bs.map V.ref ++ [.ref b]))) := Chg.imm Chg.upd hk3 trivial
      exact Paired.snoc (F := fun b (p : V × V) => SqT K _ b [p.1, p.2]) (x := b) (y := q) (SqT.imm i4 hq) (Paired.imm (im.trans i4) hp)
    · rw [List.take_add_one, e1]
      exact Paired.snoc gq hg
  · obtain ⟨iv, bs, qs, hl, hk, hp, hg⟩ := h
    rw [List.take_length] at hg
    exact id H' bs qs iv hk hp hg
theorem paired_map {α β : Type} {f : α → β} : ∀ {ls : List α} {qs : List β}, Paired (fun p q => q = f p) ls qs → qs = ls.map f
  | _, _, .nil => rfl
  | _, _, .cons h t => by rw [h, paired_map t]; rfl
theorem mem_glue {S : List Nat} {c : Nat} : ∀ {l : List (List Nat)}, c ∈ TL.joinL S l → c ∈ S ∨ ∃ p ∈ l, c ∈ p
  | [], h => by simp [TL.joinL] at h
  | [y], h => .inr ⟨y, List.mem_cons_self, h⟩
  | y :: z :: t, h => by
    simp only [TL.joinL, List.mem_append] at h
    rcases h with h | h | h
    · exact .inr ⟨y, List.mem_cons_self, h⟩
    · exact .inl h
    · rcases mem_glue (l := z :: t) h with h | ⟨p, hp, hc⟩
      · exact .inl h
      · exact .inr ⟨p, List.mem_cons_of_mem _ hp, hc⟩
theorem eq_tl : TL.tl (Str.ofString "=") = [61] := by decide +kernel
theorem gt_tl : TL.tl (Str.ofString ">") = [62] := by decide +kernel
theorem sp_tl : TL.tl sp1 = [32] := by decide +kernel
theorem bar_tl : TL.tl (Str.ofString " | ") = [32, 124, 32] := by decide +kernel
theorem none_tl : TL.tl (Str.ofString "none") = [110, 111, 110, 101] := by decide +kernel
theorem ch_tl (c : Nat) : TL.tl (ch c) = [c] := rfl
theorem nameW_mem {p : Nat × Int} (l1 : 97 ≤ p.1) (l2 : p.1 ≤ 122) (h : 0 ≤ p.2) {c : Nat} (hc : c ∈ TL.tl (nameW p)) : 48 ≤ c ∧ c ≤ 122 := by
  unfold nameW at hc
  rw [TL.tl_append, TL.tl_append, List.mem_append, List.mem_append, ch_tl, eq_tl] at hc
  rcases hc with (hc | hc) | hc
  · have := List.mem_singleton.mp hc
    omega
  · have := List.mem_singleton.mp hc
    omega
  · have := num_dig h c hc
    omega
theorem cellW_mem {p : Int × Int} (h : 0 ≤ p.1) (h2 : 0 ≤ p.2) {c : Nat} (hc : c ∈ TL.tl (cellW p)) : 48 ≤ c ∧ c ≤ 62 := by
  unfold cellW at hc
  rw [TL.tl_append, TL.tl_append, List.mem_append, List.mem_append, gt_tl] at hc
  rcases hc with (hc | hc) | hc
  · have := num_dig h c hc
    omega
  · have := List.mem_singleton.mp hc
    omega
  · have := num_dig h2 c hc
    omega
theorem nTxt_mem {ns : List (Nat × Int)} (ok : NOk ns) {c : Nat} (hc : c ∈ TL.tl (nTxt ns)) : c ≤ 122 := by
  unfold nTxt at hc
  rw [tl_glue, sp_tl] at hc
  rcases mem_glue hc with h | ⟨q, hq, h⟩
  · have := List.mem_singleton.mp h
    omega
  · obtain ⟨r, hr, rfl⟩ := List.mem_map.mp hq
    obtain ⟨p, hp, rfl⟩ := List.mem_map.mp hr
    exact (nameW_mem (ok.let_ p hp).1 (ok.let_ p hp).2 (ok.pl p hp).1 h).2
theorem cJ_mem {cs : List (Int × Int)} (ok : COk cs) {c : Nat} (hc : c ∈ TL.tl (Txt.join sp1 (cs.map cellW))) : c ≤ 62 := by
  rw [tl_glue, sp_tl] at hc
  rcases mem_glue hc with h | ⟨q, hq, h⟩
  · have := List.mem_singleton.mp h
    omega
  · obtain ⟨r, hr, rfl⟩ := List.mem_map.mp hq
    obtain ⟨p, hp, rfl⟩ := List.mem_map.mp hr
    obtain ⟨a, b, d, e⟩ := ok.pl p hp
    exact (cellW_mem (by omega) d h).2
theorem cTxt_mem {cs : List (Int × Int)} (ok : COk cs) {c : Nat} (hc : c ∈ TL.tl (cTxt cs)) : c ≤ 122 := by
  unfold cTxt at hc
  split at hc
  · rw [none_tl] at hc
    simp only [List.mem_cons, List.not_mem_nil, or_false] at hc
    omega
  · have := cJ_mem ok hc
    omega
theorem stTxt_mem {ns : List (Nat × Int)} {cs : List (Int × Int)} (ok : NOk ns) (ck : COk cs) {c : Nat} (hc : c ∈ TL.tl (stTxt ns cs)) : c < 16 ^ 8 := by
  unfold stTxt at hc
  rw [TL.tl_append, TL.tl_append, List.mem_append, List.mem_append, bar_tl] at hc
  refine Nat.lt_of_le_of_lt (m := 124) ?_ (by decide)
  rcases hc with (hc | hc) | hc
  · have := nTxt_mem ok hc
    omega
  · simp only [List.mem_cons, List.not_mem_nil, or_false] at hc
    omega
  · have := cTxt_mem ck hc
    omega
theorem no_bar {l : List Nat} {i : Nat} (h : l[i + 1]? ≠ some 124) : TL.pre [32, 124, 32] (l.drop i) = false := by
  cases e : TL.pre [32, 124, 32] (l.drop i) with
  | false => rfl
  | true =>
    exfalso
    unfold TL.pre at e
    have e2 := eq_of_beq e
    have : ((l.drop i).take 3)[1]? = some 124 := by
      have e3 : ([32, 124, 32] : List Nat).length = 3 := rfl
      rw [e3] at e2
      rw [e2]
      rfl
    rw [List.getElem?_take, if_pos (by decide), List.getElem?_drop] at this
    exact h this
theorem split_st {ns : List (Nat × Int)} {cs : List (Int × Int)} (ok : NOk ns) (ck : COk cs) : Txt.split (stTxt ns cs) (Str.ofString " | ") = [nTxt ns, cTxt cs] := by
  apply TL.map_tl_inj
  have hne : TL.tl (Str.ofString " | ") ≠ [] := by rw [bar_tl]; simp
  rw [TL.split_spl _ _ hne (TL.kind_ok (by decide +kernel))]
  unfold stTxt
  rw [TL.tl_append, TL.tl_append, bar_tl, List.append_assoc]
  rw [TL.spl_part (by simp) (fun i hi => ?_), TL.spl_last (fun i hi => ?_)]
  · rfl
  · refine no_bar fun z => ?_
    have := cTxt_mem ck (List.mem_of_getElem? z)
    omega
  · refine no_bar fun z => ?_
    by_cases hj : i + 1 < (TL.tl (nTxt ns)).length
    · rw [List.getElem?_append_left hj] at z
      have := nTxt_mem ok (List.mem_of_getElem? z)
      omega
    · have e : i + 1 = (TL.tl (nTxt ns)).length := by omega
      rw [List.getElem?_append_right (by omega), e, Nat.sub_self] at z
      simp at z
theorem split_n {ns : List (Nat × Int)} (ok : NOk ns) : Txt.split (nTxt ns) (Str.ofString " ") = ns.map nameW := by
  refine TL.split_join (s := 32) (S := []) sp_tl (by decide +kernel) ?_ ?_
  · intro z
    have := ok.one
    rw [List.map_eq_nil_iff] at z
    subst z
    simp at this
  · intro q hq h
    obtain ⟨p, hp, rfl⟩ := List.mem_map.mp hq
    have := nameW_mem (ok.let_ p hp).1 (ok.let_ p hp).2 (ok.pl p hp).1 h
    omega
theorem split_c {cs : List (Int × Int)} (ck : COk cs) (h : cs ≠ []) : Txt.split (cTxt cs) (Str.ofString " ") = cs.map cellW := by
  unfold cTxt
  rw [if_neg h]
  refine TL.split_join (s := 32) (S := []) sp_tl (by decide +kernel) (by simpa using h) ?_
  intro q hq h
  obtain ⟨p, hp, rfl⟩ := List.mem_map.mp hq
  obtain ⟨a, b, d, e⟩ := ck.pl p hp
  have := cellW_mem (by omega) d h
  omega
theorem none_iff {cs : List (Int × Int)} (ck : COk cs) : decide (V.str (cTxt cs) = V.str (Str.ofString "none")) = decide (cs = []) := by
  by_cases h : cs = []
  · rw [decide_eq_true h]
    exact decide_eq_true (by unfold cTxt; rw [if_pos h])
  · rw [decide_eq_false h]
    refine str_ne fun e => ?_
    unfold cTxt at e
    rw [if_neg h] at e
    have := cJ_mem ck (c := 110) (by rw [e, none_tl]; simp)
    omega
theorem SqL_same {K : PySem.W.Frag} {H H' : Hp} {a : Addr} {xs : List V} (e : Same H H') (h : SqL K H a xs) : SqL K H' a xs := by
  rcases h with (h | ⟨o, h⟩) | h
  · exact .inl (.inl (e _ _ h))
  · exact .inl (.inr ⟨o, e _ _ h⟩)
  · exact .inr h
theorem at_third {α : Type} {xs : List α} {x y z : α} : atI (x :: y :: z :: xs) 2 = some z := at_nat (i := 2) rfl
theorem fm_range {i m : Int} (h : 0 < m) : 0 ≤ i.fmod m ∧ i.fmod m < m := ⟨Int.fmod_nonneg_of_pos i h, Int.fmod_lt_of_pos i h⟩
theorem op_notIn_seqK {X : Cx} {K : PySem.W.Frag} (h : X.K = K) : OpR X (compareOp .NotIn) (rIn K true) := h ▸ op_notIn_seq
theorem cut_mem {xs : List V} {lo hi : Option Int} {x : V} (h : x ∈ cutV xs lo hi) : x ∈ xs := List.mem_of_mem_drop (List.mem_of_mem_take h)
theorem JugAt.of {H : Hp} {j : Addr} {g s c : Int} (h : H j = some (.lst [.int g, .int s, .int c])) (a : -(2 ^ 64) < s) (b : s < 2 ^ 64) : JugAt H j := ⟨g, s, c, h, a, b⟩
theorem at_of {α : Type} {xs : List α} {k : Int} (h : 0 ≤ k) (h2 : k < xs.length) : ∃ x, x ∈ xs ∧ atI xs k = some x := by
  have hk : k.toNat < xs.length := by omega
  refine ⟨xs[k.toNat], List.getElem_mem _, ?_⟩
  have e := at_nat (xs := xs) (i := k.toNat) (List.getElem?_eq_getElem hk)
  rw [Int.toNat_of_nonneg h] at e
  exact e
end K1
/-! Letters: drawn, kept apart, in order. -/
namespace K1
open PySem PySem.Spec PyProof.Rows L2 Z
theorem nz1 : (1000000007 : Int) ≠ 0 := by decide
theorem nz2 : (2147483399 : Int) ≠ 0 := by decide
theorem nz3 : (2147483563 : Int) ≠ 0 := by decide
def cS (c : Nat) : V := .str (ch c)
theorem inV_ch (c : Nat) : ∀ cs : List Nat, inV (cS c) (cs.map cS) = decide (c ∈ cs)
  | [] => by simp [inV]
  | a :: t => by
    have ih := inV_ch c t
    unfold inV at ih ⊢
    rw [List.map_cons, List.any_cons, ih]
    have : eqV (cS a) (cS c) = decide (a = c) := ch_inj
    rw [this, Bool.eq_iff_iff, Bool.or_eq_true, decide_eq_true_eq, decide_eq_true_eq, decide_eq_true_eq, List.mem_cons]
    exact ⟨fun h => h.imp Eq.symm id, fun h => h.imp Eq.symm id⟩
theorem flat_ch (cs : List Nat) : (cs.map cS).all flatV = true := by
  rw [List.all_map, List.all_eq_true]
  intro c _
  rfl
theorem lcF {K : PySem.W.Frag} {a0 a1 a3 a4 a5 a6 : Option V} {H : Hp} {Q : VK} {w : Str} {cs : List Nat} {p : Addr} (hp : H p = some (.lst (cs.map cS))) (hw : w.cps.size ≤ 100)
    (hd : ∀ H' D, Same H H' → H D = none → H' D = some (.lst ((w.cps.toList.filter fun c => !decide (c ∈ cs)).map cS)) → Q (.ref D) H') :
    tLc (iStr (tC (.str w))) (gName 6) (tTest (tOp (rIn K true) (tVar 6) (tVar 2))) (tVar 6) [6] [a0, a1, some (.ref p), a3, a4, a5, a6] H Q := by
  refine ⟨w, rfl, fun D hD => ?_⟩
  refine lc_it (n := w.cps.size) (fun i H' => Same H H' ∧ H' D = some (.lst (((w.cps.toList.take i).filter fun c => !decide (c ∈ cs)).map cS))) ⟨same_new hD, upd_same⟩ (fun i H' hi _ => hi) (fun H' _ => Nat.le_refl _) (fun i x H' H2 hi h y => ?_) (fun H' h => ?_)
  · obtain ⟨sm, hk⟩ := h
    obtain ⟨rfl, c, hc, rfl⟩ := y
    have hc2 : w.cps.toList[i]? = some c := by rw [Array.getElem?_toList]; exact hc
    refine ⟨rfl, _, rfl, _, rfl, p, _, rfl, .inl (.inl (.inl (sm _ _ hp))), rfl, flat_ch cs, _, rfl, ?_⟩
    show if (!inV (cS c) (cs.map cS)) = true then _ else _
    rw [inV_ch]
    by_cases hm : c ∈ cs
    · rw [decide_eq_true hm]
      refine iteF ⟨sm, ?_⟩
      rw [hk, List.take_add_one, hc2, List.filter_append]
      simp [hm]
    · rw [decide_eq_false hm]
      refine iteT ⟨_, rfl, _, hk, ?_, fun b o e => ?_, ?_⟩
      · rw [List.length_map]
        refine small1000 ?_
        have h1 := List.length_filter_le (fun c => !decide (c ∈ cs)) (w.cps.toList.take i)
        rw [List.length_take] at h1
        omega
      · rw [upd_ne (ne_of_none e hD)]
        exact sm _ _ e
      · rw [upd_same, List.take_add_one, hc2, List.filter_append, List.map_append]
        simp [hm]
        rfl
  · refine hd H' D h.1 hD ?_
    have := h.2
    rw [← Array.length_toList, List.take_length] at this
    exact this
theorem nodup_len : ∀ {S cs : List Nat}, S.Nodup → (∀ c ∈ S, c ∈ cs) → S.length ≤ cs.length
  | [], _, _, _ => Nat.zero_le _
  | a :: t, cs, hS, h => by
    obtain ⟨h1, h2⟩ := List.nodup_cons.mp hS
    have ha := h a List.mem_cons_self
    have := nodup_len (S := t) (cs := cs.erase a) h2 fun c hc => (List.mem_erase_of_ne (fun z : c = a => h1 (z ▸ hc))).mpr (h c (List.mem_cons_of_mem _ hc))
    rw [List.length_erase_of_mem ha] at this
    have := List.length_pos_of_mem ha
    rw [List.length_cons]
    omega
theorem left_pos {S cs : List Nat} (hS : S.Nodup) (h : cs.length < S.length) : S.filter (fun c => !decide (c ∈ cs)) ≠ [] := fun e => by
  have sub : ∀ c ∈ S, c ∈ cs := fun c hc => by
    have := List.filter_eq_nil_iff.mp e c hc
    simpa using this
  have := nodup_len hS sub
  omega
theorem rising_le : ∀ (l : List Nat) (a : Nat), risingS (ch a) (l.map ch) = true → (a :: l).Pairwise (· ≤ ·)
  | [], a, _ => by simp
  | b :: t, a, h => by
    have hb : ltCps [b] [a] = false ∧ risingS (ch b) (t.map ch) = true := by
      have h' : (!ltCps [b] [a] && risingS (ch b) (t.map ch)) = true := h
      rw [Bool.and_eq_true, Bool.not_eq_true'] at h'
      exact h'
    have ih := rising_le t b hb.2
    have hab : a ≤ b := by
      by_cases z : b < a
      · have := hb.1
        simp [ltCps, z] at this
      · omega
    refine List.pairwise_cons.mpr ⟨fun c hc => ?_, ih⟩
    rcases List.mem_cons.mp hc with rfl | hc
    · exact hab
    · exact Nat.le_trans hab (List.rel_of_pairwise_cons ih hc)
theorem sorted_ch {ys : List Str} {cs : List Nat} (hp : ys.Perm (cs.map ch)) (hs : sortedS ys = true) (nd : cs.Nodup) : ∃ l : List Nat, ys = l.map ch ∧ l.Perm cs ∧ l.Pairwise (· < ·) := by
  let hd : Str → Nat := fun s => s.cps.toList.headD 0
  have e1 : ∀ y ∈ ys, ch (hd y) = y := fun y hy => by
    obtain ⟨c, _, rfl⟩ := List.mem_map.mp (hp.mem_iff.mp hy)
    rfl
  have e2 : ys = (ys.map hd).map ch := by
    rw [List.map_map]
    conv => lhs; rw [← List.map_id ys]
    exact (List.map_congr_left fun y hy => (e1 y hy).symm)
  have e3 : (ys.map hd).Perm cs := by
    have := hp.map hd
    rw [List.map_map] at this
    have e : hd ∘ ch = id := rfl
    rw [e, List.map_id] at this
    exact this
  have nd2 : (ys.map hd).Nodup := e3.nodup_iff.mpr nd
  refine ⟨ys.map hd, e2, e3, ?_⟩
  have le : (ys.map hd).Pairwise (· ≤ ·) := by
    generalize hq : ys.map hd = l at e2
    subst e2
    cases l with
    | nil => exact .nil
    | cons a t => exact rising_le t a hs
  exact (List.pairwise_and_iff.mpr ⟨le, nd2⟩).imp fun {a b} h => Nat.lt_of_le_of_ne h.1 h.2
theorem JugAt.same {H H' : Hp} {j : Addr} (e : Same H H') (h : JugAt H j) : JugAt H' j := by
  obtain ⟨g, s, c, q, a, b⟩ := h
  exact ⟨g, s, c, e _ _ q, a, b⟩
theorem jug_upd {H : Hp} {j p : Addr} {o : HO} (n : p ≠ j) (h : JugAt H j) : JugAt (upd H p o) j := by
  obtain ⟨g, s, c, q, a, b⟩ := h
  exact ⟨g, s, c, by rw [upd_ne (Ne.symm n)]; exact q, a, b⟩
theorem JugAt.ne {H : Hp} {j p : Addr} (h : JugAt H j) (hp : H p = none) : p ≠ j := by
  obtain ⟨g, s, c, q, a, b⟩ := h
  exact fun z => by rw [z, q] at hp; cases hp
theorem JugAt.neL {H : Hp} {j p : Addr} {o : HO} (h : JugAt H j) (hp : H p = some o) (n : ∀ l, o ≠ .lst l) : p ≠ j := by
  obtain ⟨g, s, c, q, a, b⟩ := h
  exact fun z => by
    rw [z, q] at hp
    exact n _ (Option.some.inj hp).symm
theorem chg_new {j p : Addr} {H H' : Hp} {o : HO} (c : Chg j H H') (hp : H p = none) : Chg j H (upd H' p o) := fun b x e n => by
  rw [upd_ne (ne_of_none e hp)]
  exact c b x e n
theorem none_chg {j p : Addr} {H H' : Hp} (c : Chg j H H') (hj : JugAt H' j) (hp : H' p = none) : H p = none := by
  cases e : H p with
  | none => rfl
  | some o => rw [c p o e (hj.ne hp)] at hp; cases hp
theorem near_let : ∀ c ∈ (Str.ofString "xyzuvw").cps.toList, 97 ≤ c ∧ c ≤ 122 := by
  have e : (Str.ofString "xyzuvw").cps.toList = [120, 121, 122, 117, 118, 119] := by decide +kernel
  rw [e]
  decide
theorem all_let : ∀ c ∈ (Str.ofString "abcdefghijklmnopqrstuvwxyz").cps.toList, 97 ≤ c ∧ c ≤ 122 := by
  have e : (Str.ofString "abcdefghijklmnopqrstuvwxyz").cps.toList = (List.range 26).map (· + 97) := by decide +kernel
  rw [e]
  decide
theorem near_n : (Str.ofString "xyzuvw").cps.toList.length = 6 := by decide +kernel
theorem all_n : (Str.ofString "abcdefghijklmnopqrstuvwxyz").cps.toList.length = 26 := by decide +kernel
theorem chg_imm {j : Addr} {H H' : Hp} (c : Chg j H H') (h : JugAt H j) : Imm H H' := by
  obtain ⟨g, s, n, q, _, _⟩ := h
  exact c.imm q trivial
theorem ints_mem {xs : List Int} {x : V} (h : x ∈ xs.map V.int) : ∃ i, x = .int i ∧ i ∈ xs := by
  obtain ⟨i, hi, rfl⟩ := List.mem_map.mp h
  exact ⟨i, rfl, hi⟩
theorem sl_pt {K : PySem.W.Frag} {H : Hp} {a : Addr} {xs : List V} {lo hi : Option Int} {Q : VK} (h : PT H a xs) (k : ∀ t H1, Same H H1 → PT H1 t (cutV xs lo hi) → Q (.ref t) H1) : rSlP K (.ref a) lo hi H Q := by
  refine ⟨a, xs, rfl, h.sq, fun e => k a H (fun _ _ h => h) ?_, fun _ p o hp ho => k p _ (same_new hp) (PT.new ho)⟩
  have : cutV xs lo hi = xs := by
    unfold cutV
    rw [e.1, e.2, List.drop_zero, Nat.sub_zero, List.take_length]
  rw [this]
  exact h
theorem cut_take {xs : List V} {i : Nat} (h : i ≤ xs.length) : cutV xs none (some (i : Int)) = xs.take i := by
  unfold cutV
  rw [HT.sIx_nat]
  show (xs.drop 0).take (min i xs.length - 0) = xs.take i
  rw [List.drop_zero, Nat.min_eq_left h, Nat.sub_zero]
theorem cut_drop {xs : List V} {i : Nat} (h : i < xs.length) : cutV xs (some ((i : Int) + 1)) none = xs.drop (i + 1) := by
  have e : ((i : Int) + 1) = ((i + 1 : Nat) : Int) := by omega
  unfold cutV
  rw [e, HT.sIx_nat]
  show (xs.drop (min (i + 1) xs.length)).take (xs.length - min (i + 1) xs.length) = xs.drop (i + 1)
  rw [Nat.min_eq_left (by omega), List.take_of_length_le (by rw [List.length_drop]; exact Nat.le_refl _)]
theorem set_fst {α β : Type} {g : β} : ∀ {l : List (α × β)} {i : Nat} {q : α × β}, l[i]? = some q → (l.set i (q.1, g)).map (·.1) = l.map (·.1)
  | [], _, _, h => by simp at h
  | x :: t, 0, q, h => by
    simp at h
    subst h
    rfl
  | x :: t, i + 1, q, h => by
    rw [List.set_cons_succ, List.map_cons, List.map_cons, set_fst (by simpa using h)]
theorem Paired.take {α β : Type} {F : α → β → Prop} : ∀ (i : Nat) {l : List α} {m : List β}, Paired F l m → Paired F (l.take i) (m.take i)
  | 0, _, _, _ => .nil
  | _ + 1, _, _, .nil => .nil
  | i + 1, _, _, .cons h t => .cons h (Paired.take i t)
theorem Paired.drop {α β : Type} {F : α → β → Prop} : ∀ (i : Nat) {l : List α} {m : List β}, Paired F l m → Paired F (l.drop i) (m.drop i)
  | 0, _, _, h => h
  | _ + 1, _, _, .nil => .nil
  | i + 1, _, _, .cons _ t => Paired.drop i t
theorem nok_set {ns : List (Nat × Int)} {i : Nat} {q : Nat × Int} {g : Int} (ok : NOk ns) (h : ns[i]? = some q) (h0 : 0 ≤ g) (h9 : g ≤ 999) : NOk (ns.set i (q.1, g)) := by
  have hq := List.mem_of_getElem? h
  refine ⟨by rw [List.length_set]; exact ok.one, by rw [List.length_set]; exact ok.four, fun p hp => ?_, fun p hp => ?_, by rw [set_fst h]; exact ok.asc⟩
  · rcases List.mem_or_eq_of_mem_set hp with z | rfl
    · exact ok.let_ p z
    · exact ok.let_ q hq
  · rcases List.mem_or_eq_of_mem_set hp with z | rfl
    · exact ok.pl p z
    · exact ⟨h0, h9⟩
theorem cok_set {cs : List (Int × Int)} {i : Nat} {q : Int × Int} {g : Int} (ok : COk cs) (h : cs[i]? = some q) (h0 : 0 ≤ g) (h9 : g ≤ 999) : COk (cs.set i (q.1, g)) := by
  have hq := List.mem_of_getElem? h
  refine ⟨by rw [List.length_set]; exact ok.few, fun p hp => ?_, by rw [set_fst h]; exact ok.asc⟩
  rcases List.mem_or_eq_of_mem_set hp with z | rfl
  · exact ok.pl p z
  · obtain ⟨a, b, _, _⟩ := ok.pl q hq
    exact ⟨a, b, h0, h9⟩
/-- a tuple of pairs with the i-th pair changed -/
theorem tp_set {K : PySem.W.Frag} {H : Hp} {t b : Addr} {rs : List Addr} {ls : List (V × V)} {i : Nat} {x : V × V} (hi : i < ls.length) (ht : PT H t ((rs.map V.ref).take i ++ [V.ref b] ++ (rs.map V.ref).drop (i + 1)))
    (hp : Paired (fun b (p : V × V) => SqT K H b [p.1, p.2]) rs ls) (hb : SqT K H b [x.1, x.2]) : TP K H (.ref t) (ls.set i x) := by
  refine ⟨t, rs.take i ++ [b] ++ rs.drop (i + 1), rfl, by rw [List.map_append, List.map_append, List.map_take, List.map_drop]; exact ht, ?_⟩
  rw [List.set_eq_take_append_cons_drop, if_pos hi]
  have e : ls.take i ++ x :: ls.drop (i + 1) = (ls.take i ++ [x]) ++ ls.drop (i + 1) := by simp
  rw [e]
  exact Paired.app (Paired.snoc (F := fun b (p : V × V) => SqT K H b [p.1, p.2]) (x := b) (y := x) hb (Paired.take i hp)) (Paired.drop (i + 1) hp)
/-- a tuple of pairs, the second of one pair changed -/
theorem change {K : PySem.W.Frag} {H : Hp} {a : Addr} {rs : List Addr} {ls : List (V × V)} {i v : Nat} {x y : V} {go : Int} {σ : L2.St} {Q : VK} (hv : σ[v]? = some (some (.ref a))) (h4 : σ[4]? = some (some (.int go))) (h5 : σ[5]? = some (some (.int (i : Int))))
    (ht : PT H a (rs.map V.ref)) (hp : Paired (fun b (p : V × V) => SqT K H b [p.1, p.2]) rs ls) (hx : ls[i]? = some (x, y)) (hz : ls.length ≤ 1000) (k : ∀ t H', Same H H' → TP K H' (.ref t) (ls.set i (x, .int go)) → Q (.ref t) H') :
    tOp (rCatP K) (tOp (rCatP K) (tSl (rSlP K) (tVar v) tNoPart (tPart (tVar 5))) (tTupP (tCons (tTup (tCons (tOp (rIxT K) (tOp (rIxT K) (tVar v) (tVar 5)) (tC (.int 0))) (tCons (tVar 4) tNil))) tNil)))
      (tSl (rSlP K) (tVar v) (tPart (tOp (rI0 fun i j => .int (i + j)) (tVar 5) (tC (.int 1)))) tNoPart) σ H Q := by
  have hl : rs.length = ls.length := Paired.len hp
  have hi : i < ls.length := (List.getElem?_eq_some_iff.mp hx).1
  have hlm : (rs.map V.ref).length = ls.length := by rw [List.length_map, hl]
  refine ⟨_, hv, _, h5, i, rfl, ?_⟩
  refine sl_pt ht fun t1 H1 s1 p1 => ?_
  rw [cut_take (by rw [hlm]; omega)] at p1
  have hb : rs[i]? = some (rs[i]'(by omega)) := List.getElem?_eq_getElem _
  obtain ⟨q, e2, hq⟩ := Paired.at (Paired.imm (.of s1) hp) hb
  rw [hx] at e2
  cases e2
  refine ⟨_, hv, _, h5, a, _, (i : Int), _, rfl, rfl, (PT.same s1 ht).sq, at_nat (by rw [List.getElem?_map, hb]; rfl), _, _, 0, _, rfl, rfl, hq, at_first, _, h4, by show 2 ≤ sizeLine; exact sl_le (by decide), fun b hbn => ?_⟩
  have s2 := s1.trans (same_new (o := .tup [x, V.int go]) hbn)
  have b2 : upd H1 b (.tup [x, V.int go]) b = some (.tup [x, V.int go]) := upd_same
  have p2 := PT.same (same_new (o := .tup [x, V.int go]) hbn) p1
  generalize upd H1 b (.tup [x, V.int go]) = H2 at s2 b2 p2 ⊢
  refine ⟨by show 1 ≤ sizeLine; exact sl_le (by decide), fun p3 o3 hp3 ho3 => ?_⟩
  have s3 := same_new (o := .frz o3 (.tup [V.ref b])) hp3
  refine cat_pt (PT.same s3 p2) (PT.new ho3) (by rw [List.length_take]; show min i _ + 1 ≤ 10000; omega) fun t4 H4 s4 p4 => ?_
  have s04 := (s2.trans s3).trans s4
  refine ⟨_, hv, _, h5, _, _, rfl, rfl, _, rfl, ?_⟩
  unfold tNoPart
  dsimp only
  refine sl_pt (PT.same s04 ht) fun t5 H5 s5 p5 => ?_
  rw [cut_drop (by rw [hlm]; exact hi)] at p5
  refine cat_pt (PT.same s5 p4) p5 (by rw [List.length_append, List.length_take, List.length_drop, hlm]; show min i _ + 1 + _ ≤ 10000; omega) fun t6 H6 s6 p6 => ?_
  have s06 := (s04.trans s5).trans s6
  exact k t6 H6 s06 (tp_set hi p6 (Paired.imm (.of s06) hp) (.inl (.inl (s6 _ _ (s5 _ _ (s4 _ _ (s3 _ _ b2)))))))
theorem set_map {α β : Type} {f : α → β} (l : List α) (i : Nat) (a : α) : (l.map f).set i (f a) = (l.set i a).map f := by rw [List.map_set]
theorem ix_tupK {X : Cx} {K : PySem.W.Frag} (h : X.K = K) : IxR X (rIxT K) := h ▸ ix_tup
theorem repr_ok {K : PySem.W.Frag} {H : Hp} {a : Addr} {xs : List V} {ds : List PyData} {k m : Nat} (h : SqL K H a xs) (hd : DpAll K H xs ds) (hf : ∀ d ∈ ds, Fit d k m) (hz : (k + 2) * ds.length + 3 ≤ 16000000) (hm : m ≤ 50) :
    Dp K H (.ref a) (.list ds) ∧ (PyData.list ds).showable = true ∧ (PyData.list ds).hasDict = false ∧ (PyData.list ds).depth ≤ 60 ∧ (PyData.list ds).shown.length ≤ sizeLine := by
  have F := fit_list hf
  have e : (PyData.list ds).shown.length ≤ sizeLine := by
    rw [sizeLine_eq]
    have := F.len
    omega
  exact ⟨.lst h hd, F.ok, F.nod, Nat.le_trans F.dep (by omega), e⟩
theorem lTxt_mem {ns : List (Nat × Int)} (ok : NOk ns) : ∀ c ∈ TL.tl (lTxt ns), c < 16 ^ 8 := fun c hc => by
  unfold lTxt at hc
  rw [tl_glue] at hc
  refine Nat.lt_of_le_of_lt (m := 122) ?_ (by decide)
  rcases mem_glue hc with h | ⟨q, hq, h⟩
  · exact absurd h (by show c ∉ TL.tl Str.empty; intro z; cases z)
  · obtain ⟨r, hr, rfl⟩ := List.mem_map.mp hq
    obtain ⟨p, hp, rfl⟩ := List.mem_map.mp hr
    have := List.mem_singleton.mp h
    rw [this]
    exact (ok.let_ p hp).2
theorem lTxt_len {ns : List (Nat × Int)} (ok : NOk ns) : (lTxt ns).length ≤ 4 := by
  have h := glue_len (k := 1) (y := Str.empty) (l := ns.map fun p => ch p.1) fun y hy => by
    obtain ⟨p, hp, rfl⟩ := List.mem_map.mp hy
    exact Nat.le_refl _
  have e : Str.empty.length = 0 := rfl
  have := ok.four
  rw [List.length_map, e] at h
  unfold lTxt
  omega
theorem stTxt_len {ns : List (Nat × Int)} {cs : List (Int × Int)} (ok : NOk ns) (ck : COk cs) : (stTxt ns cs).length ≤ 3231 := by
  have a := nTxt_len ok
  have b := cTxt_len ck
  unfold stTxt
  rw [len_app, len_app, bar_len]
  omega
def tellD (ns : List (Nat × Int)) (cs : List (Int × Int)) : List PyData := [nD ns, cD cs, .str (lTxt ns), .str (stTxt ns cs)]
theorem fit_tell {ns : List (Nat × Int)} {cs : List (Int × Int)} (ok : NOk ns) (ck : COk cs) : ∀ d ∈ tellD ns cs, Fit d 32312 2 := fun d hd => by
  simp only [tellD, List.mem_cons, List.not_mem_nil, or_false] at hd
  rcases hd with rfl | rfl | rfl | rfl
  · exact fit_le (fit_n ok) (by decide) (by decide)
  · exact fit_le (fit_c ck) (by decide) (by decide)
  · exact fit_le (fit_str (lTxt_mem ok) (lTxt_len ok)) (by decide) (by decide)
  · exact fit_le (fit_str (fun c hc => stTxt_mem ok ck hc) (stTxt_len ok ck)) (by decide) (by decide)
theorem fit_ints {ps : List Int} (h : ∀ i ∈ ps, 0 ≤ i ∧ i ≤ 999) : ∀ d ∈ ps.map PyData.int, Fit d 5 0 := fun d hd => by
  obtain ⟨i, hi, rfl⟩ := List.mem_map.mp hd
  exact fit_int (h i hi).1 (h i hi).2
theorem andV_bl {ta tb : TE} {σ : L2.St} {H : Hp} {Q : VK} {c1 c2 : Bool} (h1 : ∀ R : VK, R (.bl c1) H → ta σ H R) (h2 : ∀ R : VK, R (.bl c2) H → tb σ H R) (q : Q (.bl (c1 && c2)) H) : tAndV ta tb σ H Q :=
  h1 _ ⟨c1, rfl, by
    cases c1 with
    | true => exact iteT (h2 _ q)
    | false => exact iteF q⟩
theorem inV_int (z : Int) : ∀ l : List Int, inV (.int z) (l.map V.int) = decide (z ∈ l)
  | [] => by simp [inV]
  | a :: t => by
    have ih := inV_int z t
    unfold inV at ih ⊢
    rw [List.map_cons, List.any_cons, ih]
    have : eqV (.int a) (.int z) = decide (a = z) := by
      show (a == z) = _
      rw [Bool.eq_iff_iff, beq_iff_eq, decide_eq_true_eq]
    rw [this, Bool.eq_iff_iff, Bool.or_eq_true, decide_eq_true_eq, decide_eq_true_eq, decide_eq_true_eq, List.mem_cons]
    exact ⟨fun h => h.imp Eq.symm id, fun h => h.imp Eq.symm id⟩
theorem flat_int (l : List Int) : (l.map V.int).all flatV = true := by
  rw [List.all_map, List.all_eq_true]
  intro c _
  rfl
def lookD (cs : List (Int × Int)) (i : Int) : PyData := match cs.find? (fun p => decide (p.1 = i)) with
  | some p => .int p.2
  | none => .none
theorem dp_look {K : PySem.W.Frag} {H : Hp} (cs : List (Int × Int)) (i : Int) : Dp K H (lookC cs i) (lookD cs i) := by
  unfold lookC lookD
  cases cs.find? fun p => decide (p.1 = i) with
  | none => exact .non
  | some p => exact .int _
theorem fit_look {cs : List (Int × Int)} (ck : COk cs) (i : Int) : Fit (lookD cs i) 5 0 := by
  unfold lookD
  cases h : cs.find? fun p => decide (p.1 = i) with
  | none => exact fit_non
  | some p =>
    obtain ⟨_, _, a, b⟩ := ck.pl p (List.mem_of_find?_eq_some h)
    exact fit_int a b
theorem scal_look (cs : List (Int × Int)) (i : Int) : scal (lookC cs i) (lookC cs i) = true := by
  unfold lookC
  cases cs.find? fun p => decide (p.1 = i) <;> rfl
theorem St.ins {K : PySem.W.Frag} {C : Addr} {H : Hp} {x : Addr} {ns : List (Nat × Int)} {cs : List (Int × Int)} (h : St K C H x ns cs) :
    ∃ (dx : Addr) (fs : List (Str × V)), H x = some (.ins C dx fs) ∧ fs.lookup (Str.ofString "at") = none ∧ fs.lookup (Str.ofString "arrow") = none ∧ fs.lookup (Str.ofString "is_gone") = none := by
  obtain ⟨v, u, dx, pd, ad, ld, ks, S⟩ := h
  exact ⟨dx, _, S.ob, rfl, rfl, rfl⟩
theorem bl_ne {α : Type} [DecidableEq α] (x : α) : V.bl (!decide (x = x)) = V.bl false := by simp
theorem ne0_eq (z : Int) : (!decide (V.int z = V.int 0)) = !decide (z = 0) := by simp
/-- for over a list that a local holds -/
theorem forL {K : PySem.W.Frag} {v : Nat} {l : Addr} {xs : List V} {g : TG} {tb : TS} {D : Ends} {σ : L2.St} {H : Hp} (Pv : Nat → L2.St → Hp → Prop) (hv : σ[v]? = some (some (.ref l))) (h0 : Pv 0 σ H) (hl : ∀ i σ H, i ≤ xs.length → Pv i σ H → SqL K H l xs)
    (hs : ∀ i x σ H, xs[i]? = some x → Pv i σ H → g x σ H fun σ2 H2 => tb { D with nx := Pv (i + 1), ct := Pv (i + 1), bk := D.nx } σ2 H2) (hd : ∀ σ H, Pv xs.length σ H → D.nx σ H) : tFor (iList K (tVar v)) g tb D σ H :=
  ⟨_, hv, l, rfl, ⟨_, hl 0 _ _ (Nat.zero_le _) h0⟩, for_list Pv h0 hl hs hd⟩
end K1
/-! What stands while one turn of the law runs. -/
namespace K1
open PySem PySem.Spec L2 Z
structure RS (K : PySem.W.Frag) (H0 H : Hp) (j : Addr) (v u : V) (pg : Addr) (ns : List (Nat × Int)) (cs : List (Int × Int)) (gs : List Int) : Prop where
  chg : Chg j H0 H
  jug : JugAt H j
  tn : TP K H v (ns.map nV)
  tc : TP K H u (cs.map cV)
  g : H pg = some (.lst (gs.map V.int))
  npg : pg ≠ j
theorem RS.same {K : PySem.W.Frag} {H0 H H' : Hp} {j pg : Addr} {v u : V} {ns : List (Nat × Int)} {cs : List (Int × Int)} {gs : List Int} (e : Same H H') (r : RS K H0 H j v u pg ns cs gs) : RS K H0 H' j v u pg ns cs gs :=
  ⟨r.chg.trans (Chg.of e), r.jug.same e, TP.imm (.of e) r.tn, TP.imm (.of e) r.tc, e _ _ r.g, r.npg⟩
theorem RS.cj {K : PySem.W.Frag} {H0 H H' : Hp} {j pg : Addr} {v u : V} {ns : List (Nat × Int)} {cs : List (Int × Int)} {gs : List Int} (e : Chg j H H') (hj : JugAt H' j) (r : RS K H0 H j v u pg ns cs gs) : RS K H0 H' j v u pg ns cs gs :=
  ⟨r.chg.trans e, hj, TP.imm (chg_imm e r.jug) r.tn, TP.imm (chg_imm e r.jug) r.tc, e _ _ r.g r.npg, r.npg⟩
theorem St.cj {K : PySem.W.Frag} {C j x : Addr} {H H' : Hp} {ns : List (Nat × Int)} {cs : List (Int × Int)} (e : Chg j H H') (hj : JugAt H j) (h : St K C H x ns cs) : St K C H' x ns cs := by
  obtain ⟨g, s, c, q, _, _⟩ := hj
  exact St.chg e q h
theorem same_mk {C : Addr} {H H' : Hp} {x dx : Addr} (hx : H x = none) (hdx : H dx = none) (hne : dx ≠ x) (c : Chg x (upd (upd H dx (.own x)) x (.ins C dx [])) H') : Same H H' := fun b o e => by
  have n1 : b ≠ x := ne_of_none e hx
  have n2 : b ≠ dx := ne_of_none e hdx
  exact c b o (by rw [upd_ne n1, upd_ne n2]; exact e) n1
theorem same_raw {C : Addr} {H : Hp} {x dx : Addr} (hx : H x = none) (hdx : H dx = none) (hne : dx ≠ x) : Same H (upd (upd H dx (.own x)) x (.ins C dx [])) := fun b o e => by
  have n1 : b ≠ x := ne_of_none e hx
  have n2 : b ≠ dx := ne_of_none e hdx
  rw [upd_ne n1, upd_ne n2]
  exact e
theorem names_of : ∀ {lcs : List Nat} {qs : List (V × V)}, Paired (fun c (q : V × V) => ∃ g : Int, q = (cS c, V.int g) ∧ 0 ≤ g ∧ g ≤ 999) lcs qs →
    ∃ ns : List (Nat × Int), qs = ns.map nV ∧ ns.map (·.1) = lcs ∧ ∀ p ∈ ns, 0 ≤ p.2 ∧ p.2 ≤ 999
  | _, _, .nil => ⟨[], rfl, rfl, by simp⟩
  | c :: _, _, .cons ⟨g, e, h⟩ t => by
    obtain ⟨ns, e1, e2, e3⟩ := names_of t
    refine ⟨(c, g) :: ns, by rw [e, e1]; rfl, by rw [List.map_cons, e2], fun p hp => ?_⟩
    rcases List.mem_cons.mp hp with rfl | hp
    · exact h
    · exact e3 p hp
theorem fit_bls {bs : List Bool} : ∀ d ∈ bs.map PyData.bool, Fit d 5 0 := fun d hd => by
  obtain ⟨b, _, rfl⟩ := List.mem_map.mp hd
  exact fit_bl b
theorem dp_bls {K : PySem.W.Frag} {H : Hp} : ∀ bs : List Bool, DpAll K H (bs.map V.bl) (bs.map PyData.bool)
  | [] => .nil
  | _ :: t => .cons (.bl _) (dp_bls t)
theorem repr_bls {K : PySem.W.Frag} {H : Hp} {a : Addr} (bs : List Bool) (h : H a = some (.lst (bs.map V.bl))) (hz : bs.length ≤ 100) :
    Dp K H (.ref a) (.list (bs.map PyData.bool)) ∧ (PyData.list (bs.map PyData.bool)).showable = true ∧ (PyData.list (bs.map PyData.bool)).hasDict = false ∧ (PyData.list (bs.map PyData.bool)).depth ≤ 60 ∧ (PyData.list (bs.map PyData.bool)).shown.length ≤ sizeLine :=
  repr_ok (.inl (.inl h)) (dp_bls bs) fit_bls (by rw [List.length_map]; omega) (by decide)
def two (ns : List (Nat × Int)) (cs : List (Int × Int)) : PyData := .tuple [nD ns, cD cs]
theorem dp_two {K : PySem.W.Frag} {H : Hp} {t : Addr} {v u : V} {ns : List (Nat × Int)} {cs : List (Int × Int)} (h : H t = some (.tup [v, u])) (tn : TP K H v (ns.map nV)) (tc : TP K H u (cs.map cV)) : Dp K H (.ref t) (two ns cs) :=
  .tup (.inl (.inl h)) (.cons (dp_n tn) (.cons (dp_c tc) .nil))
theorem shape_two {ns : List (Nat × Int)} {cs : List (Int × Int)} (ok : NOk ns) (ck : COk cs) : SeqAt.shaped (two ns cs) = true := by
  have a := shape_n ok
  have b := shape_c ck
  have c := (fit_n ok).dep
  have d := (fit_c ck).dep
  unfold SeqAt.shaped at a b ⊢
  rw [Bool.and_eq_true, decide_eq_true_eq] at a b ⊢
  refine ⟨?_, ?_⟩
  · simp only [two, PyData.canLay0, PyData.canLayAll0, a.1, b.1, Bool.and_true]
  · simp only [two, PyData.depth, PyData.depthAll]
    omega
theorem eqv_two (ns ns' : List (Nat × Int)) (cs cs' : List (Int × Int)) : (two ns' cs').eqv (two ns cs) = decide (ns = ns' ∧ cs = cs') := by
  have e : (two ns' cs').eqv (two ns cs) = (decide (ns' = ns) && (decide (cs' = cs) && true)) := by
    simp only [two, PyData.eqv, PyData.eqvAll, eqv_n, eqv_c]
  rw [e, Bool.and_true, Bool.eq_iff_iff, Bool.and_eq_true, decide_eq_true_eq, decide_eq_true_eq, decide_eq_true_eq]
  exact ⟨fun h => ⟨h.1.symm, h.2.symm⟩, fun h => ⟨h.1.symm, h.2.symm⟩⟩
theorem dec_sym (ns ns' : List (Nat × Int)) (cs cs' : List (Int × Int)) : decide (ns' = ns ∧ cs' = cs) = decide (ns = ns' ∧ cs = cs') := by
  rw [Bool.eq_iff_iff, decide_eq_true_eq, decide_eq_true_eq]
  exact ⟨fun h => ⟨h.1.symm, h.2.symm⟩, fun h => ⟨h.1.symm, h.2.symm⟩⟩
theorem at_end {gs : List Int} (h : gs ≠ []) : ∃ z, z ∈ gs ∧ atI (gs.map V.int) (-1) = some (V.int z) := by
  refine ⟨gs.getLast h, List.getLast_mem h, ?_⟩
  have e : gs.map V.int = (gs.dropLast).map V.int ++ [V.int (gs.getLast h)] := by
    conv => lhs; rw [← List.dropLast_concat_getLast h]
    rw [List.map_append]
    rfl
  rw [e]
  exact atI_last _ _
theorem St.get {K : PySem.W.Frag} {C : Addr} {H : Hp} {x : Addr} {ns : List (Nat × Int)} {cs : List (Int × Int)} (h : St K C H x ns cs) :
    ∃ (dx : Addr) (fs : List (Str × V)), H x = some (.ins C dx fs) ∧ fs.lookup (Str.ofString "text") = some (.str (stTxt ns cs)) := by
  obtain ⟨v, u, dx, pd, ad, ld, ks, S⟩ := h
  exact ⟨dx, _, S.ob, rfl⟩
theorem dec_same (ns : List (Nat × Int)) (cs : List (Int × Int)) : decide (ns = ns ∧ cs = cs) = true := by simp
end K1
set_option autoImplicit false
namespace K5
/-! Walkers: stops, meetings, the least turn; Euclid's steps. -/
def stopI (t r s : Int) : Int := if s < t then s else t + (s - t) % r
def Meets (t r s f l n : Int) : Prop := 1 ≤ n ∧ stopI t r (s * n) = stopI t r (l + f * n)
def IsLeast (t r s f l : Int) (o : Option Int) : Prop := (o = none → ∀ n, ¬ Meets t r s f l n) ∧ ∀ n, o = some n → Meets t r s f l n ∧ ∀ k, k < n → ¬ Meets t r s f l k
theorem IsLeast.uniq {t r s f l : Int} {o o' : Option Int} (h : IsLeast t r s f l o) (h' : IsLeast t r s f l o') : o = o' := by
  cases o with
  | none =>
    cases o' with
    | none => rfl
    | some n => exact absurd (h'.2 n rfl).1 (h.1 rfl n)
  | some n =>
    cases o' with
    | none => exact absurd (h.2 n rfl).1 (h'.1 rfl n)
    | some n' =>
      have a := h.2 n rfl
      have b := h'.2 n' rfl
      have h1 : ¬ n < n' := fun z => b.2 n z a.1
      have h2 : ¬ n' < n := fun z => a.2 n' z b.1
      rw [show n = n' by omega]
theorem least_now {t r s f l : Int} (h1 : l = 0) (h2 : f = s) : IsLeast t r s f l (some 1) := by
  subst h1 h2
  refine ⟨fun z => (by cases z), fun n z => ?_⟩
  cases z
  exact ⟨⟨by omega, by rw [Int.zero_add]⟩, fun k hk m => by have := m.1; omega⟩
theorem meets_iff {t r s f l n : Int} (hr : 1 ≤ r) (ht : 0 ≤ t) (hs : 0 ≤ s) (hf : s ≤ f) (hl : 0 ≤ l) (hne : ¬ (l = 0 ∧ f = s)) : Meets t r s f l n ↔ 1 ≤ n ∧ t ≤ s * n ∧ r ∣ l + (f - s) * n := by
  unfold Meets
  refine and_congr_right fun hn => ?_
  have hd : 0 < l + (f - s) * n := by
    by_cases h : l = 0
    · have : 1 ≤ f - s := by
        have : f ≠ s := fun z => hne ⟨h, z⟩
        omega
      have := Int.mul_le_mul this hn (by omega) (by omega)
      omega
    · have := Int.mul_nonneg (show 0 ≤ f - s by omega) (show 0 ≤ n by omega)
      omega
  have e : l + f * n = s * n + (l + (f - s) * n) := by rw [Int.sub_mul]; omega
  rw [e]
  generalize l + (f - s) * n = d at hd ⊢
  generalize s * n = x
  unfold stopI
  constructor
  · intro h
    by_cases c : x < t
    · rw [if_pos c] at h
      split at h
      · omega
      · have := Int.emod_nonneg (x + d - t) (show r ≠ 0 by omega)
        omega
    · rw [if_neg c, if_neg (by omega)] at h
      refine ⟨by omega, ?_⟩
      have h' : (x + d - t) % r = (x - t) % r := by omega
      have z := Int.emod_eq_emod_iff_emod_sub_eq_zero.mp h'
      rw [show x + d - t - (x - t) = d by omega] at z
      exact Int.dvd_of_emod_eq_zero z
  · rintro ⟨h1, h2⟩
    rw [if_neg (by omega), if_neg (by omega)]
    have h' : (x + d - t) % r = (x - t) % r := by
      rw [Int.emod_eq_emod_iff_emod_sub_eq_zero, show x + d - t - (x - t) = d by omega]
      exact Int.emod_eq_zero_of_dvd h2
    omega
/-- no turn -/
theorem least_none {t r s f l g : Int} (hr : 1 ≤ r) (ht : 0 ≤ t) (hs : 0 ≤ s) (hf : s ≤ f) (hl : 0 ≤ l) (hne : ¬ (l = 0 ∧ f = s)) (ga : g ∣ f - s) (gr : g ∣ r) (h : ¬ g ∣ l ∨ (s = 0 ∧ 0 < t)) : IsLeast t r s f l none := by
  refine ⟨fun _ n m => ?_, fun n z => by cases z⟩
  rw [meets_iff hr ht hs hf hl hne] at m
  obtain ⟨h1, h2, h3⟩ := m
  rcases h with h | ⟨rfl, h⟩
  · refine h ?_
    have := Int.dvd_trans gr h3
    have h4 : g ∣ (f - s) * n := Int.dvd_mul_of_dvd_left ga
    have := Int.dvd_sub this h4
    rwa [show l + (f - s) * n - (f - s) * n = l by omega] at this
  · omega
/-- the least one: m, a', l' the parts by g; F the first turn behind the tail; T a solution of the congruence -/
theorem least_some {t r s f l g m a' l' v F T : Int} (hr : 1 ≤ r) (ht : 0 ≤ t) (hs : 0 ≤ s) (hf : s ≤ f) (hl : 0 ≤ l) (hne : ¬ (l = 0 ∧ f = s)) (g0 : 0 < g) (em : r = g * m) (ea : f - s = g * a') (el : l = g * l')
    (hv : m ∣ a' * v - 1) (hF : ∀ n, (1 ≤ n ∧ t ≤ s * n) ↔ F ≤ n) (hT : m ∣ T + l' * v) : IsLeast t r s f l (some (F + (T - F) % m)) := by
  have m0 : 0 < m := by
    rcases Int.lt_or_le 0 m with h | h
    · exact h
    · have := Int.mul_nonneg (show 0 ≤ g by omega) (show 0 ≤ -m by omega)
      rw [Int.mul_neg] at this
      omega
  have key : ∀ n, Meets t r s f l n ↔ F ≤ n ∧ m ∣ n - T := fun n => by
    rw [meets_iff hr ht hs hf hl hne, ← and_assoc, hF n]
    refine and_congr_right fun _ => ?_
    rw [ea, el, em, Int.mul_assoc, ← Int.mul_add]
    rw [Int.mul_dvd_mul_iff_left (show g ≠ 0 by omega)]
    constructor
    · intro h
      have h1 : m ∣ v * (l' + a' * n) := Int.dvd_mul_of_dvd_right h
      have h2 : m ∣ (a' * v - 1) * n := Int.dvd_mul_of_dvd_left hv
      have h3 := Int.dvd_sub (Int.dvd_sub h1 h2) hT
      have e : v * (l' + a' * n) - (a' * v - 1) * n - (T + l' * v) = n - T := by
        rw [Int.mul_add, Int.sub_mul, Int.one_mul, Int.mul_comm v l', ← Int.mul_assoc, Int.mul_comm v a']
        omega
      rwa [e] at h3
    · intro h
      have h1 : m ∣ a' * (n - T) := Int.dvd_mul_of_dvd_right h
      have h2 : m ∣ a' * (T + l' * v) := Int.dvd_mul_of_dvd_right hT
      have h3 : m ∣ (a' * v - 1) * l' := Int.dvd_mul_of_dvd_left hv
      have h4 := Int.dvd_sub (Int.dvd_add h1 h2) h3
      have e : a' * (n - T) + a' * (T + l' * v) - (a' * v - 1) * l' = l' + a' * n := by
        rw [Int.mul_sub, Int.mul_add, Int.sub_mul, Int.one_mul, Int.mul_assoc a' v l', Int.mul_comm v l']
        omega
      rwa [e] at h4
  have r0 := Int.emod_nonneg (T - F) (show m ≠ 0 by omega)
  have r1 := Int.emod_lt_of_pos (T - F) m0
  have dv : m ∣ (T - F) - (T - F) % m := ⟨(T - F) / m, by have := Int.emod_def (T - F) m; omega⟩
  refine ⟨fun z => (by cases z), fun n z => ?_⟩
  cases z
  constructor
  · rw [key]
    refine ⟨by omega, ?_⟩
    have := Int.dvd_neg.mpr dv
    rwa [show -(T - F - (T - F) % m) = F + (T - F) % m - T by omega] at this
  · intro k hk h
    rw [key] at h
    have h2 := Int.dvd_add h.2 dv
    rw [show k - T + (T - F - (T - F) % m) = k - F - (T - F) % m by omega] at h2
    have := Int.le_of_dvd (a := m) (b := (T - F) % m - (k - F)) (by omega) (by
      have := Int.dvd_neg.mpr h2
      rwa [show -(k - F - (T - F) % m) = (T - F) % m - (k - F) by omega] at this)
    omega
/-! ### Euclid -/
structure Eu (N M x y p q : Int) : Prop where
  x0 : 0 ≤ x
  y0 : 0 ≤ y
  px : M ∣ p * N - x
  qy : M ∣ q * N - y
  gc : Int.gcd x y = Int.gcd N M
  sg : (0 ≤ p ∧ q ≤ 0 ∧ x * (-q) + y * p = M) ∨ (p ≤ 0 ∧ 0 ≤ q ∧ x * q + y * (-p) = M)
  pM : -M ≤ p ∧ p ≤ M
  qM : -M ≤ q ∧ q ≤ M
theorem Eu.step {N M x y p q : Int} (h : Eu N M x y p q) (hy : 0 < y) : Eu N M y (x - x / y * y) q (p - x / y * q) ∧ x - x / y * y < y := by
  have e : x - x / y * y = x % y := by rw [Int.emod_def, Int.mul_comm]
  have t0 : 0 ≤ x / y := Int.ediv_nonneg h.x0 (by omega)
  have l := Int.emod_lt_of_pos x hy
  have n := Int.emod_nonneg x (show y ≠ 0 by omega)
  have sg : (0 ≤ q ∧ p - x / y * q ≤ 0 ∧ y * (-(p - x / y * q)) + (x - x / y * y) * q = M) ∨ (q ≤ 0 ∧ 0 ≤ p - x / y * q ∧ y * (p - x / y * q) + (x - x / y * y) * (-q) = M) := by
    generalize x / y = t at *
    rcases h.sg with ⟨a, b, c⟩ | ⟨a, b, c⟩
    · right
      have := Int.mul_nonneg t0 (show 0 ≤ -q by omega)
      rw [Int.mul_neg] at this
      refine ⟨b, by omega, ?_⟩
      rw [← c, Int.mul_sub, Int.sub_mul, Int.mul_neg, Int.mul_neg, Int.mul_assoc, ← Int.mul_assoc y t q, Int.mul_comm y t, Int.mul_assoc t y q]
      omega
    · left
      have := Int.mul_nonneg t0 b
      refine ⟨b, by omega, ?_⟩
      rw [← c, Int.sub_mul, Int.neg_sub, Int.mul_sub, Int.mul_neg, Int.mul_assoc, ← Int.mul_assoc y t q, Int.mul_comm y t, Int.mul_assoc t y q]
      omega
  refine ⟨⟨by omega, by omega, h.qy, ?_, ?_, sg, h.qM, ?_⟩, by omega⟩
  · have h1 := Int.dvd_sub h.px (show M ∣ x / y * (q * N - y) from Int.dvd_mul_of_dvd_right h.qy)
    generalize x / y = t at *
    rwa [show p * N - x - t * (q * N - y) = (p - t * q) * N - (x - t * y) by rw [Int.mul_sub, Int.sub_mul, Int.mul_assoc]; omega] at h1
  · rw [Int.gcd_sub_mul_right_right, Int.gcd_comm]
    exact h.gc
  · generalize p - x / y * q = w at *
    rw [e] at sg
    generalize x % y = z at *
    rcases sg with ⟨a, b, c⟩ | ⟨a, b, c⟩
    · have h1 := Int.mul_nonneg n a
      have h2 := Int.mul_le_mul (show 1 ≤ y by omega) (Int.le_refl (-w)) (by omega) (by omega)
      omega
    · have h1 := Int.mul_nonneg n (show 0 ≤ -q by omega)
      have h2 := Int.mul_le_mul (show 1 ≤ y by omega) (Int.le_refl w) (by omega) (by omega)
      omega
/-- at the end -/
theorem Eu.done {N M x p q : Int} (h : Eu N M x 0 p q) : (Int.gcd N M : Int) = x ∧ M ∣ p * N - x := by
  refine ⟨?_, h.px⟩
  rw [← h.gc, Int.gcd_zero]
  exact Int.natAbs_of_nonneg h.x0
theorem Eu.ring {N M : Int} (h0 : 0 ≤ N) (hM : 1 ≤ M) : Eu N M M (N % M) 0 1 := by
  refine ⟨by omega, Int.emod_nonneg _ (by omega), ?_, ?_, ?_, .inr ⟨by omega, by omega, by omega⟩, ⟨by omega, by omega⟩, ⟨by omega, by omega⟩⟩
  · exact ⟨-1, by omega⟩
  · exact ⟨N / M, by have := Int.emod_def N M; omega⟩
  · have e : N % M = N - N / M * M := by rw [Int.emod_def, Int.mul_comm]
    rw [e, Int.gcd_sub_mul_right_right, Int.gcd_comm]
theorem Eu.both {N M : Int} (h0 : 0 ≤ N) (hM : 1 ≤ M) : Eu N M N M 1 0 := by
  refine ⟨h0, by omega, ⟨0, by omega⟩, ⟨-1, by omega⟩, rfl, .inl ⟨by omega, by omega, by omega⟩, ⟨by omega, by omega⟩, ⟨by omega, by omega⟩⟩
/-- the parts by the greatest common divisor -/
theorem parts_gcd {a r : Int} (hr : 1 ≤ r) : ∃ g a' m : Int, g = (Int.gcd a r : Int) ∧ 0 < g ∧ a = g * a' ∧ r = g * m ∧ a / g = a' ∧ r / g = m ∧ Int.gcd a' m = 1 ∧ 1 ≤ m := by
  have gp : 0 < Int.gcd a r := Int.gcd_pos_of_ne_zero_right a (by omega)
  obtain ⟨a', ha⟩ := Int.gcd_dvd_left a r
  obtain ⟨m, hm⟩ := Int.gcd_dvd_right a r
  generalize hg : Int.gcd a r = g at *
  have g0 : (0 : Int) < (g : Int) := by omega
  have m1 : 1 ≤ m := by
    rcases Int.lt_or_le 0 m with h | h
    · omega
    · have := Int.mul_nonneg (show 0 ≤ (g : Int) by omega) (show 0 ≤ -m by omega)
      rw [Int.mul_neg] at this
      omega
  refine ⟨g, a', m, rfl, g0, ha, hm, ?_, ?_, ?_, m1⟩
  · rw [ha, Int.mul_ediv_cancel_left _ (by omega)]
  · rw [hm, Int.mul_ediv_cancel_left _ (by omega)]
  · have e : Int.gcd ((g : Int) * a') ((g : Int) * m) = g := by rw [← ha, ← hm]; exact hg
    rw [Int.gcd_mul_left, Int.natAbs_natCast] at e
    exact Nat.eq_of_mul_eq_mul_left gp (by omega)
theorem first_own {t s : Int} (hs : 0 ≤ s) (h : ¬ (s = 0 ∧ 0 < t)) (ht : 0 ≤ t) (n : Int) : (1 ≤ n ∧ t ≤ s * n) ↔ (if t > 0 then -(-t / s) else 1) ≤ n := by
  by_cases c : t > 0
  · rw [if_pos c]
    have s0 : 0 < s := by
      rcases Int.lt_or_le 0 s with z | z
      · exact z
      · exact absurd ⟨by omega, c⟩ h
    have e : -n ≤ -t / s ↔ -n * s ≤ -t := Int.le_ediv_iff_mul_le s0
    rw [show (-(-t / s) ≤ n) ↔ (-n ≤ -t / s) from ⟨fun _ => by omega, fun _ => by omega⟩, e, Int.neg_mul, Int.mul_comm n s]
    constructor
    · rintro ⟨_, h2⟩
      omega
    · intro h2
      refine ⟨?_, by omega⟩
      rcases Int.lt_or_le 0 n with z | z
      · omega
      · have := Int.mul_nonneg hs (show 0 ≤ -n by omega)
        rw [Int.mul_neg] at this
        omega
  · rw [if_neg c]
    refine ⟨fun z => z.1, fun z => ⟨z, ?_⟩⟩
    have := Int.mul_nonneg hs (show 0 ≤ n by omega)
    omega
theorem first_law {t s : Int} (hs : 0 ≤ s) (h : ¬ (s = 0 ∧ 0 < t)) (ht : 0 ≤ t) (n : Int) : (1 ≤ n ∧ t ≤ s * n) ↔ (if s = 0 then 1 else if (t + s - 1) / s > 1 then (t + s - 1) / s else 1) ≤ n := by
  by_cases c : s = 0
  · rw [if_pos c]
    subst c
    have : t = 0 := by
      rcases Int.lt_or_le 0 t with z | z
      · exact absurd ⟨rfl, z⟩ h
      · omega
    subst this
    exact ⟨fun z => z.1, fun z => ⟨z, by omega⟩⟩
  · rw [if_neg c]
    have s0 : 0 < s := by omega
    have e : (t + s - 1) / s < n + 1 ↔ t + s - 1 < (n + 1) * s := Int.ediv_lt_iff_lt_mul s0
    rw [Int.add_mul, Int.one_mul, Int.mul_comm n s] at e
    constructor
    · rintro ⟨h1, h2⟩
      have := e.mpr (by omega)
      split <;> omega
    · intro h2
      refine ⟨by split at h2 <;> omega, ?_⟩
      have := e.mp (by split at h2 <;> omega)
      omega
/-- the program's road -/
theorem own_road {t r s f l v : Int} (hr : 1 ≤ r) (ht : 0 ≤ t) (hs : 0 ≤ s) (hf : s ≤ f) (hl : 0 ≤ l) (hne : ¬ (l = 0 ∧ f = s)) {g : Int} (hg : g = (Int.gcd (f - s) r : Int)) (h1 : l % g = 0) (h2 : ¬ (s = 0 ∧ 0 < t)) (hv : r / g ∣ v * ((f - s) / g) - 1)
    {F : Int} (hF : F = if t > 0 then -(-t / s) else 1) : IsLeast t r s f l (some (F + ((-(l / g) * v) % (r / g) - F) % (r / g))) := by
  obtain ⟨g', a', m, e1, g0, ea, em, e2, e3, _, m1⟩ := parts_gcd (a := f - s) hr
  rw [← hg] at e1
  subst e1
  rw [e3] at hv ⊢
  rw [e2] at hv
  have el : l = g' * (l / g') := by
    have := Int.mul_ediv_add_emod l g'
    omega
  subst hF
  refine least_some hr ht hs hf hl hne g0 em ea el (v := v) (by rw [Int.mul_comm]; exact hv) (first_own hs h2 ht) ?_
  have : m ∣ -(l / g') * v - (-(l / g') * v) % m := ⟨(-(l / g') * v) / m, by have := Int.emod_def (-(l / g') * v) m; omega⟩
  have := Int.dvd_neg.mpr this
  rw [Int.neg_mul] at *
  rwa [show -(-(l / g' * v) - -(l / g' * v) % m) = -(l / g' * v) % m + l / g' * v by omega] at this
/-- the law's road -/
theorem law_road {t r s f l v : Int} (hr : 1 ≤ r) (ht : 0 ≤ t) (hs : 0 ≤ s) (hf : s ≤ f) (hl : 0 ≤ l) (hne : ¬ (l = 0 ∧ f = s)) {g : Int} (hg : g = (Int.gcd (f - s) r : Int)) (h1 : l % g = 0) (h2 : ¬ (s = 0 ∧ 0 < t)) (hv : r ∣ v * (f - s) - g)
    {F : Int} (hF : F = if s = 0 then 1 else if (t + s - 1) / s > 1 then (t + s - 1) / s else 1) : IsLeast t r s f l (some (F + ((0 - l / g * v) % (r / g) - F) % (r / g))) := by
  obtain ⟨g', a', m, e1, g0, ea, em, e2, e3, _, m1⟩ := parts_gcd (a := f - s) hr
  rw [← hg] at e1
  subst e1
  rw [e3]
  have el : l = g' * (l / g') := by
    have := Int.mul_ediv_add_emod l g'
    omega
  subst hF
  have hv' : m ∣ a' * v - 1 := by
    rw [ea, em, show v * (g' * a') - g' = g' * (a' * v - 1) by rw [Int.mul_sub, Int.mul_one, Int.mul_left_comm, Int.mul_comm v a']] at hv
    exact (Int.mul_dvd_mul_iff_left (show g' ≠ 0 by omega)).mp hv
  refine least_some hr ht hs hf hl hne g0 em ea el hv' (first_law hs h2 ht) ?_
  have : m ∣ (0 - l / g' * v) - (0 - l / g' * v) % m := ⟨(0 - l / g' * v) / m, by have := Int.emod_def (0 - l / g' * v) m; omega⟩
  have := Int.dvd_neg.mpr this
  rwa [show -(0 - l / g' * v - (0 - l / g' * v) % m) = (0 - l / g' * v) % m + l / g' * v by omega] at this
/-- a least turn comes early -/
theorem least_early {t r s f l n : Int} (hr : 1 ≤ r) (ht : 0 ≤ t) (hs : 0 ≤ s) (hf : s ≤ f) (hl : 0 ≤ l) (h : IsLeast t r s f l (some n)) : n < t + 2 * r + 3 := by
  by_cases hne : l = 0 ∧ f = s
  · have := h.uniq (least_now hne.1 hne.2)
    cases this
    omega
  · obtain ⟨m, k⟩ := h.2 n rfl
    rcases Int.lt_or_le n (t + 2 * r + 3) with c | c
    · exact c
    · refine absurd ?_ (k (n - r) (by omega))
      rw [meets_iff hr ht hs hf hl hne] at m ⊢
      obtain ⟨m1, m2, m3⟩ := m
      refine ⟨by omega, ?_, ?_⟩
      · rcases Int.lt_or_le 0 s with z | z
        · have := Int.mul_le_mul (show 1 ≤ s by omega) (show t ≤ n - r by omega) ht hs
          omega
        · obtain rfl : s = 0 := by omega
          omega
      · rw [Int.mul_sub]
        have := Int.dvd_sub m3 (Int.dvd_mul_left (f - s) r)
        rwa [show l + (f - s) * n - (f - s) * r = l + ((f - s) * n - (f - s) * r) by omega] at this
theorem eu_ex {N M : Int} : ∀ (k : Nat) {x y p q : Int}, y.toNat = k → Eu N M x y p q → ∃ x' p' q', Eu N M x' 0 p' q' := by
  intro k
  induction k using Nat.strongRecOn with
  | _ k ih =>
    intro x y p q e h
    by_cases c : 0 < y
    · obtain ⟨h1, h2⟩ := h.step c
      exact ih (x - x / y * y).toNat (by omega) rfl h1
    · have := h.y0
      obtain rfl : y = 0 := by omega
      exact ⟨_, _, _, h⟩
theorem inv_ex {N M : Int} (h0 : 0 ≤ N) (hM : 1 ≤ M) (h : Int.gcd N M = 1) : ∃ v, M ∣ v * N - 1 := by
  obtain ⟨x, p, q, E⟩ := eu_ex _ rfl (Eu.ring h0 hM)
  obtain ⟨h1, h2⟩ := E.done
  rw [h] at h1
  exact ⟨p, by rw [← h1] at h2; exact h2⟩
/-- whether there is no turn -/
def noneN (s f l t r : Nat) : Bool := !(decide (l = 0 ∧ f = s)) && (decide (l % Nat.gcd (f - s) r ≠ 0) || decide (s = 0 ∧ 0 < t))
theorem noturn_iff {s f l t r : Nat} (hr : 1 ≤ r) (hf : s ≤ f) {o : Option Int} (h : IsLeast t r s f l o) : o = none ↔ noneN s f l t r = true := by
  have eg : ((Int.gcd ((f : Int) - s) r : Nat) : Int) = ((Nat.gcd (f - s) r : Nat) : Int) := by
    rw [← Int.natCast_sub hf, Int.gcd_natCast_natCast]
  have dv : ((Nat.gcd (f - s) r : Nat) : Int) ∣ (l : Int) ↔ l % Nat.gcd (f - s) r = 0 := by
    rw [Int.natCast_dvd_natCast, Nat.dvd_iff_mod_eq_zero]
  unfold noneN
  by_cases hne : (l = 0 ∧ f = s)
  · have := h.uniq (least_now (t := t) (r := r) (s := s) (f := f) (l := l) (by omega) (by omega))
    subst this
    simp [hne]
  · have hne' : ¬ ((l : Int) = 0 ∧ (f : Int) = s) := fun z => hne ⟨by omega, by omega⟩
    by_cases c : l % Nat.gcd (f - s) r ≠ 0 ∨ (s = 0 ∧ 0 < t)
    · have := h.uniq (least_none (g := ((Int.gcd ((f : Int) - s) r : Nat) : Int)) (by omega) (by omega) (by omega) (by omega) (by omega) hne' (Int.gcd_dvd_left _ _) (Int.gcd_dvd_right _ _) (by
        rcases c with c | c
        · exact .inl (by rw [eg, dv]; exact c)
        · exact .inr (by omega)))
      subst this
      simp [hne, c]
    · have c1 : l % Nat.gcd (f - s) r = 0 := Classical.not_not.mp fun z => c (.inl z)
      have c2 : ¬ ((s : Int) = 0 ∧ (0 : Int) < t) := fun z => c (.inr ⟨by omega, by omega⟩)
      obtain ⟨g, a', m, e1, g0, ea, em, e2, e3, e4, m1⟩ := parts_gcd (a := (f : Int) - s) (r := r) (by omega)
      have a0 : 0 ≤ a' := by
        rcases Int.lt_or_le a' 0 with z | z
        · have := Int.mul_pos g0 (show 0 < -a' by omega)
          rw [Int.mul_neg] at this
          omega
        · exact z
      obtain ⟨v, hv⟩ := inv_ex a0 m1 e4
      have hl : (l : Int) % g = 0 := by
        rw [e1, eg]
        exact Int.emod_eq_zero_of_dvd (dv.mpr c1)
      have := h.uniq (own_road (by omega) (by omega) (by omega) (by omega) (by omega) hne' e1 hl c2 (v := v) (by rw [e2, e3]; exact hv) rfl)
      subst this
      simp [hne, c]
def always (s f l : Nat) : Bool := decide (l = 0 ∧ f = s) || decide (0 < s ∧ s < f ∧ l % (f - s) = 0)
def ownTracks : List (Nat × Nat) := ((List.range 9).drop 1).flatMap fun k => (List.range (min k 2)).map fun t => (t, k - t)
def lawTracks : List (Nat × Nat) := ((List.range 9).drop 1).flatMap fun k => (List.range k).map fun t => (t, k - t)
def ownMiss (s f l : Nat) : Option (Nat × Nat) := ownTracks.find? fun p => noneN s f l p.1 p.2
def lawMiss (s f l : Nat) : Option (Nat × Nat) := lawTracks.find? fun p => noneN s f l p.1 p.2
def missOk : Bool := (List.range 5).all fun s => (List.range 10).all fun a => (List.range 9).all fun l => !(decide (a ≤ 4) || (decide (l = 3) && decide (s + a ≤ 9))) || decide (ownMiss s (s + a) l = lawMiss s (s + a) l) && (decide (lawMiss s (s + a) l = none) == always s (s + a) l)
theorem miss_ok : missOk = true := by decide +kernel
theorem miss {s f l : Nat} (h1 : s ≤ 4) (h2 : s ≤ f) (h3 : (f ≤ s + 4 ∧ l ≤ 8) ∨ (l = 3 ∧ f ≤ 9)) : ownMiss s f l = lawMiss s f l ∧ (lawMiss s f l = none ↔ always s f l = true) := by
  have h := miss_ok
  unfold missOk at h
  rw [List.all_eq_true] at h
  have h := h s (List.mem_range.mpr (by omega))
  rw [List.all_eq_true] at h
  have h := h (f - s) (List.mem_range.mpr (by omega))
  rw [List.all_eq_true] at h
  have h := h l (List.mem_range.mpr (by omega))
  have g : (decide (f - s ≤ 4) || (decide (l = 3) && decide (f ≤ 9))) = true := by
    rcases h3 with z | z
    · rw [decide_eq_true (show f - s ≤ 4 by omega)]; rfl
    · rw [decide_eq_true z.1, decide_eq_true z.2]; simp
  rw [show s + (f - s) = f by omega, g, Bool.not_true, Bool.false_or, Bool.and_eq_true, decide_eq_true_iff] at h
  refine ⟨h.1, ?_⟩
  have := eq_of_beq h.2
  rw [← this, decide_eq_true_iff]
theorem own_order : (List.range 15).all (fun i => (List.range i).all fun j => match ownTracks[i]?, ownTracks[j]? with
  | some p, some q => decide (q.1 < 2 ∧ 1 ≤ q.2 ∧ (q.1 + q.2 < p.1 + p.2 ∨ (q.1 + q.2 = p.1 + p.2 ∧ q.1 < p.1)))
  | _, _ => false) = true := by decide +kernel
theorem own_has : (List.range 9).all (fun n => (List.range (min n 2)).all fun t => (List.range 15).any fun i => decide (ownTracks[i]? = some (t, n - t))) = true := by decide +kernel
theorem own_len : ownTracks.length = 15 := by decide +kernel
theorem own_all : ownTracks.all (fun p => decide (p.1 < 2 ∧ 1 ≤ p.2 ∧ p.1 + p.2 ≤ 8)) = true := by decide +kernel
theorem own_first {s f l n t : Nat} (n8 : n ≤ 8) (ht : t < min n 2) (h : noneN s f l t (n - t) = true) (prev : ∀ t' r', t' < 2 → 1 ≤ r' → (t' + r' < n ∨ (t' + r' = n ∧ t' < t)) → noneN s f l t' r' = false) : ownMiss s f l = some (t, n - t) := by
  have a := own_has
  rw [List.all_eq_true] at a
  have a := a n (List.mem_range.mpr (by omega))
  rw [List.all_eq_true] at a
  have a := a t (List.mem_range.mpr ht)
  rw [List.any_eq_true] at a
  obtain ⟨i, hi, e⟩ := a
  have e := of_decide_eq_true e
  have b := own_order
  rw [List.all_eq_true] at b
  have b := b i hi
  rw [List.all_eq_true] at b
  unfold ownMiss
  rw [List.find?_eq_some_iff_getElem]
  obtain ⟨hl, hx⟩ := List.getElem?_eq_some_iff.mp e
  refine ⟨h, i, hl, hx, fun j hj => ?_⟩
  have c := b j (List.mem_range.mpr hj)
  rw [e, List.getElem?_eq_getElem (Nat.lt_trans hj hl)] at c
  have c := of_decide_eq_true c
  rw [prev _ _ c.1 c.2.1 (by have := c.2.2; omega)]
  rfl
theorem own_late {s f l t r : Nat} (h : ownMiss s f l = some (t, r)) : t < 2 ∧ 1 ≤ r ∧ t + r ≤ 8 ∧ noneN s f l t r = true := by
  have a := own_all
  rw [List.all_eq_true] at a
  have a := of_decide_eq_true (a (t, r) (List.mem_of_find?_eq_some h))
  have b := List.find?_some (p := fun p : Nat × Nat => noneN s f l p.1 p.2) h
  exact ⟨a.1, a.2.1, a.2.2, b⟩
theorem least_ex {t r s f l : Int} : ∀ (k : Nat) (v : Int), v.toNat = k → Meets t r s f l v → ∃ n, IsLeast t r s f l (some n) := by
  intro k
  induction k using Nat.strongRecOn with
  | _ k ih =>
    intro v hv m
    by_cases h : ∃ u, u < v ∧ Meets t r s f l u
    · obtain ⟨u, h1, h2⟩ := h
      have := m.1
      have := h2.1
      exact ih u.toNat (by omega) u rfl h2
    · refine ⟨v, fun z => (by cases z), fun n z => ?_⟩
      cases z
      exact ⟨m, fun u hu mu => h ⟨u, hu, mu⟩⟩
/-- some option is the least -/
theorem least_all (t r s f l : Int) : ∃ o, IsLeast t r s f l o := by
  by_cases h : ∃ v, Meets t r s f l v
  · obtain ⟨v, m⟩ := h
    obtain ⟨n, hn⟩ := least_ex _ v rfl m
    exact ⟨_, hn⟩
  · exact ⟨none, fun _ v m => h ⟨v, m⟩, fun n z => by cases z⟩
theorem stop_zero {t r : Int} (ht : 0 ≤ t) (hr : 1 ≤ r) : stopI t r 0 = 0 := by
  unfold stopI
  by_cases c : 0 < t
  · rw [if_pos c]
  · rw [if_neg c]
    obtain rfl : t = 0 := by omega
    simp
theorem stop_succ {t r k : Int} (ht : 0 ≤ t) (hr : 1 ≤ r) (hk : 0 ≤ k) : stopI t r (k + 1) = if stopI t r k + 1 < t + r then stopI t r k + 1 else t := by
  unfold stopI
  by_cases c : k < t
  · rw [if_pos c]
    by_cases d : k + 1 < t
    · rw [if_pos d, if_pos (show k + 1 < t + r by omega)]
    · rw [if_neg d, if_pos (show k + 1 < t + r by omega)]
      obtain rfl : t = k + 1 := by omega
      rw [Int.sub_self, Int.zero_emod]
      omega
  · rw [if_neg c, if_neg (by omega)]
    have e0 := Int.emod_nonneg (k - t) (show r ≠ 0 by omega)
    have e1 := Int.emod_lt_of_pos (k - t) (show 0 < r by omega)
    have e2 := Int.mul_ediv_add_emod (k - t) r
    have e : k + 1 - t = ((k - t) % r + 1) + r * ((k - t) / r) := by omega
    rw [e, Int.add_mul_emod_self_left]
    by_cases d : (k - t) % r + 1 < r
    · rw [if_pos (by omega), Int.emod_eq_of_lt (by omega) d]
      omega
    · rw [if_neg (by omega), show (k - t) % r + 1 = r by omega, Int.emod_self]
      omega
def pre : Nat → List (Nat × Nat)
  | 0 => []
  | i + 1 => pre i ++ (List.range (i + 1)).map fun t => (t, i + 1 - t)
theorem pre_all : lawTracks = pre 8 := by decide +kernel
def findN (s f l : Nat) (xs : List (Nat × Nat)) : Option (Nat × Nat) := xs.find? fun p => noneN s f l p.1 p.2
theorem findN_snoc {s f l : Nat} {xs : List (Nat × Nat)} {p : Nat × Nat} : findN s f l (xs ++ [p]) = match findN s f l xs with
    | some q => some q
    | none => if noneN s f l p.1 p.2 = true then some p else none := by
  unfold findN
  rw [List.find?_append]
  cases List.find? (fun p => noneN s f l p.1 p.2) xs with
  | some q => rfl
  | none =>
    show ([p].find? fun p => noneN s f l p.1 p.2) = _
    rw [List.find?_cons]
    cases noneN s f l p.1 p.2 <;> simp
theorem pre_row {i m : Nat} : pre i ++ (List.range (m + 1)).map (fun t => (t, i + 1 - t)) = (pre i ++ (List.range m).map (fun t => (t, i + 1 - t))) ++ [(m, i + 1 - m)] := by
  rw [List.range_succ, List.map_append, List.append_assoc]
  rfl
end K5
/-! Walkers: what the defs promise. -/
namespace K1
open PySem PySem.Spec L2 Z K5
def optV : Option Int → V
  | none => .non
  | some n => .int n
def NoNum (K : PySem.W.Frag) (H : Hp) (v : V) : Prop := (∃ z, v = .bl z) ∨ v = .non ∨ (∃ z, v = .str z) ∨ ∃ a xs, v = .ref a ∧ SqT K H a xs
theorem NoNum.same {K : PySem.W.Frag} {H H' : Hp} {v : V} (e : Same H H') (h : NoNum K H v) : NoNum K H' v := by
  rcases h with h | h | h | ⟨a, xs, h1, h2⟩
  · exact .inl h
  · exact .inr (.inl h)
  · exact .inr (.inr (.inl h))
  · exact .inr (.inr (.inr ⟨a, xs, h1, SqT.imm (.of e) h2⟩))
def In (v : V) (lo hi : Int) : Prop := ∃ i, v = .int i ∧ lo ≤ i ∧ i ≤ hi
def Out (K : PySem.W.Frag) (H : Hp) (v : V) (lo hi : Int) : Prop := NoNum K H v ∨ ∃ i, v = .int i ∧ ¬ (lo ≤ i ∧ i ≤ hi)
section
variable (K : PySem.W.Frag) (C : Addr)
def NeedT (v w : V) (H : Hp) (ok : Prop) (E : XK) : Prop := (Out K H v 0 1000000000000000000000000000000 ∧ Bad C "given" v H E) ∨ (In v 0 1000000000000000000000000000000 ∧ ((Out K H w 1 1000000000000000000000000000000 ∧ Bad C "given" w H E) ∨ (In w 1 1000000000000000000000000000000 ∧ ok)))
def NeedW (hi : Int) (a b c : V) (H : Hp) (ok : Prop) (E : XK) : Prop := (Out K H a 0 hi ∧ Bad C "given" a H E) ∨ ∃ i, a = .int i ∧ 0 ≤ i ∧ i ≤ hi ∧ ((Out K H b i hi ∧ Bad C "given" b H E) ∨ (In b i hi ∧ ((Out K H c 0 hi ∧ Bad C "given" c H E) ∨ (In c 0 hi ∧ ok))))
def q_is_number : Sp := fun vs H Q _ => ∃ v, vs = [v] ∧ ((∃ i, v = .int i ∧ Q (.bl true) H) ∨ (NoNum K H v ∧ Q (.bl false) H))
def q_is_whole : Sp := fun vs H Q _ => ∃ v lo hi, vs = [v, .int lo, .int hi] ∧ ((In v lo hi ∧ Q (.bl true) H) ∨ (Out K H v lo hi ∧ Q (.bl false) H))
def q_need_number : Sp := fun vs H Q E => ∃ v lo hi, vs = [v, .int lo, .int hi] ∧ ((In v lo hi ∧ Q .non H) ∨ (Out K H v lo hi ∧ Bad C "given" v H E))
def q_need_track : Sp := fun vs H Q E => ∃ v w, vs = [v, w] ∧ NeedT K C v w H (Q .non H) E
def q_need_walkers : Sp := fun vs H Q E => ∃ a b c hi, vs = [a, b, c, .int hi] ∧ NeedW K C hi a b c H (Q .non H) E
def q_stop_at : Sp := fun vs H Q E => ∃ a b c, vs = [a, b, c] ∧ NeedT K C a b H ((Out K H c 0 1000000000000000000000000000000 ∧ Bad C "given" c H E) ∨ ∃ t r s, a = .int t ∧ b = .int r ∧ c = .int s ∧ 0 ≤ s ∧ s ≤ 1000000000000000000000000000000 ∧ Q (.int (stopI t r s)) H) E
def q_stop : Sp := fun vs H Q _ => ∃ t r s : Int, vs = [.int t, .int r, .int s] ∧ 1 ≤ r ∧ Q (.int (stopI t r s)) H
def q_meet : Sp := fun vs H Q E => ∃ a b c d e, vs = [a, b, c, d, e] ∧ NeedT K C a b H (NeedW K C 1000000000000000000000000000000 c d e H (∃ t r s f l, a = .int t ∧ b = .int r ∧ c = .int s ∧ d = .int f ∧ e = .int l ∧ ∀ o H', Same H H' → IsLeast t r s f l o → Q (optV o) H') E) E
def q_least_turn : Sp := fun vs H Q _ => ∃ t r s f l : Int, vs = [.int t, .int r, .int s, .int f, .int l] ∧ 0 ≤ t ∧ t ≤ 1000000000000000000000000000000 ∧ 1 ≤ r ∧ r ≤ 1000000000000000000000000000000 ∧ 0 ≤ s ∧ s ≤ f ∧ f ≤ 1000000000000000000000000000000 ∧ 0 ≤ l ∧ l ≤ 1000000000000000000000000000000 ∧ ∀ o H', Same H H' → IsLeast t r s f l o → Q (optV o) H'
def q_inverse : Sp := fun vs H Q _ => ∃ N M : Int, vs = [.int N, .int M] ∧ 0 ≤ N ∧ N ≤ 1000000000000000000000000000000 ∧ 1 ≤ M ∧ M ≤ 1000000000000000000000000000000 ∧ ∀ p H', Same H H' → (Int.gcd N M = 1 → M ∣ p * N - 1) → -M ≤ p → p ≤ M → Q (.int p) H'
def q_meets_always : Sp := fun vs H Q E => ∃ a b c, vs = [a, b, c] ∧ NeedW K C 1000000000000000000000000000000 a b c H (∃ s f l : Nat, a = .int (s : Int) ∧ b = .int (f : Int) ∧ c = .int (l : Int) ∧ Q (.bl (always s f l)) H) E
def q_meets_always0 : Sp := fun vs H Q _ => ∃ s f l : Nat, vs = [.int (s : Int), .int (f : Int), .int (l : Int)] ∧ s ≤ f ∧ Q (.bl (always s f l)) H
def q_missed_track : Sp := fun vs H Q E => ∃ a b c, vs = [a, b, c] ∧ NeedW K C 1000 a b c H (∃ s f l : Nat, a = .int (s : Int) ∧ b = .int (f : Int) ∧ c = .int (l : Int) ∧ s ≤ 4 ∧ s ≤ f ∧ ((f ≤ s + 4 ∧ l ≤ 8) ∨ (l = 3 ∧ f ≤ 9)) ∧
  (ownMiss s f l = none → ∀ H', Same H H' → Q .non H') ∧ ∀ t r : Nat, ownMiss s f l = some (t, r) → ∀ H' p, Same H H' → SqT K H' p [.int (t : Int), .int (r : Int)] → Q (.ref p) H') E
def q_law_well : Sp := fun vs H Q _ => ∃ (a : Addr) (ns : List Int) (t : Int), vs = [.ref a, .int t] ∧ SqL K H a (ns.map V.int) ∧ 0 ≤ t ∧ t ≤ 1000 ∧ ns.length ≤ 63 ∧ ∀ (H' : Hp) (j : Addr), Same H H' → H j = none → JugAt H' j → Q (.ref j) H'
def q_law_take : Sp := fun vs H Q _ => ∃ (j : Addr) (m : Int), vs = [.ref j, .int m] ∧ JugAt H j ∧ 1 ≤ m ∧ m ≤ 1000000 ∧ ∀ (H' : Hp) (k : Int), Chg j H H' → JugAt H' j → 0 ≤ k → k < m → Q (.int k) H'
def q_law_pick : Sp := fun vs H Q _ => ∃ (j : Addr) (l : Addr) (xs : List V), vs = [.ref j, .ref l] ∧ JugAt H j ∧ SqT K H l xs ∧ xs ≠ [] ∧ xs.length ≤ 1000 ∧ ∀ (H' : Hp) (x : V), Chg j H H' → JugAt H' j → x ∈ xs → Q x H'
def q_first_meeting : Sp := fun vs H Q _ => ∃ t r s f l : Int, vs = [.int t, .int r, .int s, .int f, .int l] ∧ 0 ≤ t ∧ t ≤ 20 ∧ 1 ≤ r ∧ r ≤ 20 ∧ 0 ≤ s ∧ s ≤ f ∧ f ≤ 20 ∧ 0 ≤ l ∧ l ≤ 20 ∧ ∀ o, IsLeast t r s f l o → Q (optV o) H
def q_great_number : Sp := fun vs H Q _ => ∃ j, vs = [.ref j] ∧ JugAt H j ∧ ∀ (H' : Hp) (k : Int), Chg j H H' → JugAt H' j → 0 ≤ k → k ≤ 1000000000000000000000000000000 → Q (.int k) H'
def q_shared : Sp := fun vs H Q _ => ∃ N M : Int, vs = [.int N, .int M] ∧ 0 ≤ N ∧ N ≤ 1000000000000000000000000000000 ∧ 1 ≤ M ∧ M ≤ 1000000000000000000000000000000 ∧ ∀ (H' : Hp) (l : Addr) (p : Int), Same H H' → H l = none → H' l = some (.lst [.int ((Int.gcd N M : Nat) : Int), .int p]) → M ∣ p * N - ((Int.gcd N M : Nat) : Int) → -M ≤ p → p ≤ M → Q (.ref l) H'
def q_far_meeting : Sp := fun vs H Q _ => ∃ t r s f l : Int, vs = [.int t, .int r, .int s, .int f, .int l] ∧ 0 ≤ t ∧ t ≤ 1000000000000000000000000000000 ∧ 1 ≤ r ∧ r ≤ 1000000000000000000000000000000 ∧ 0 ≤ s ∧ s ≤ f ∧ f ≤ 1000000000000000000000000000000 ∧ 0 ≤ l ∧ l ≤ 1000000000000000000000000000000 ∧ ∀ o H', Same H H' → IsLeast t r s f l o → Q (optV o) H'
/-- what is told of a caught error -/
def EE (Q : VK) : XK := fun cls d H' => cls = .ref C ∧ ∃ (dd : Addr) (v : V), d = some dd ∧ H' dd = some (.xd [("given", v)]) ∧ ∀ H'' p, Same H' H'' → H' p = none → H'' p = some (.lst [v, .bl true]) → Q (.ref p) H''
def q_law_error : Sp := fun vs H Q _ => ∃ (b : Int) (l : Addr) (v0 v1 v2 v3 v4 : V), vs = [.int b, .ref l] ∧ SqL K H l [v0, v1, v2, v3, v4] ∧
  ((b = 0 ∧ q_stop_at K C [v0, v1, v2] H (fun _ H' => Q .non H') (EE C Q)) ∨ (b = 1 ∧ q_meet K C [v0, v1, v2, v3, v4] H (fun _ H' => Q .non H') (EE C Q)) ∨ (b = 2 ∧ q_meets_always K C [v2, v3, v4] H (fun _ H' => Q .non H') (EE C Q)) ∨ (b = 3 ∧ q_missed_track K C [v2, v3, v4] H (fun _ H' => Q .non H') (EE C Q)))
def q_turn : Sp := fun vs H Q _ => ∃ j, vs = [.ref j] ∧ JugAt H j ∧ ∀ (H' : Hp), Chg j H H' → JugAt H' j → Q (.bl true) H'
def q_law_right : Sp := fun vs H Q _ => ∃ (j : Addr), vs = [.ref j] ∧ JugAt H j ∧ ∀ (H' : Hp), Chg j H H' → Q (.bl true) H'
end
theorem fmod_pos {a b : Int} (h : 0 < b) : a.fmod b = a % b := Int.fmod_eq_emod_of_nonneg _ (by omega)
theorem ifT {c : Bool} {A B : Prop} (hc : c = true) (h : A) : if c = true then A else B := by
  rw [if_pos hc]
  exact h
theorem ifF {c : Bool} {A B : Prop} (hc : c = false) (h : B) : if c = true then A else B := by
  rw [hc, if_neg Bool.false_ne_true]
  exact h
theorem NeedT.go {K : PySem.W.Frag} {C : Addr} {v w : V} {H : Hp} {ok ok' : Prop} {E : XK} (h : NeedT K C v w H ok E) (k : ∀ t r : Int, v = .int t → w = .int r → 0 ≤ t → t ≤ 1000000000000000000000000000000 → 1 ≤ r → r ≤ 1000000000000000000000000000000 → ok → ok') : NeedT K C v w H ok' E := by
  rcases h with h | ⟨⟨t, rfl, t0, t1⟩, h | ⟨⟨r, rfl, r0, r1⟩, h⟩⟩
  · exact .inl h
  · exact .inr ⟨⟨t, rfl, t0, t1⟩, .inl h⟩
  · exact .inr ⟨⟨t, rfl, t0, t1⟩, .inr ⟨⟨r, rfl, r0, r1⟩, k t r rfl rfl t0 t1 r0 r1 h⟩⟩
theorem NeedW.go {K : PySem.W.Frag} {C : Addr} {hi : Int} {a b c : V} {H : Hp} {ok ok' : Prop} {E : XK} (h : NeedW K C hi a b c H ok E) (k : ∀ s f l : Int, a = .int s → b = .int f → c = .int l → 0 ≤ s → s ≤ f → f ≤ hi → 0 ≤ l → l ≤ hi → ok → ok') : NeedW K C hi a b c H ok' E := by
  rcases h with h | ⟨i, rfl, i0, i1, h | ⟨⟨f, rfl, f0, f1⟩, h | ⟨⟨l, rfl, l0, l1⟩, h⟩⟩⟩
  · exact .inl h
  · exact .inr ⟨i, rfl, i0, i1, .inl h⟩
  · exact .inr ⟨i, rfl, i0, i1, .inr ⟨⟨f, rfl, f0, f1⟩, .inl h⟩⟩
  · exact .inr ⟨i, rfl, i0, i1, .inr ⟨⟨f, rfl, f0, f1⟩, .inr ⟨⟨l, rfl, l0, l1⟩, k i f l rfl rfl rfl i0 f0 f1 l0 l1 h⟩⟩⟩
theorem eqII (a b : Int) : decide (V.int a = V.int b) = decide (a = b) := by
  by_cases h : a = b
  · subst h; simp
  · rw [decide_eq_false h]
    exact decide_eq_false fun z => h (by injection z)
theorem bits100 {i : Int} (h : -1000000000000000000000000000000 ≤ i) (h2 : i ≤ 1000000000000000000000000000000) : i.natAbs < 2 ^ 110 := Nat.lt_of_le_of_lt (show i.natAbs ≤ 1000000000000000000000000000000 by omega) (by decide +kernel)
theorem set_int {a b : Int} {T : V → Prop} (e : a = b) (h : T (V.int b)) : T (V.int a) := by rw [e]; exact h
theorem ix_listK {X : Cx} {K : PySem.W.Frag} (h : X.K = K) : IxR X (rIxL K) := h ▸ ix_list
section
variable {K : PySem.W.Frag} {C : Addr} {vs : List V} {H : Hp} {Q : VK} {E E' : XK}
theorem NeedT.impE {v w : V} {ok ok' : Prop} (k : ∀ cls d H', E cls d H' → E' cls d H') (ko : ok → ok') (h : NeedT K C v w H ok E) : NeedT K C v w H ok' E' := by
  rcases h with ⟨a, b⟩ | ⟨a, ⟨b, c⟩ | ⟨b, c⟩⟩
  · exact .inl ⟨a, b.imp k⟩
  · exact .inr ⟨a, .inl ⟨b, c.imp k⟩⟩
  · exact .inr ⟨a, .inr ⟨b, ko c⟩⟩
theorem NeedW.impE {hi : Int} {x y z : V} {ok ok' : Prop} (k : ∀ cls d H', E cls d H' → E' cls d H') (ko : ok → ok') (h : NeedW K C hi x y z H ok E) : NeedW K C hi x y z H ok' E' := by
  rcases h with ⟨a, b⟩ | ⟨i, e, i0, i1, ⟨a, b⟩ | ⟨a, ⟨b, c⟩ | ⟨b, c⟩⟩⟩
  · exact .inl ⟨a, b.imp k⟩
  · exact .inr ⟨i, e, i0, i1, .inl ⟨a, b.imp k⟩⟩
  · exact .inr ⟨i, e, i0, i1, .inr ⟨a, .inl ⟨b, c.imp k⟩⟩⟩
  · exact .inr ⟨i, e, i0, i1, .inr ⟨a, .inr ⟨b, ko c⟩⟩⟩
theorem stop_impE (k : ∀ cls d H', E cls d H' → E' cls d H') (h : q_stop_at K C vs H Q E) : q_stop_at K C vs H Q E' := by
  obtain ⟨a, b, c, e, h⟩ := h
  refine ⟨a, b, c, e, NeedT.impE k (fun h => ?_) h⟩
  rcases h with ⟨h1, h2⟩ | h
  · exact .inl ⟨h1, h2.imp k⟩
  · exact .inr h
theorem meet_impE (k : ∀ cls d H', E cls d H' → E' cls d H') (h : q_meet K C vs H Q E) : q_meet K C vs H Q E' := by
  obtain ⟨a, b, c, d, e, ev, h⟩ := h
  exact ⟨a, b, c, d, e, ev, NeedT.impE k (fun h => NeedW.impE k (fun z => z) h) h⟩
theorem always_impE (k : ∀ cls d H', E cls d H' → E' cls d H') (h : q_meets_always K C vs H Q E) : q_meets_always K C vs H Q E' := by
  obtain ⟨a, b, c, e, h⟩ := h
  exact ⟨a, b, c, e, NeedW.impE k (fun z => z) h⟩
theorem missed_impE (k : ∀ cls d H', E cls d H' → E' cls d H') (h : q_missed_track K C vs H Q E) : q_missed_track K C vs H Q E' := by
  obtain ⟨a, b, c, e, h⟩ := h
  exact ⟨a, b, c, e, NeedW.impE k (fun z => z) h⟩
end
end K1
/-! Walkers: what is shown; the law's bent arguments. -/
namespace K1
open PySem PySem.Spec L2 Z K5
theorem fit_big {i : Int} (h : i.natAbs < 2 ^ 1900) : Fit (.int i) 2000 0 := by
  have hl : i.natAbs.log2 < 1920 := by
    by_cases z : i.natAbs = 0
    · rw [z]; decide
    · exact Nat.lt_trans ((Nat.log2_lt z).mpr h) (by decide)
  refine ⟨?_, by show decide _ = true; exact decide_eq_true hl, rfl, Nat.le_refl _⟩
  show (Str.ofString (toString i)).length ≤ 2000
  exact Nat.le_trans (PyProof.Rows.int_text_len_1921 hl) (by decide)
theorem small1900 {i : Int} (h : -1000000000000000000000000000000 ≤ i) (h2 : i ≤ 1000000000000000000000000000000) : i.natAbs < 2 ^ 1900 := Nat.lt_of_lt_of_le (bits100 h h2) (Nat.pow_le_pow_right (by decide) (by decide))
def optD : Option Int → PyData
  | none => .none
  | some n => .int n
theorem dp_opt {K : PySem.W.Frag} {H : Hp} (o : Option Int) : Dp K H (optV o) (optD o) := by
  cases o with
  | none => exact .non
  | some n => exact .int n
/-- a list is shown -/
theorem shows {K : PySem.W.Frag} {H : Hp} {a : Addr} {xs : List V} {ds : List PyData} {Q : VK} (h : SqL K H a xs) (hd : DpAll K H xs ds) (hf : ∀ d ∈ ds, Fit d 20000 9) (hz : ds.length ≤ 100) (k : Q (.str (PyData.list ds).shown) H) : rShow K [.ref a] H Q := by
  obtain ⟨h1, h2, h3, h4, h5⟩ := repr_ok h hd hf (by omega) (by decide)
  exact ⟨_, _, rfl, .of h1 h3, h2, h4, h5, k⟩
theorem shows_opt {K : PySem.W.Frag} {H : Hp} {o : Option Int} {Q : VK} (ho : ∀ n, o = some n → n.natAbs < 2 ^ 1900) (k : Q (.str (optD o).shown) H) : rShow K [optV o] H Q := by
  cases o with
  | none => exact ⟨_, _, rfl, .of .non rfl, rfl, by decide, by decide +kernel, k⟩
  | some n =>
    have F := fit_big (ho n rfl)
    exact ⟨_, _, rfl, .of (.int n) rfl, F.ok, Nat.le_trans F.dep (by decide), Nat.le_trans F.len (sl_le (by decide)), k⟩
/-- a value of the law's menu -/
def OddV (K : PySem.W.Frag) (H : Hp) (v : V) (d : PyData) : Prop := (∃ i : Int, v = .int i ∧ d = .int i ∧ (i < 0 ∨ 1000000000000000000000000000000 < i) ∧ i.natAbs < 2 ^ 1900) ∨ (v = .bl true ∧ d = .bool true) ∨ (v = .non ∧ d = .none) ∨ (v = .str (Str.ofString "3") ∧ d = .str (Str.ofString "3")) ∨ ∃ a, v = .ref a ∧ d = .tuple [] ∧ SqT K H a []
theorem OddV.imm {K : PySem.W.Frag} {H H' : Hp} {v : V} {d : PyData} (e : Imm H H') (h : OddV K H v d) : OddV K H' v d := by
  rcases h with h | h | h | h | ⟨a, h1, h2, h3⟩
  · exact .inl h
  · exact .inr (.inl h)
  · exact .inr (.inr (.inl h))
  · exact .inr (.inr (.inr (.inl h)))
  · exact .inr (.inr (.inr (.inr ⟨a, h1, h2, SqT.imm e h3⟩)))
theorem OddV.dp {K : PySem.W.Frag} {H : Hp} {v : V} {d : PyData} (h : OddV K H v d) : Dp K H v d ∧ Fit d 20000 9 := by
  rcases h with ⟨i, rfl, rfl, _, h⟩ | ⟨rfl, rfl⟩ | ⟨rfl, rfl⟩ | ⟨rfl, rfl⟩ | ⟨a, rfl, rfl, h⟩
  · exact ⟨.int i, fit_le (fit_big h) (by decide) (by decide)⟩
  · exact ⟨.bl _, fit_le (fit_bl _) (by decide) (by decide)⟩
  · exact ⟨.non, fit_le fit_non (by decide) (by decide)⟩
  · exact ⟨.str _, ⟨by decide +kernel, rfl, rfl, by decide⟩⟩
  · exact ⟨.tup h .nil, ⟨by decide +kernel, rfl, rfl, by decide⟩⟩
theorem OddV.out {K : PySem.W.Frag} {H : Hp} {v : V} {d : PyData} {lo hi : Int} (h : OddV K H v d) (h0 : 0 ≤ lo) (h1 : hi ≤ 1000000000000000000000000000000) : Out K H v lo hi := by
  rcases h with ⟨i, rfl, rfl, h, _⟩ | ⟨rfl, rfl⟩ | ⟨rfl, rfl⟩ | ⟨rfl, rfl⟩ | ⟨a, rfl, rfl, h⟩
  · exact .inr ⟨i, rfl, by omega⟩
  · exact .inl (.inl ⟨_, rfl⟩)
  · exact .inl (.inr (.inl rfl))
  · exact .inl (.inr (.inr (.inl ⟨_, rfl⟩)))
  · exact .inl (.inr (.inr (.inr ⟨a, _, rfl, h⟩)))
section
variable {K : PySem.W.Frag} {C : Addr} {H : Hp} {Q : VK}
/-- what is asked of the law's look at an error, at a list of five -/
def Asked (K : PySem.W.Frag) (C : Addr) (b : Int) (L : List V) (H : Hp) (Q : VK) : Prop := ∃ v0 v1 v2 v3 v4 : V, L = [v0, v1, v2, v3, v4] ∧
  ((b = 0 ∧ q_stop_at K C [v0, v1, v2] H (fun _ H' => Q .non H') (EE C Q)) ∨ (b = 1 ∧ q_meet K C [v0, v1, v2, v3, v4] H (fun _ H' => Q .non H') (EE C Q)) ∨ (b = 2 ∧ q_meets_always K C [v2, v3, v4] H (fun _ H' => Q .non H') (EE C Q)) ∨ (b = 3 ∧ q_missed_track K C [v2, v3, v4] H (fun _ H' => Q .non H') (EE C Q)))
theorem asked {b : Int} {l : Addr} {L : List V} {E : XK} (hl : SqL K H l L) (h : Asked K C b L H Q) : q_law_error K C [.int b, .ref l] H Q E := by
  obtain ⟨v0, v1, v2, v3, v4, rfl, h⟩ := h
  exact ⟨b, l, v0, v1, v2, v3, v4, rfl, hl, h⟩
theorem bad_of {v : V} (hQ : ∀ H' p, Same H H' → H' p = some (.lst [v, .bl true]) → Q (.ref p) H') : Bad C "given" v H (EE C Q) := fun d H' s n e => ⟨rfl, d, v, rfl, e, fun H'' p s2 _ hk => hQ H'' p (fun b o q => s2 b o (s b o q)) hk⟩
theorem ask_bent {b i : Nat} {v : V} {d : PyData} {t r s f : Int} {L : List V} (hb : (b = 0 ∧ i < 3) ∨ (b = 1 ∧ i < 5) ∨ ((b = 2 ∨ b = 3) ∧ 2 ≤ i ∧ i < 5)) (ov : OddV K H v d) (t0 : 0 ≤ t ∧ t < 5) (r0 : 1 ≤ r ∧ r ≤ 5) (s0 : 0 ≤ s ∧ s < 5) (f0 : 5 ≤ f ∧ f < 10)
    (hL : L = [V.int t, .int r, .int s, .int f, .int 3].set i v ∨ (i < 4 ∧ ∃ u, L = ([V.int t, .int r, .int s, .int f, .int 3].set i v).set 4 u)) (hQ : ∀ H' p, Same H H' → H' p = some (.lst [v, .bl true]) → Q (.ref p) H') : Asked K C (b : Int) L H Q := by
  have B : Bad C "given" v H (EE C Q) := bad_of hQ
  have o : ∀ lo hi : Int, 0 ≤ lo → hi ≤ 1000000000000000000000000000000 → Out K H v lo hi := fun lo hi => ov.out
  have it : In (.int t) 0 1000000000000000000000000000000 := ⟨t, rfl, by omega, by omega⟩
  have ir : In (.int r) 1 1000000000000000000000000000000 := ⟨r, rfl, by omega, by omega⟩
  have wk : ∀ hi : Int, 1000 ≤ hi → hi ≤ 1000000000000000000000000000000 → ∀ {u w : V} {ok : Prop}, (i = 2 → NeedW K C hi v u w H ok (EE C Q)) ∧ (i = 3 → NeedW K C hi (.int s) v w H ok (EE C Q)) ∧ (i = 4 → NeedW K C hi (.int s) (.int f) v H ok (EE C Q)) := fun hi h1 h2 {u w ok} =>
    ⟨fun _ => .inl ⟨o _ _ (by omega) h2, B⟩, fun _ => .inr ⟨s, rfl, by omega, by omega, .inl ⟨o _ _ (by omega) h2, B⟩⟩, fun _ => .inr ⟨s, rfl, by omega, by omega, .inr ⟨⟨f, rfl, by omega, by omega⟩, .inl ⟨o _ _ (by omega) h2, B⟩⟩⟩⟩
  have i5 : i = 0 ∨ i = 1 ∨ i = 2 ∨ i = 3 ∨ i = 4 := by omega
  rcases i5 with rfl | rfl | rfl | rfl | rfl
  · rcases hL with rfl | ⟨_, u, rfl⟩
    · refine ⟨_, _, _, _, _, rfl, ?_⟩
      rcases hb with ⟨rfl, _⟩ | ⟨rfl, _⟩ | ⟨_, h, _⟩
      · exact .inl ⟨rfl, _, _, _, rfl, .inl ⟨o _ _ (by omega) (by omega), B⟩⟩
      · exact .inr (.inl ⟨rfl, _, _, _, _, _, rfl, .inl ⟨o _ _ (by omega) (by omega), B⟩⟩)
      · omega
    · refine ⟨_, _, _, _, _, rfl, ?_⟩
      rcases hb with ⟨rfl, _⟩ | ⟨rfl, _⟩ | ⟨_, h, _⟩
      · exact .inl ⟨rfl, _, _, _, rfl, .inl ⟨o _ _ (by omega) (by omega), B⟩⟩
      · exact .inr (.inl ⟨rfl, _, _, _, _, _, rfl, .inl ⟨o _ _ (by omega) (by omega), B⟩⟩)
      · omega
  · rcases hL with rfl | ⟨_, u, rfl⟩
    · refine ⟨_, _, _, _, _, rfl, ?_⟩
      rcases hb with ⟨rfl, _⟩ | ⟨rfl, _⟩ | ⟨_, h, _⟩
      · exact .inl ⟨rfl, _, _, _, rfl, .inr ⟨it, .inl ⟨o _ _ (by omega) (by omega), B⟩⟩⟩
      · exact .inr (.inl ⟨rfl, _, _, _, _, _, rfl, .inr ⟨it, .inl ⟨o _ _ (by omega) (by omega), B⟩⟩⟩)
      · omega
    · refine ⟨_, _, _, _, _, rfl, ?_⟩
      rcases hb with ⟨rfl, _⟩ | ⟨rfl, _⟩ | ⟨_, h, _⟩
      · exact .inl ⟨rfl, _, _, _, rfl, .inr ⟨it, .inl ⟨o _ _ (by omega) (by omega), B⟩⟩⟩
      · exact .inr (.inl ⟨rfl, _, _, _, _, _, rfl, .inr ⟨it, .inl ⟨o _ _ (by omega) (by omega), B⟩⟩⟩)
      · omega
  all_goals
    rcases hL with rfl | ⟨hi4, u, rfl⟩
    all_goals
      first
        | omega
        | (refine ⟨_, _, _, _, _, rfl, ?_⟩
           rcases hb with ⟨rfl, hh⟩ | ⟨rfl, _⟩ | ⟨rfl | rfl, h, _⟩
           · first
               | omega
               | exact .inl ⟨rfl, _, _, _, rfl, .inr ⟨it, .inr ⟨ir, .inl ⟨o _ _ (by omega) (by omega), B⟩⟩⟩⟩
           · refine .inr (.inl ⟨rfl, _, _, _, _, _, rfl, .inr ⟨it, .inr ⟨ir, ?_⟩⟩⟩)
             first
               | exact (wk _ (by omega) (by omega)).1 rfl
               | exact (wk _ (by omega) (by omega) (u := .non)).2.1 rfl
               | exact (wk _ (by omega) (by omega) (u := .non) (w := .non)).2.2 rfl
           · refine .inr (.inr (.inl ⟨rfl, _, _, _, rfl, ?_⟩))
             first
               | exact (wk _ (by omega) (by omega)).1 rfl
               | exact (wk _ (by omega) (by omega) (u := .non)).2.1 rfl
               | exact (wk _ (by omega) (by omega) (u := .non) (w := .non)).2.2 rfl
           · refine .inr (.inr (.inr ⟨rfl, _, _, _, rfl, ?_⟩))
             first
               | exact (wk _ (by omega) (by omega)).1 rfl
               | exact (wk _ (by omega) (by omega) (u := .non)).2.1 rfl
               | exact (wk _ (by omega) (by omega) (u := .non) (w := .non)).2.2 rfl)
theorem need_ok {v w : V} {t r : Int} {ok : Prop} {E : XK} (hv : v = .int t) (hw : w = .int r) (h1 : 0 ≤ t) (h2 : t ≤ 1000000000000000000000000000000) (h3 : 1 ≤ r) (h4 : r ≤ 1000000000000000000000000000000) (k : ok) : NeedT K C v w H ok E := .inr ⟨⟨t, hv, h1, h2⟩, .inr ⟨⟨r, hw, h3, h4⟩, k⟩⟩
theorem walk_ok {hi s f l : Int} {ok : Prop} {E : XK} (h1 : 0 ≤ s) (h2 : s ≤ f) (h3 : f ≤ hi) (h4 : 0 ≤ l) (h5 : l ≤ hi) (k : ok) : NeedW K C hi (.int s) (.int f) (.int l) H ok E := .inr ⟨s, rfl, h1, by omega, .inr ⟨⟨f, rfl, h2, h3⟩, .inr ⟨⟨l, rfl, h4, h5⟩, k⟩⟩⟩
theorem ask_good {b t r s f : Nat} (hb : b < 4) (t0 : t < 5) (r0 : 1 ≤ r ∧ r ≤ 5) (s0 : s < 5) (f0 : 5 ≤ f ∧ f < 10) (hQ : ∀ H', Same H H' → Q .non H') : Asked K C (b : Int) [V.int (t : Int), .int (r : Int), .int (s : Int), .int (f : Int), .int 3] H Q := by
  have k0 := hQ H (fun _ _ h => h)
  refine ⟨_, _, _, _, _, rfl, ?_⟩
  have b4 : b = 0 ∨ b = 1 ∨ b = 2 ∨ b = 3 := by omega
  rcases b4 with rfl | rfl | rfl | rfl
  · exact .inl ⟨rfl, _, _, _, rfl, need_ok rfl rfl (by omega) (by omega) (by omega) (by omega) (.inr ⟨_, _, _, rfl, rfl, rfl, by omega, by omega, k0⟩)⟩
  · exact .inr (.inl ⟨rfl, _, _, _, _, _, rfl, need_ok rfl rfl (by omega) (by omega) (by omega) (by omega) (walk_ok (by omega) (by omega) (by omega) (by omega) (by omega) ⟨_, _, _, _, _, rfl, rfl, rfl, rfl, rfl, fun o H' s _ => hQ H' s⟩)⟩)
  · exact .inr (.inr (.inl ⟨rfl, _, _, _, rfl, walk_ok (by omega) (by omega) (by omega) (by omega) (by omega) ⟨s, f, 3, rfl, rfl, rfl, k0⟩⟩))
  · exact .inr (.inr (.inr ⟨rfl, _, _, _, rfl, walk_ok (by omega) (by omega) (by omega) (by omega) (by omega) ⟨s, f, 3, rfl, rfl, rfl, by omega, by omega, .inr ⟨rfl, by omega⟩, fun _ => hQ, fun _ _ _ H' p s _ => hQ H' s⟩⟩))
end
theorem small4 {i : Int} (h : 0 ≤ i) (h2 : i ≤ 4000000000000000000000000000000) : i.natAbs < 2 ^ 1900 :=
  Nat.lt_of_lt_of_le (Nat.lt_of_le_of_lt (show i.natAbs ≤ 4000000000000000000000000000000 by omega) (by decide +kernel : 4000000000000000000000000000000 < 2 ^ 110)) (Nat.pow_le_pow_right (by decide) (by decide))
theorem eqBB (a b : Bool) : decide (V.bl a = V.bl b) = decide (a = b) := by cases a <;> cases b <;> rfl
/-- what the law holds for due: None or a track -/
def DueAt (K : PySem.W.Frag) (H : Hp) (v : V) (o : Option (Nat × Nat)) : Prop := (o = none ∧ v = .non) ∨ ∃ (t r : Nat) (p : Addr), o = some (t, r) ∧ v = .ref p ∧ SqT K H p [.int (t : Int), .int (r : Int)]
theorem DueAt.same {K : PySem.W.Frag} {H H' : Hp} {v : V} {o : Option (Nat × Nat)} (e : Same H H') (h : DueAt K H v o) : DueAt K H' v o := by
  rcases h with h | ⟨t, r, p, h1, h2, h3⟩
  · exact .inl h
  · exact .inr ⟨t, r, p, h1, h2, SqT.imm (.of e) h3⟩
def dueD : Option (Nat × Nat) → PyData
  | none => .none
  | some p => .tuple [.int (p.1 : Int), .int (p.2 : Int)]
theorem DueAt.dp {K : PySem.W.Frag} {H : Hp} {v : V} {o : Option (Nat × Nat)} (h : DueAt K H v o) : Dp K H v (dueD o) := by
  rcases h with ⟨rfl, rfl⟩ | ⟨t, r, p, rfl, rfl, h⟩
  · exact .non
  · exact .tup h (.cons (.int _) (.cons (.int _) .nil))
theorem fit_due {o : Option (Nat × Nat)} (h : ∀ p, o = some p → p.1 ≤ 20 ∧ p.2 ≤ 20) : Fit (dueD o) 20000 9 := by
  cases o with
  | none => exact fit_le fit_non (by decide) (by decide)
  | some p =>
    have := h p rfl
    refine fit_le (fit_tup (k := 2000) (m := 0) fun d hd => ?_) (by show (2000 + 2) * 2 + 3 ≤ 20000; decide) (by decide)
    simp only [List.mem_cons, List.not_mem_nil, or_false] at hd
    rcases hd with rfl | rfl <;> exact fit_big (small1900 (by omega) (by omega))
section
variable {K : PySem.W.Frag} {C : Addr} {H : Hp} {Q : VK} {s f l : Nat}
theorem ask_missed (h1 : s ≤ 4) (h2 : s ≤ f) (h3 : f ≤ s + 4 ∧ l ≤ 8) (k : ∀ H' v, Same H H' → DueAt K H' v (ownMiss s f l) → Q v H') : q_missed_track K C [.int (s : Int), .int (f : Int), .int (l : Int)] H Q E0 :=
  ⟨_, _, _, rfl, walk_ok (by omega) (by omega) (by omega) (by omega) (by omega) ⟨s, f, l, rfl, rfl, rfl, h1, h2, .inl h3, fun e H' sm => k H' _ sm (.inl ⟨e, rfl⟩), fun t r e H' p sm hp => k H' _ sm (.inr ⟨t, r, p, e, rfl, hp⟩)⟩⟩
theorem ask_always (h2 : s ≤ f) (h3 : f ≤ 1000) (h4 : l ≤ 1000) (k : Q (.bl (always s f l)) H) : q_meets_always K C [.int (s : Int), .int (f : Int), .int (l : Int)] H Q E0 :=
  ⟨_, _, _, rfl, walk_ok (by omega) (by omega) (by omega) (by omega) (by omega) ⟨s, f, l, rfl, rfl, rfl, k⟩⟩
end
end K1
/-! Walkers: the law's constant lists. -/
namespace K1
open PySem PySem.Spec L2 Z K5
theorem seq_join {t u : TS} {D : Ends} {σ : L2.St} {H : Hp} (P : Hp → Prop) (h1 : ∀ R : L2.St → Hp → Prop, (∀ H', P H' → R σ H') → t { D with nx := R } σ H) (h2 : ∀ H', P H' → u D σ H') : tSeq t u D σ H := h1 (u D) h2
theorem ixN5 {n i : Nat} (h : i < n) : ixN n (i : Int) = some i := by
  unfold ixN
  rw [if_pos (by omega), if_pos (by omega), Int.toNat_natCast]
theorem lcI {K : PySem.W.Frag} {gs : List Int} {i : Nat} {te0 : TE} {tt : TT} {σ : L2.St} {H : Hp} {Q : VK} (c : Int → Bool) (hte : ∀ R : VK, (∀ l H1, Same H H1 → H1 l = some (.lst (gs.map V.int)) → R (.ref l) H1) → te0 σ H R) (hz : gs.length ≤ 1000)
    (hi : i < σ.length) (ht : ∀ z H' (R : Bool → Hp → Prop), Same H H' → R (c z) H' → tt ((σ.set i none).set i (some (.int z))) H' R)
    (hd : ∀ H' D, Same H H' → H D = none → H' D = some (.lst ((gs.filter c).map V.int)) → Q (.ref D) H') : tLc (iList K te0) (gName i) tt (tVar i) [i] σ H Q := by
  refine hte _ fun l H1 s1 hl => ⟨l, rfl, ⟨_, .inl (.inl hl)⟩, fun D hD => ?_⟩
  have hD0 := none_of s1 hD
  refine lc_it (n := gs.length) (fun k H' => Same H1 H' ∧ H' D = some (.lst (((gs.take k).filter c).map V.int))) ⟨same_new hD, upd_same⟩
    (fun k H' hk h => ⟨gs.map V.int, (gs.map V.int)[k]'(by simpa using hk), .inl (.inl (h.1 _ _ hl)), List.getElem?_eq_getElem _⟩) (fun H' h => ⟨gs.map V.int, .inl (.inl (h.1 _ _ hl)), by simp⟩) (fun k x H' H2 hk h y => ?_) (fun H' h => ?_)
  · obtain ⟨sm, hDl⟩ := h
    obtain ⟨rfl, y⟩ := y
    obtain ⟨z, ez, rfl⟩ := map_at (y _ (.inl (.inl (sm _ _ hl))))
    refine ⟨?_, ht z H2 _ (s1.trans sm) ?_⟩
    · show ((σ.set i none).set i (some (V.int z))).set i none = σ.set i none
      rw [List.set_set, List.set_set]
    · cases hc : c z with
      | true =>
        refine iteT ⟨.int z, ?_, _, hDl, ?_, fun b o e => ?_, ?_⟩
        · rw [List.getElem?_set_self (by show i < (σ.set i none).length; rw [List.length_set]; exact hi)]
        · rw [List.length_map]
          refine small1000 ?_
          have := List.length_filter_le c (gs.take k)
          rw [List.length_take] at this
          omega
        · rw [upd_ne (ne_of_none e hD)]
          exact sm _ _ e
        · rw [upd_same, List.take_add_one, ez, List.filter_append, List.map_append]
          simp [hc]
      | false =>
        refine iteF ⟨sm, ?_⟩
        rw [hDl, List.take_add_one, ez, List.filter_append]
        simp [hc]
  · have := h.2
    rw [List.take_length] at this
    exact hd H' D (s1.trans h.1) hD0 this
section
variable {K : PySem.W.Frag} {C : Addr} {H : Hp} {Q : VK}
theorem ask_zero {b : Int} (hb : 0 ≤ b ∧ b < 2) (hQ : ∀ H' p, Same H H' → H' p = some (.lst [.int 0, .bl true]) → Q (.ref p) H') : Asked K C b [V.int 2, .int 0, .int 3, .int 3, .int 0] H Q := by
  have B : Bad C "given" (.int 0) H (EE C Q) := bad_of hQ
  have n : ∀ {ok : Prop}, NeedT K C (.int 2) (.int 0) H ok (EE C Q) := .inr ⟨⟨2, rfl, by omega, by omega⟩, .inl ⟨.inr ⟨0, rfl, by omega⟩, B⟩⟩
  refine ⟨_, _, _, _, _, rfl, ?_⟩
  have b2 : b = 0 ∨ b = 1 := by omega
  rcases b2 with rfl | rfl
  · exact .inl ⟨rfl, _, _, _, rfl, n⟩
  · exact .inr (.inl ⟨rfl, _, _, _, _, _, rfl, n⟩)
theorem ask_slow {b : Int} (hb : 1 ≤ b ∧ b < 4) (hQ : ∀ H' p, Same H H' → H' p = some (.lst [.int 5, .bl true]) → Q (.ref p) H') : Asked K C b [V.int 2, .int 1, .int 6, .int 5, .int (-1)] H Q := by
  have B : Bad C "given" (.int 5) H (EE C Q) := bad_of hQ
  have n : ∀ {hi : Int} {ok : Prop}, 1000 ≤ hi → NeedW K C hi (.int 6) (.int 5) (.int (-1)) H ok (EE C Q) := fun h => .inr ⟨6, rfl, by omega, by omega, .inl ⟨.inr ⟨5, rfl, by omega⟩, B⟩⟩
  refine ⟨_, _, _, _, _, rfl, ?_⟩
  have b2 : b = 1 ∨ b = 2 ∨ b = 3 := by omega
  rcases b2 with rfl | rfl | rfl
  · exact .inr (.inl ⟨rfl, _, _, _, _, _, rfl, need_ok rfl rfl (by omega) (by omega) (by omega) (by omega) (n (by omega))⟩)
  · exact .inr (.inr (.inl ⟨rfl, _, _, _, rfl, n (by omega)⟩))
  · exact .inr (.inr (.inr ⟨rfl, _, _, _, rfl, n (by omega)⟩))
/-- the law's lists with a number above 1000 -/
def bigs : List (List Int) := [[0, 1, 1001, 1002, 0], [0, 1, 3, 1001, 2000], [0, 1, 3, 4, 1001]]
theorem big_due {L : List Int} (h : L ∈ bigs) : L.length ≤ 1000 ∧ ∃ r, L.filter (fun z => decide (1000 < z)) = 1001 :: r := by
  simp only [bigs, List.mem_cons, List.not_mem_nil, or_false] at h
  rcases h with rfl | rfl | rfl <;> exact ⟨by decide, _, rfl⟩
theorem ask_big {L : List Int} (hL : L ∈ bigs) (hQ : ∀ H' p, Same H H' → H' p = some (.lst [.int 1001, .bl true]) → Q (.ref p) H') : Asked K C 3 (L.map V.int) H Q := by
  have B : Bad C "given" (.int 1001) H (EE C Q) := bad_of hQ
  simp only [bigs, List.mem_cons, List.not_mem_nil, or_false] at hL
  rcases hL with rfl | rfl | rfl
  · exact ⟨_, _, _, _, _, rfl, .inr (.inr (.inr ⟨rfl, _, _, _, rfl, .inl ⟨.inr ⟨1001, rfl, by omega⟩, B⟩⟩))⟩
  · exact ⟨_, _, _, _, _, rfl, .inr (.inr (.inr ⟨rfl, _, _, _, rfl, .inr ⟨3, rfl, by omega, by omega, .inl ⟨.inr ⟨1001, rfl, by omega⟩, B⟩⟩⟩))⟩
  · exact ⟨_, _, _, _, _, rfl, .inr (.inr (.inr ⟨rfl, _, _, _, rfl, .inr ⟨3, rfl, by omega, by omega, .inr ⟨⟨4, rfl, by omega, by omega⟩, .inl ⟨.inr ⟨1001, rfl, by omega⟩, B⟩⟩⟩⟩))⟩
theorem ask_bigA {L : List Int} (hL : L ∈ bigs) (hQ : Q .non H) : Asked K C 2 (L.map V.int) H Q := by
  simp only [bigs, List.mem_cons, List.not_mem_nil, or_false] at hL
  rcases hL with rfl | rfl | rfl
  · exact ⟨_, _, _, _, _, rfl, .inr (.inr (.inl ⟨rfl, _, _, _, rfl, walk_ok (by omega) (by omega) (by omega) (by omega) (by omega) ⟨1001, 1002, 0, rfl, rfl, rfl, hQ⟩⟩))⟩
  · exact ⟨_, _, _, _, _, rfl, .inr (.inr (.inl ⟨rfl, _, _, _, rfl, walk_ok (by omega) (by omega) (by omega) (by omega) (by omega) ⟨3, 1001, 2000, rfl, rfl, rfl, hQ⟩⟩))⟩
  · exact ⟨_, _, _, _, _, rfl, .inr (.inr (.inl ⟨rfl, _, _, _, rfl, walk_ok (by omega) (by omega) (by omega) (by omega) (by omega) ⟨3, 4, 1001, rfl, rfl, rfl, hQ⟩⟩))⟩
theorem spots {b : Nat} (hb : b < 4) : ∃ L : List Nat, [[0, 1, 2], [0, 1, 2, 3, 4], [2, 3, 4], [2, 3, 4]][b]? = some L ∧ L ≠ [] ∧ L.length ≤ 1000 ∧ ∀ i ∈ L, i < 5 ∧ ((b = 0 ∧ i < 3) ∨ (b = 1 ∧ i < 5) ∨ ((b = 2 ∨ b = 3) ∧ 2 ≤ i ∧ i < 5)) := by
  have b4 : b = 0 ∨ b = 1 ∨ b = 2 ∨ b = 3 := by omega
  rcases b4 with rfl | rfl | rfl | rfl <;> exact ⟨_, rfl, by decide, by decide, by decide⟩
end
end K1
namespace K1
open PySem PySem.Spec L2 Z K5
section
variable {P : Program} {w : World} {K : PySem.W.Frag} {mg : Str → Option Value} {base : Heap} {C CA : Addr}
theorem ok_law_take (T : Txt K mg C CA)  : Pr P w K mg base "_law_take" s_law_take 1 ["_law_well_here", "_law_limit"] q_law_take := by
  obtain ⟨f, fd, F, gl, bd⟩ := T.d__law_take
  refine ⟨f, fd, F, gl, bd, F.ok sc_law_take (fun vs H Q E h => ?_) (fun cdv A outer s H vs Q E hr h => ?_)⟩
  · obtain ⟨j, m, rfl, _⟩ := h
    rfl
  · obtain ⟨j, m, rfl, ⟨g, s0, c, hj, b1, b2⟩, m1, m2, k⟩ := h
    have hu := hu_of hr
    refine ⟨_, (pss_cons (ps_if (pt_cmpR op_gt (pe_ix ix_list (pv 0) pe_int (fun _ _ => rfl)) pe_int (nomark _)) (pss_cons (ps_asg (pe_callB call_divmod (by rfl) T.b_divmod (by decide +kernel) (pa_cons (pe_ix ix_list (pv 0) pe_int (fun _ _ => rfl)) (pa_cons (pv 1) pa_nil))) (pg_tup rfl (pgs_cons (pg_sub (pv 0) pe_int set_list) (pgs_cons (pg_name (i := 2) sc_law_take.nd rfl (Or.inl rfl)) pgs_nil))))
      (pss_one (ps_ret (pv 2)))) pss_nil)
      (pss_cons (ps_asg (pe_op op_add (pe_ix ix_list (pv 0) pe_int (fun _ _ => rfl)) pe_int) (pg_sub (pv 0) pe_int set_list))
      (pss_cons (ps_set (i := 3) sc_law_take.nd rfl (Or.inl rfl) (pe_op op_modN (pe_callTy call_int1 (by rfl) T.b_int (by decide +kernel) (pa_cons (pe_op op_add (pe_op op_mul (pe_ix ix_list (pv 0) pe_int (fun _ _ => rfl)) pe_int) (pe_op op_mul (pe_ix ix_list (pv 0) pe_int (fun _ _ => rfl)) pe_int)) pa_nil)) pe_int))
      (pss_cons (ps_asg (pe_op op_modN (pe_callTy call_int1 (by rfl) T.b_int (by decide +kernel) (pa_cons (pe_op op_add (pe_op op_mul (pv 3) (pe_op op_add (pe_op op_modN (pe_callTy call_int1 (by rfl) T.b_int (by decide +kernel) (pa_cons (pe_op op_fdivN (pv 3) pe_int) pa_nil)) pe_int) pe_int)) pe_int) pa_nil)) pe_int) (pg_sub (pv 0) pe_int set_list))
      (pss_one (ps_ret (pe_op op_modN (pe_callTy call_int1 (by rfl) T.b_int (by decide +kernel) (pa_cons (pe_op op_fdivN (pe_ix ix_list (pv 0) pe_int (fun _ _ => rfl)) pe_int) pa_nil)) (pv 1)))))))), ?_⟩
    refine ⟨_, rfl, j, _, 0, _, rfl, rfl, .inl (.inl hj), at_first, _, _, rfl, rfl, _, rfl, ?_⟩
    by_cases hg : 0 < g
    · rw [decide_eq_true hg]
      refine iteT ⟨_, rfl, j, _, 0, _, rfl, rfl, .inl (.inl hj), at_first, _, rfl, _, _, rfl, ⟨by omega, by omega⟩, fun t ht => ?_⟩
      have nt : j ≠ t := ne_of_none hj ht
      refine ⟨t, _, rfl, .inl (.inl upd_same), rfl, _, _, rfl, _, rfl, j, _, 0, 0, rfl, rfl, by rw [upd_ne nt]; exact hj, rfl, _, _, rfl, rfl, _, rfl, ?_⟩
      exact k _ (g % m) ((Chg.of (same_new ht)).trans Chg.upd) ⟨g / m, s0, c, upd_same, b1, b2⟩ (Int.emod_nonneg _ (by omega)) (Int.emod_lt_of_pos _ (by omega))
    · rw [decide_eq_false hg]
      refine iteF ⟨_, rfl, j, _, 2, _, rfl, rfl, .inl (.inl hj), at_third, _, _, rfl, rfl, _, rfl, j, _, 2, 2, rfl, rfl, hj, rfl, ?_⟩
      have j1 : upd H j (.lst ([V.int g, V.int s0, V.int c].set 2 (V.int (c + 1)))) j = some (.lst [V.int g, V.int s0, V.int (c + 1)]) := upd_same
      have c1 : Chg j H (upd H j (.lst ([V.int g, V.int s0, V.int c].set 2 (V.int (c + 1))))) := Chg.upd
      generalize upd H j (.lst ([V.int g, V.int s0, V.int c].set 2 (V.int (c + 1)))) = H1 at j1 c1 ⊢
      refine ⟨_, rfl, j, _, 1, _, rfl, rfl, .inl (.inl j1), at_snd, _, _, rfl, rfl, .inr ⟨by decide, by decide⟩, _, rfl, j, _, 2, _, rfl, rfl, .inl (.inl j1), at_third, _, _, rfl, rfl, .inr ⟨by decide, by decide⟩, _, _, rfl, rfl, .inl ⟨_, rfl, _, _, rfl, rfl, by show (2147483629 : Int) ≠ 0; decide, ?_⟩⟩
      have hs := fm_range (i := s0 * 48271 + (c + 1) * 30103) (m := 2147483629) (by decide)
      refine ⟨_, rfl, _, rfl, _, _, rfl, rfl, ⟨by decide, by decide⟩, .inl ⟨_, rfl, _, _, rfl, rfl, by show (5003 : Int) ≠ 0; decide, _, _, rfl, rfl, _, _, rfl, rfl, .inl ⟨by have := hs.1; omega, by have := hs.2; omega⟩, _, _, rfl, rfl, .inl ⟨_, rfl, _, _, rfl, rfl, by show (2147483587 : Int) ≠ 0; decide, _, rfl, j, _, 1, 1, rfl, rfl, j1, rfl, ?_⟩⟩⟩
      have hr := fm_range (i := (Int.fmod (s0 * 48271 + (c + 1) * 30103) 2147483629) * ((Int.fmod (Int.fdiv (Int.fmod (s0 * 48271 + (c + 1) * 30103) 2147483629) 7) 5003) + 20011) + 11) (m := 2147483587) (by decide)
      refine ⟨_, rfl, j, _, 1, _, rfl, rfl, .inl (.inl upd_same), at_snd, _, _, rfl, rfl, ⟨by decide, by decide⟩, .inl ⟨_, rfl, _, rfl, _, _, rfl, rfl, by show m ≠ 0; omega, ?_⟩⟩
      have fr := fm_range (i := (Int.fmod ((Int.fmod (s0 * 48271 + (c + 1) * 30103) 2147483629) * ((Int.fmod (Int.fdiv (Int.fmod (s0 * 48271 + (c + 1) * 30103) 2147483629) 7) 5003) + 20011) + 11) 2147483587).fdiv 1009) (m := m) (by omega)
      exact k _ _ (c1.trans Chg.upd) ⟨_, _, _, upd_same, Int.lt_of_lt_of_le (by decide) hr.1, Int.lt_trans hr.2 (by decide)⟩ fr.1 fr.2
end
end K1
namespace K1
open PySem PySem.Spec L2 Z K5
section
variable {P : Program} {w : World} {K : PySem.W.Frag} {mg : Str → Option Value} {base : Heap} {C CA : Addr}
theorem ok_law_pick (T : Txt K mg C CA) (G__law_take : Pr P w K mg base "_law_take" s_law_take 1 ["_law_well_here", "_law_limit"] q_law_take) : Pr P w K mg base "_law_pick" s_law_pick 2 ["_law_well_here", "_law_some"] (q_law_pick K) := by
  obtain ⟨f, fd, F, gl, bd⟩ := T.d__law_pick
  refine ⟨f, fd, F, gl, bd, F.ok sc_law_pick (fun vs H Q E h => ?_) (fun cdv A outer s H vs Q E hr h => ?_)⟩
  · obtain ⟨j, l, xs, rfl, _⟩ := h
    rfl
  · obtain ⟨j, l, xs, rfl, hj, hl, hx, hm, k⟩ := h
    have hu := hu_of hr
    refine ⟨_, (pss_one (ps_ret (pe_ix ix_tup (pv 1) (pcall G__law_take (hr.mono (by decide)) (pa_cons (pv 0) (pa_cons (pe_callB call_len_seq (by rfl) T.b_len (by decide +kernel) (pa_cons (pv 1) pa_nil)) pa_nil))) (fun _ _ => rfl)))), ?_⟩
    have hp := List.length_pos_iff.mpr hx
    refine ⟨_, rfl, _, rfl, _, rfl, l, xs, rfl, .inr hl, j, (xs.length : Int), rfl, hj, by omega, by omega, fun H' i cg hj' i0 im => ?_⟩
    obtain ⟨y, hy, hat⟩ := at_of (xs := xs) i0 im
    exact ⟨l, xs, i, y, rfl, rfl, SqT.imm (chg_imm cg hj) hl, hat, k H' y cg hj' hy⟩
end
end K1
namespace K1
open PySem PySem.Spec L2 Z K5
section
variable {P : Program} {w : World} {K : PySem.W.Frag} {mg : Str → Option Value} {base : Heap} {C CA : Addr}
theorem ok_is_number (T : Txt K mg C CA)  : Pr P w K mg base "is_number" s_is_number 1 ["value"] (q_is_number K) := by
  obtain ⟨f, fd, F, gl, bd⟩ := T.d_is_number
  refine ⟨f, fd, F, gl, bd, F.ok sc_is_number (fun vs H Q E h => ?_) (fun cdv A outer s H vs Q E hr h => ?_)⟩
  · obtain ⟨v, rfl, _⟩ := h
    rfl
  · obtain ⟨v, rfl, h⟩ := h
    have hu := hu_of hr
    refine ⟨_, (pss_one (ps_ret (pe_and (pe_callB call_isi (by rfl) T.b_isinstance (by decide +kernel) (pa_cons (pv 0) (pa_cons (pe_bty "int" (by rfl) T.b_int (by decide +kernel)) pa_nil))) (pe_one (pe_not (pe_callB call_isi (by rfl) T.b_isinstance (by decide +kernel) (pa_cons (pv 0) (pa_cons (pe_bty "bool" (by rfl) T.b_bool (by decide +kernel)) pa_nil)))))))), ?_⟩
    rcases h with ⟨i, rfl, k⟩ | ⟨h, k⟩
    · refine ⟨_, rfl, _, _, _, _, _, rfl, .ty _, .base (.int i), kit_ty (r := true) (by decide +kernel), _, rfl, iteT ?_⟩
      exact ⟨_, rfl, _, _, _, _, _, rfl, .ty _, .base (.int i), kit_ty (r := false) (by decide +kernel), _, rfl, k⟩
    · rcases h with ⟨b, rfl⟩ | rfl | ⟨z, rfl⟩ | ⟨a, xs, rfl, hs⟩
      · refine ⟨_, rfl, _, _, _, _, _, rfl, .ty _, .base (.bl b), kit_ty (r := true) (by decide +kernel), _, rfl, iteT ?_⟩
        exact ⟨_, rfl, _, _, _, _, _, rfl, .ty _, .base (.bl b), kit_ty (r := true) (by decide +kernel), _, rfl, k⟩
      · exact ⟨_, rfl, _, _, _, _, _, rfl, .ty _, .base .non, kit_ty (r := false) (by decide +kernel), _, rfl, iteF k⟩
      · exact ⟨_, rfl, _, _, _, _, _, rfl, .ty _, .base (.str z), kit_ty (r := false) (by decide +kernel), _, rfl, iteF k⟩
      · exact ⟨_, rfl, _, _, _, _, _, rfl, .ty _, SqT.ty hs, kit_ty (r := false) (by decide +kernel), _, rfl, iteF k⟩
end
end K1
namespace K1
open PySem PySem.Spec L2 Z K5
section
variable {P : Program} {w : World} {K : PySem.W.Frag} {mg : Str → Option Value} {base : Heap} {C CA : Addr}
theorem ok_is_whole (T : Txt K mg C CA) (G_is_number : Pr P w K mg base "is_number" s_is_number 1 ["value"] (q_is_number K)) : Pr P w K mg base "is_whole" s_is_whole 2 ["value", "low", "high"] (q_is_whole K) := by
  obtain ⟨f, fd, F, gl, bd⟩ := T.d_is_whole
  refine ⟨f, fd, F, gl, bd, F.ok sc_is_whole (fun vs H Q E h => ?_) (fun cdv A outer s H vs Q E hr h => ?_)⟩
  · obtain ⟨v, lo, hi, rfl, _⟩ := h
    rfl
  · obtain ⟨v, lo, hi, rfl, h⟩ := h
    have hu := hu_of hr
    refine ⟨_, (pss_one (ps_ret (pe_and (pcall G_is_number (hr.mono (by decide)) (pa_cons (pv 0) pa_nil)) (pe_one (pe_chain op_le op_le (pv 1) (pv 0) (pv 2)))))), ?_⟩
    rcases h with ⟨⟨i, rfl, h1, h2⟩, k⟩ | ⟨h | ⟨i, rfl, h⟩, k⟩
    · refine ⟨_, rfl, _, rfl, .inl ⟨i, rfl, _, rfl, iteT ⟨_, rfl, _, rfl, _, _, rfl, rfl, _, rfl, ?_⟩⟩⟩
      rw [decide_eq_true h1]
      refine iteT ⟨_, rfl, _, _, rfl, rfl, ?_⟩
      show Q (.bl (decide (i ≤ hi))) H
      rw [decide_eq_true h2]
      exact k
    · exact ⟨_, rfl, _, rfl, .inr ⟨h, _, rfl, iteF k⟩⟩
    · refine ⟨_, rfl, _, rfl, .inl ⟨i, rfl, _, rfl, iteT ⟨_, rfl, _, rfl, _, _, rfl, rfl, _, rfl, ?_⟩⟩⟩
      by_cases h1 : lo ≤ i
      · rw [decide_eq_true h1]
        refine iteT ⟨_, rfl, _, _, rfl, rfl, ?_⟩
        show Q (.bl (decide (i ≤ hi))) H
        rw [decide_eq_false (fun z => h ⟨h1, z⟩)]
        exact k
      · rw [decide_eq_false h1]
        exact iteF k
end
end K1
namespace K1
open PySem PySem.Spec L2 Z K5
section
variable {P : Program} {w : World} {K : PySem.W.Frag} {mg : Str → Option Value} {base : Heap} {C CA : Addr}
theorem ok_need_number (T : Txt K mg C CA) (G_is_whole : Pr P w K mg base "is_whole" s_is_whole 2 ["value", "low", "high"] (q_is_whole K)) : PrX P w K mg base "_need_number" s_need_number 3 ["value", "low", "high"] (q_need_number K C) := by
  obtain ⟨f, fd, F, gl, bd⟩ := T.d__need_number
  refine ⟨f, fd, F, gl, bd, F.okX sc_need_number (fun vs H Q E h => ?_) (fun cdv A outer s H vs Q E hr h => ?_)⟩
  · obtain ⟨v, lo, hi, rfl, _⟩ := h
    rfl
  · obtain ⟨v, lo, hi, rfl, h⟩ := h
    have hu := hu_of hr
    refine ⟨_, (pss_one (ps_if (pt_not (pt_val (pcall G_is_whole (hr.mono (by decide)) (pa_cons (pv 0) (pa_cons (pv 1) (pa_cons (pv 2) pa_nil)))))) (pss_one (ps_raiseE rfl (takes_of rfl rfl rfl rfl) (ok_err_InvalidNumber T) (hr.mono (by decide)) (pa_cons (pv 0) pa_nil))) pss_nil)), ?_⟩
    rcases h with ⟨h, k⟩ | ⟨h, k⟩
    · exact ⟨_, rfl, _, rfl, _, rfl, _, _, _, rfl, .inl ⟨h, _, rfl, iteF k⟩⟩
    · exact ⟨_, rfl, _, rfl, _, rfl, _, _, _, rfl, .inr ⟨h, _, rfl, iteT ⟨_, rfl, _, rfl, k⟩⟩⟩
end
end K1
namespace K1
open PySem PySem.Spec L2 Z K5
section
variable {P : Program} {w : World} {K : PySem.W.Frag} {mg : Str → Option Value} {base : Heap} {C CA : Addr}
theorem ok_need_track (T : Txt K mg C CA) (G__need_number : PrX P w K mg base "_need_number" s_need_number 3 ["value", "low", "high"] (q_need_number K C)) : PrX P w K mg base "_need_track" s_need_track 4 ["tail", "ring"] (q_need_track K C) := by
  obtain ⟨f, fd, F, gl, bd⟩ := T.d__need_track
  refine ⟨f, fd, F, gl, bd, F.okX sc_need_track (fun vs H Q E h => ?_) (fun cdv A outer s H vs Q E hr h => ?_)⟩
  · obtain ⟨v, w, rfl, _⟩ := h
    rfl
  · obtain ⟨v, w, rfl, h⟩ := h
    have hu := hu_of hr
    refine ⟨_, (pss_cons (ps_expr (pcallX E G__need_number (hr.mono (by decide)) (passes_call (takes_of rfl rfl rfl rfl) (fun _ _ _ _ h => h)) (pa_cons (pv 0) (pa_cons pe_int (pa_cons (pe_globI rfl T.c_MOST_NUMBER) pa_nil)))))
      (pss_one (ps_expr (pcallX E G__need_number (hr.mono (by decide)) (passes_call (takes_of rfl rfl rfl rfl) (fun _ _ _ _ h => h)) (pa_cons (pv 1) (pa_cons pe_int (pa_cons (pe_globI rfl T.c_MOST_NUMBER) pa_nil))))))), ?_⟩
    rcases h with ⟨h1, k⟩ | ⟨h1, h⟩
    · exact ⟨_, rfl, _, _, _, rfl, .inr ⟨h1, k⟩⟩
    · rcases h with ⟨h2, k⟩ | ⟨h2, k⟩
      · exact ⟨_, rfl, _, _, _, rfl, .inl ⟨h1, _, rfl, _, _, _, rfl, .inr ⟨h2, k⟩⟩⟩
      · exact ⟨_, rfl, _, _, _, rfl, .inl ⟨h1, _, rfl, _, _, _, rfl, .inl ⟨h2, k⟩⟩⟩
end
end K1
namespace K1
open PySem PySem.Spec L2 Z K5
section
variable {P : Program} {w : World} {K : PySem.W.Frag} {mg : Str → Option Value} {base : Heap} {C CA : Addr}
theorem ok_stop (T : Txt K mg C CA)  : Pr P w K mg base "_stop" s_stop 1 ["tail", "ring", "steps"] q_stop := by
  obtain ⟨f, fd, F, gl, bd⟩ := T.d__stop
  refine ⟨f, fd, F, gl, bd, F.ok sc_stop (fun vs H Q E h => ?_) (fun cdv A outer s H vs Q E hr h => ?_)⟩
  · obtain ⟨t, r, s, rfl, _⟩ := h
    rfl
  · obtain ⟨t, r, s, rfl, hr1, k⟩ := h
    have hu := hu_of hr
    refine ⟨_, (pss_one (ps_ret (pe_ifExp (pt_cmpR op_lt (pv 2) (pv 0) (nomark _)) (pv 2) (pe_op op_add (pv 0) (pe_op op_modN (pe_op op_sub (pv 2) (pv 0)) (pv 1)))))), ?_⟩
    refine ⟨_, rfl, _, rfl, _, _, rfl, rfl, _, rfl, ?_⟩
    unfold stopI at k
    by_cases c : s < t
    · rw [if_pos c] at k
      exact ifT (decide_eq_true c) ⟨_, rfl, k⟩
    · rw [if_neg c] at k
      refine ifF (decide_eq_false c) ⟨_, rfl, _, rfl, _, rfl, _, _, rfl, rfl, _, rfl, _, _, rfl, rfl, by show r ≠ 0; omega, _, _, rfl, rfl, ?_⟩
      rw [fmod_pos (by omega)]
      exact k
end
end K1
namespace K1
open PySem PySem.Spec L2 Z K5
section
variable {P : Program} {w : World} {K : PySem.W.Frag} {mg : Str → Option Value} {base : Heap} {C CA : Addr}
theorem ok_stop_at (T : Txt K mg C CA) (G__need_track : PrX P w K mg base "_need_track" s_need_track 4 ["tail", "ring"] (q_need_track K C)) (G__need_number : PrX P w K mg base "_need_number" s_need_number 3 ["value", "low", "high"] (q_need_number K C)) (G__stop : Pr P w K mg base "_stop" s_stop 1 ["tail", "ring", "steps"] q_stop) : PrX P w K mg base "stop_at" s_stop_at 5 ["tail", "ring", "steps"] (q_stop_at K C) := by
  obtain ⟨f, fd, F, gl, bd⟩ := T.d_stop_at
  refine ⟨f, fd, F, gl, bd, F.okX sc_stop_at (fun vs H Q E h => ?_) (fun cdv A outer s H vs Q E hr h => ?_)⟩
  · obtain ⟨a, b, c, rfl, _⟩ := h
    rfl
  · obtain ⟨a, b, c, rfl, h⟩ := h
    have hu := hu_of hr
    refine ⟨_, (pss_cons (ps_expr (pcallX E G__need_track (hr.mono (by decide)) (passes_call (takes_of rfl rfl rfl rfl) (fun _ _ _ _ h => h)) (pa_cons (pv 0) (pa_cons (pv 1) pa_nil))))
      (pss_cons (ps_expr (pcallX E G__need_number (hr.mono (by decide)) (passes_call (takes_of rfl rfl rfl rfl) (fun _ _ _ _ h => h)) (pa_cons (pv 2) (pa_cons pe_int (pa_cons (pe_globI rfl T.c_MOST_NUMBER) pa_nil)))))
      (pss_one (ps_ret (pcall G__stop (hr.mono (by decide)) (pa_cons (pv 0) (pa_cons (pv 1) (pa_cons (pv 2) pa_nil)))))))), ?_⟩
    refine ⟨_, rfl, _, rfl, _, _, rfl, NeedT.go (K := K) (C := C) (v := a) (w := b) h fun t r et er t0 t1 r0 r1 h => ?_⟩
    subst et er
    rcases h with ⟨h1, k⟩ | ⟨t', r', s, e1, e2, rfl, s0, s1, k⟩
    · exact ⟨_, rfl, _, _, _, rfl, .inr ⟨h1, k⟩⟩
    · cases e1
      cases e2
      exact ⟨_, rfl, _, _, _, rfl, .inl ⟨⟨s, rfl, s0, s1⟩, _, rfl, _, rfl, _, rfl, _, _, _, rfl, r0, k⟩⟩
end
end K1
namespace K1
open PySem PySem.Spec L2 Z K5
section
variable {P : Program} {w : World} {K : PySem.W.Frag} {mg : Str → Option Value} {base : Heap} {C CA : Addr}
theorem ok_need_walkers (T : Txt K mg C CA) (G__need_number : PrX P w K mg base "_need_number" s_need_number 3 ["value", "low", "high"] (q_need_number K C)) : PrX P w K mg base "_need_walkers" s_need_walkers 4 ["slow", "fast", "lead", "high"] (q_need_walkers K C) := by
  obtain ⟨f, fd, F, gl, bd⟩ := T.d__need_walkers
  refine ⟨f, fd, F, gl, bd, F.okX sc_need_walkers (fun vs H Q E h => ?_) (fun cdv A outer s H vs Q E hr h => ?_)⟩
  · obtain ⟨a, b, c, hi, rfl, _⟩ := h
    rfl
  · obtain ⟨a, b, c, hi, rfl, h⟩ := h
    have hu := hu_of hr
    refine ⟨_, (pss_cons (ps_expr (pcallX E G__need_number (hr.mono (by decide)) (passes_call (takes_of rfl rfl rfl rfl) (fun _ _ _ _ h => h)) (pa_cons (pv 0) (pa_cons pe_int (pa_cons (pv 3) pa_nil)))))
      (pss_cons (ps_expr (pcallX E G__need_number (hr.mono (by decide)) (passes_call (takes_of rfl rfl rfl rfl) (fun _ _ _ _ h => h)) (pa_cons (pv 1) (pa_cons (pv 0) (pa_cons (pv 3) pa_nil)))))
      (pss_one (ps_expr (pcallX E G__need_number (hr.mono (by decide)) (passes_call (takes_of rfl rfl rfl rfl) (fun _ _ _ _ h => h)) (pa_cons (pv 2) (pa_cons pe_int (pa_cons (pv 3) pa_nil)))))))), ?_⟩
    rcases h with ⟨h1, k⟩ | ⟨i, rfl, i0, i1, h⟩
    · exact ⟨_, rfl, _, rfl, _, _, _, rfl, .inr ⟨h1, k⟩⟩
    · refine ⟨_, rfl, _, rfl, _, _, _, rfl, .inl ⟨⟨i, rfl, i0, i1⟩, _, rfl, _, rfl, _, rfl, _, _, _, rfl, ?_⟩⟩
      rcases h with ⟨h2, k⟩ | ⟨h2, h⟩
      · exact .inr ⟨h2, k⟩
      · refine .inl ⟨h2, _, rfl, _, rfl, _, _, _, rfl, ?_⟩
        rcases h with ⟨h3, k⟩ | ⟨h3, k⟩
        · exact .inr ⟨h3, k⟩
        · exact .inl ⟨h3, k⟩
end
end K1
namespace K1
open PySem PySem.Spec L2 Z K5
section
variable {P : Program} {w : World} {K : PySem.W.Frag} {mg : Str → Option Value} {base : Heap} {C CA : Addr}
theorem ok_inverse (T : Txt K mg C CA)  : Pr P w K mg base "_inverse" s_inverse 1 ["number", "ring"] q_inverse := by
  obtain ⟨f, fd, F, gl, bd⟩ := T.d__inverse
  refine ⟨f, fd, F, gl, bd, F.ok sc_inverse (fun vs H Q E h => ?_) (fun cdv A outer s H vs Q E hr h => ?_)⟩
  · obtain ⟨N, M, rfl, _⟩ := h
    rfl
  · obtain ⟨N, M, rfl, n0, n1, m0, m1, k⟩ := h
    have hu := hu_of hr
    refine ⟨_, (pss_cons (ps_par (i := 2) (j := 3) rfl sc_inverse.nd rfl rfl (by decide) rfl rfl (pa_cons (pv 1) (pa_cons (pe_op op_modN (pv 0) (pv 1)) pa_nil)) (by rfl))
      (pss_cons (ps_asg (pe_tup (pa_cons pe_int (pa_cons pe_int pa_nil))) (pg_tup rfl (pgs_cons (pg_name (i := 4) sc_inverse.nd rfl (Or.inl rfl)) (pgs_cons (pg_name (i := 5) sc_inverse.nd rfl (Or.inl rfl)) pgs_nil))))
      (pss_cons (ps_while PassesOwn.never (pt_cmpR op_gt (pv 3) pe_int (nomark _)) (pss_cons (ps_set (i := 6) sc_inverse.nd rfl (Or.inl rfl) (pe_op op_fdivW (pv 2) (pv 3)))
      (pss_cons (ps_par (i := 2) (j := 3) rfl sc_inverse.nd rfl rfl (by decide) rfl rfl (pa_cons (pv 3) (pa_cons (pe_op op_sub (pv 2) (pe_op op_mulW (pv 6) (pv 3))) pa_nil)) (by rfl))
      (pss_one (ps_par (i := 4) (j := 5) rfl sc_inverse.nd rfl rfl (by decide) rfl rfl (pa_cons (pv 5) (pa_cons (pe_op op_sub (pv 4) (pe_op op_mulW (pv 6) (pv 5))) pa_nil)) (by rfl))))))
      (pss_one (ps_ret (pv 4)))))), ?_⟩
    refine ⟨_, rfl, _, rfl, _, rfl, _, _, rfl, rfl, by show M ≠ 0; omega, _, _, rfl, ?_⟩
    refine ⟨by show 2 ≤ sizeLine; exact sl_le (by decide), fun t ht => ⟨t, _, rfl, .inl (.inl upd_same), rfl, _, _, rfl, _, _, rfl, rfl, ?_⟩⟩
    have s1 : Same H (upd H t (.tup [V.int 0, V.int 1])) := same_new ht
    generalize upd H t (.tup [V.int 0, V.int 1]) = H1 at s1 ⊢
    refine ⟨fun μ σ H' => H' = H1 ∧ ∃ (x y p q : Int) (x6 : Option V), σ = [some (.int N), some (.int M), some (.int x), some (.int y), some (.int p), some (.int q), x6] ∧ μ = y.toNat ∧ 1 ≤ x ∧ Eu N M x y p q ∧ x ≤ 1000000000000000000000000000000 ∧ y ≤ 1000000000000000000000000000000,
      ⟨_, rfl, M, _, 0, 1, _, rfl, rfl, m0, by rw [fmod_pos (by omega)]; exact Eu.ring n0 m0, by omega, ?_⟩, ?_⟩
    · rw [fmod_pos (by omega)]
      have := Int.emod_lt_of_pos N (show 0 < M by omega)
      omega
    rintro μ σ H' ⟨rfl, x, y, p, q, x6, rfl, rfl, x1, E, xb, yb⟩
    refine ⟨_, rfl, _, _, rfl, rfl, _, rfl, ?_⟩
    have hp := E.pM
    have hq := E.qM
    by_cases c : 0 < y
    · refine ifT (decide_eq_true c) ⟨_, fun _ _ h => h, ?_⟩
      obtain ⟨E', hl⟩ := E.step c
      have t0 : 0 ≤ x / y := Int.ediv_nonneg E.x0 (by omega)
      have t1 : x / y ≤ x := Int.ediv_le_self _ E.x0
      have e0 := E'.y0
      have ep := E'.pM
      have eq2 := E'.qM
      refine ⟨_, rfl, _, rfl, _, _, rfl, rfl, wide_div c (bits100 (by omega) yb) (by decide) (by decide), ?_⟩
      refine ⟨_, rfl, _, rfl, _, rfl, _, rfl, _, _, rfl, rfl, wide_mul (bits100 (by omega) (by omega)) (bits100 (by omega) yb) (by decide) (by decide) (by decide), _, _, rfl, rfl, _, _, rfl, ?_⟩
      refine ⟨_, rfl, _, rfl, _, rfl, _, rfl, _, _, rfl, rfl, wide_mul (bits100 (by omega) (by omega)) (bits100 (by omega) (by omega)) (by decide) (by decide) (by decide), _, _, rfl, rfl, _, _, rfl, ?_⟩
      exact ⟨(x - x / y * y).toNat, by omega, rfl, y, _, q, _, _, rfl, rfl, by omega, E', yb, by omega⟩
    · refine ifF (decide_eq_false c) ?_
      have y0 := E.y0
      obtain rfl : y = 0 := by omega
      obtain ⟨h1, h2⟩ := E.done
      exact ⟨_, rfl, k p _ s1 (fun g => by rw [g] at h1; rw [← h1] at h2; exact h2) hp.1 hp.2⟩
end
end K1
namespace K1
open PySem PySem.Spec L2 Z K5
section
variable {P : Program} {w : World} {K : PySem.W.Frag} {mg : Str → Option Value} {base : Heap} {C CA : Addr}
theorem ok_least_turn (T : Txt K mg C CA) (G__inverse : Pr P w K mg base "_inverse" s_inverse 1 ["number", "ring"] q_inverse) : Pr P w K mg base "_least_turn" s_least_turn 2 ["tail", "ring", "slow", "fast", "lead"] q_least_turn := by
  obtain ⟨f, fd, F, gl, bd⟩ := T.d__least_turn
  refine ⟨f, fd, F, gl, bd, F.ok sc_least_turn (fun vs H Q E h => ?_) (fun cdv A outer s H vs Q E hr h => ?_)⟩
  · obtain ⟨t, r, s, f, l, rfl, _⟩ := h
    rfl
  · obtain ⟨t, r, s, f, l, rfl, t0, t1, r0, r1, s0, f0, f1, l0, l1, k⟩ := h
    have hu := hu_of hr
    refine ⟨_, (pss_cons (ps_set (i := 5) sc_least_turn.nd rfl (Or.inl rfl) (pe_op op_sub (pv 3) (pv 2)))
      (pss_cons (ps_if (PW.pt (pw_and (pt_cmpR op_eq (pv 4) pe_int (nomark _)) (pw_and1 (pt_cmpR op_eq (pv 5) pe_int (nomark _))))) (pss_one (ps_ret pe_int)) pss_nil)
      (pss_cons (ps_set (i := 6) sc_least_turn.nd rfl (Or.inl rfl) (pe_callBfun cr_gcd (by rfl) T.g_gcd (pa_cons (pv 5) (pa_cons (pv 1) pa_nil))))
      (pss_cons (ps_if (PW.pt (pw_or (pt_cmpR op_ne (pe_op op_modN (pv 4) (pv 6)) pe_int (nomark _)) (pw_or1 (PW.pt (pw_and (pt_cmpR op_eq (pv 2) pe_int (nomark _)) (pw_and1 (pt_cmpR op_gt (pv 0) pe_int (nomark _)))))))) (pss_one (ps_ret pe_non)) pss_nil)
      (pss_cons (ps_set (i := 7) sc_least_turn.nd rfl (Or.inl rfl) (pe_op op_fdivW (pv 1) (pv 6)))
      (pss_cons (ps_set (i := 8) sc_least_turn.nd rfl (Or.inl rfl) (pe_op op_modN (pe_op op_mulW (pe_un un_neg (pe_op op_fdivW (pv 4) (pv 6))) (pcall G__inverse (hr.mono (by decide)) (pa_cons (pe_op op_fdivW (pv 5) (pv 6)) (pa_cons (pv 7) pa_nil)))) (pv 7)))
      (pss_cons (ps_set (i := 9) sc_least_turn.nd rfl (Or.inl rfl) (pe_ifExp (pt_cmpR op_gt (pv 0) pe_int (nomark _)) (pe_un un_neg (pe_op op_fdivW (pe_un un_neg (pv 0)) (pv 2))) pe_int))
      (pss_one (ps_ret (pe_op op_add (pv 9) (pe_op op_modN (pe_op op_sub (pv 8) (pv 9)) (pv 7)))))))))))), ?_⟩
    refine ⟨_, rfl, _, rfl, _, _, rfl, rfl, ?_⟩
    refine ⟨_, rfl, rfl, _, rfl, ?_⟩
    by_cases hn : l = 0 ∧ f = s
    · refine ifT (by rw [eqII]; exact decide_eq_true (by omega)) ⟨_, rfl, rfl, _, rfl, ?_⟩
      refine ifT (by rw [eqII]; exact decide_eq_true (by omega)) ?_
      exact k (some 1) H (fun _ _ h => h) (least_now hn.1 hn.2)
    by_cases c1 : l = 0
    case' pos => refine ifT (by rw [eqII]; exact decide_eq_true (by omega)) ⟨_, rfl, rfl, _, rfl, ifF (by rw [eqII]; exact decide_eq_false (by omega)) ?_⟩
    case' neg => refine ifF (by rw [eqII]; exact decide_eq_false (by omega)) ?_
    all_goals
      refine ⟨_, rfl, _, rfl, _, _, rfl, ?_⟩
      obtain ⟨g, a', m, e1, g0, ea, em, e2, e3, e4, m1⟩ := parts_gcd (a := f - s) r0
      obtain ⟨G, hG⟩ : ∃ G, ((Nat.gcd (f - s).natAbs r.natAbs : Nat) : Int) = G := ⟨_, rfl⟩
      rw [hG]
      obtain rfl : G = g := hG.symm.trans e1.symm
      clear hG
      have gr : G ≤ r := by
        have := Int.mul_le_mul (Int.le_refl G) m1 (by omega) (by omega)
        omega
      have dg : G ∣ f - s := ⟨a', ea⟩
      have dr : G ∣ r := ⟨m, em⟩
      have dl : G ∣ l ↔ l % G = 0 := ⟨fun z => Int.emod_eq_zero_of_dvd z, fun z => Int.dvd_of_emod_eq_zero z⟩
      refine ⟨_, rfl, _, rfl, _, _, rfl, rfl, by show G ≠ 0; omega, rfl, _, rfl, ?_⟩
      have ev : ∀ b : Bool, decide (l % G ≠ 0) = b → (!decide (V.int (l.fmod G) = V.int 0)) = b := fun b hb => by
        rw [fmod_pos g0, eqII, ← hb]
        simp
      by_cases d1 : l % G = 0
      case neg => exact ifT (ev true (decide_eq_true d1)) (ifT rfl (k none H (fun _ _ h => h) (least_none r0 t0 s0 f0 l0 hn dg dr (.inl fun z => d1 (dl.mp z)))))
      refine ifF (ev false (decide_eq_false (Classical.not_not.mpr d1))) ⟨_, rfl, rfl, _, rfl, ?_⟩
      rw [eqII]
      by_cases d2 : s = 0 ∧ 0 < t
      · refine ifT (decide_eq_true d2.1) ⟨_, rfl, _, _, rfl, rfl, _, rfl, ?_⟩
        refine ifT (decide_eq_true d2.2) ?_
        exact k none H (fun _ _ h => h) (least_none r0 t0 s0 f0 l0 hn dg dr (.inr d2))
      by_cases d3 : s = 0
      case' pos => refine ifT (decide_eq_true d3) ⟨_, rfl, _, _, rfl, rfl, _, rfl, ifF (decide_eq_false (fun z => d2 ⟨d3, z⟩)) ?_⟩
      case' neg => refine ifF (decide_eq_false d3) ?_
      all_goals
        refine ⟨_, rfl, _, rfl, _, _, rfl, rfl, wide_div g0 (bits100 (by omega) (by omega)) (by decide) (by decide), ?_⟩
        have n0 : 0 ≤ (f - s) / G := Int.ediv_nonneg (by omega) (by omega)
        have n1 : (f - s) / G ≤ f - s := Int.ediv_le_self _ (by omega)
        have q0 : 0 ≤ l / G := Int.ediv_nonneg l0 (by omega)
        have q1 : l / G ≤ l := Int.ediv_le_self _ l0
        have m2 : r / G ≤ r := Int.ediv_le_self _ (by omega)
        refine ⟨_, rfl, _, rfl, _, _, rfl, rfl, wide_div g0 (bits100 (by omega) (by omega)) (by decide) (by decide), _, rfl, ?_⟩
        refine ⟨_, rfl, _, rfl, _, _, rfl, rfl, wide_div g0 (bits100 (by omega) (by omega)) (by decide) (by decide), _, rfl, (f - s) / G, r / G, rfl, n0, by omega, by omega, by omega, fun p H1 s1 hinv p0 p1 => ?_⟩
        refine ⟨_, _, rfl, rfl, wide_mul (bits100 (by omega) (by omega)) (bits100 (by omega) (by omega)) (by decide) (by decide) (by decide), _, rfl, _, _, rfl, rfl, by show r / G ≠ 0; omega, ?_⟩
        have hv : r / G ∣ p * ((f - s) / G) - 1 := hinv (by rw [e2, e3]; exact e4)
        refine set_int (T := fun z => gName 8 z _ _ _) (fmod_pos (show (0 : Int) < r / G by omega)) ?_
        have fin := own_road r0 t0 s0 f0 l0 hn e1 d1 d2 hv rfl
        refine ⟨_, rfl, _, _, rfl, rfl, _, rfl, ?_⟩
        by_cases d4 : t > 0
        case' pos =>
          rw [if_pos d4] at fin
          refine ifT (decide_eq_true d4) ⟨_, rfl, _, rfl, _, rfl, _, _, rfl, rfl, wide_div (show (0 : Int) < s by omega) (bits100 (by omega) (by omega)) (by decide) (by decide), _, rfl, ?_⟩
        case' neg =>
          rw [if_neg d4] at fin
          refine ifF (decide_eq_false d4) ?_
        all_goals
          refine ⟨_, rfl, _, rfl, _, rfl, _, _, rfl, rfl, _, rfl, _, _, rfl, rfl, by show r / G ≠ 0; omega, _, _, rfl, rfl, ?_⟩
          rw [fmod_pos (show (0 : Int) < r / G by omega)]
          exact k _ H1 s1 fin
end
end K1
namespace K1
open PySem PySem.Spec L2 Z K5
section
variable {P : Program} {w : World} {K : PySem.W.Frag} {mg : Str → Option Value} {base : Heap} {C CA : Addr}
theorem ok_meet (T : Txt K mg C CA) (G__need_track : PrX P w K mg base "_need_track" s_need_track 4 ["tail", "ring"] (q_need_track K C)) (G__need_walkers : PrX P w K mg base "_need_walkers" s_need_walkers 4 ["slow", "fast", "lead", "high"] (q_need_walkers K C)) (G__least_turn : Pr P w K mg base "_least_turn" s_least_turn 2 ["tail", "ring", "slow", "fast", "lead"] q_least_turn) : PrX P w K mg base "meet" s_meet 5 ["tail", "ring", "slow", "fast", "lead"] (q_meet K C) := by
  obtain ⟨f, fd, F, gl, bd⟩ := T.d_meet
  refine ⟨f, fd, F, gl, bd, F.okX sc_meet (fun vs H Q E h => ?_) (fun cdv A outer s H vs Q E hr h => ?_)⟩
  · obtain ⟨a, b, c, d, e, rfl, _⟩ := h
    rfl
  · obtain ⟨a, b, c, d, e, rfl, h⟩ := h
    have hu := hu_of hr
    refine ⟨_, (pss_cons (ps_expr (pcallX E G__need_track (hr.mono (by decide)) (passes_call (takes_of rfl rfl rfl rfl) (fun _ _ _ _ h => h)) (pa_cons (pv 0) (pa_cons (pv 1) pa_nil))))
      (pss_cons (ps_expr (pcallX E G__need_walkers (hr.mono (by decide)) (passes_call (takes_of rfl rfl rfl rfl) (fun _ _ _ _ h => h)) (pa_cons (pv 2) (pa_cons (pv 3) (pa_cons (pv 4) (pa_cons (pe_globI rfl T.c_MOST_NUMBER) pa_nil))))))
      (pss_one (ps_ret (pcall G__least_turn (hr.mono (by decide)) (pa_cons (pv 0) (pa_cons (pv 1) (pa_cons (pv 2) (pa_cons (pv 3) (pa_cons (pv 4) pa_nil)))))))))), ?_⟩
    refine ⟨_, rfl, _, rfl, _, _, rfl, NeedT.go (K := K) (C := C) (v := a) (w := b) h fun t r et er t0 t1 r0 r1 h => ?_⟩
    subst et er
    refine ⟨_, rfl, _, rfl, _, rfl, _, _, _, _, rfl, NeedW.go (K := K) (C := C) (a := c) (b := d) (c := e) h fun s f l es ef el s0 s1 f1 l0 l1 h => ?_⟩
    subst es ef el
    obtain ⟨t', r', s', f', l', e1, e2, e3, e4, e5, k⟩ := h
    cases e1
    cases e2
    cases e3
    cases e4
    cases e5
    exact ⟨_, rfl, _, rfl, _, rfl, _, rfl, _, rfl, t, r, s, f, l, rfl, t0, t1, r0, r1, s0, s1, f1, l0, l1, k⟩
end
end K1
namespace K1
open PySem PySem.Spec L2 Z K5
section
variable {P : Program} {w : World} {K : PySem.W.Frag} {mg : Str → Option Value} {base : Heap} {C CA : Addr}
theorem ok_u_meets_always (T : Txt K mg C CA)  : Pr P w K mg base "_meets_always" s_u_meets_always 1 ["slow", "fast", "lead"] q_meets_always0 := by
  obtain ⟨f, fd, F, gl, bd⟩ := T.d__meets_always
  refine ⟨f, fd, F, gl, bd, F.ok sc_u_meets_always (fun vs H Q E h => ?_) (fun cdv A outer s H vs Q E hr h => ?_)⟩
  · obtain ⟨s, f, l, rfl, _⟩ := h
    rfl
  · obtain ⟨s, f, l, rfl, hsf, k⟩ := h
    have hu := hu_of hr
    refine ⟨_, (pss_cons (ps_set (i := 3) sc_u_meets_always.nd rfl (Or.inl rfl) (pe_op op_sub (pv 1) (pv 0)))
      (pss_cons (ps_if (PW.pt (pw_and (pt_cmpR op_eq (pv 2) pe_int (nomark _)) (pw_and1 (pt_cmpR op_eq (pv 3) pe_int (nomark _))))) (pss_one (ps_ret pe_bl)) pss_nil)
      (pss_one (ps_ret (pe_and (pe_cmpR op_gt (pv 0) pe_int (nomark _)) (pe_and (pe_cmpR op_gt (pv 3) pe_int (nomark _)) (pe_one (pe_cmpR op_eq (pe_op op_modN (pv 2) (pv 3)) pe_int (nomark _))))))))), ?_⟩
    refine ⟨_, rfl, _, rfl, _, _, rfl, rfl, _, rfl, rfl, _, rfl, ?_⟩
    unfold always at k
    by_cases hn : l = 0 ∧ f = s
    · refine ifT (by rw [eqII]; exact decide_eq_true (by omega)) ⟨_, rfl, rfl, _, rfl, ?_⟩
      refine ifT (by rw [eqII]; exact decide_eq_true (by omega)) ?_
      rw [decide_eq_true hn] at k
      exact k
    rw [decide_eq_false hn, Bool.false_or] at k
    by_cases c1 : l = 0
    case' pos => refine ifT (by rw [eqII]; exact decide_eq_true (by omega)) ⟨_, rfl, rfl, _, rfl, ifF (by rw [eqII]; exact decide_eq_false (by omega)) ?_⟩
    case' neg => refine ifF (by rw [eqII]; exact decide_eq_false (by omega)) ?_
    all_goals
      refine ⟨_, rfl, _, _, rfl, rfl, _, rfl, ?_⟩
      by_cases c3 : 0 < s
      · refine ifT (decide_eq_true (by omega)) ⟨_, rfl, _, _, rfl, rfl, _, rfl, ?_⟩
        by_cases c4 : s < f
        · refine ifT (decide_eq_true (by omega)) ⟨_, rfl, _, rfl, _, _, rfl, rfl, by show (f : Int) - s ≠ 0; omega, rfl, ?_⟩
          have e : decide (V.int (Int.fmod (l : Int) ((f : Int) - s)) = V.int 0) = decide (0 < s ∧ s < f ∧ l % (f - s) = 0) := by
            rw [eqII, fmod_pos (by omega), ← Int.natCast_sub hsf, ← Int.natCast_emod]
            by_cases c5 : l % (f - s) = 0
            · rw [decide_eq_true (show 0 < s ∧ s < f ∧ l % (f - s) = 0 from ⟨c3, c4, c5⟩)]; exact decide_eq_true (by omega)
            · rw [decide_eq_false (fun z : 0 < s ∧ s < f ∧ l % (f - s) = 0 => c5 z.2.2)]; exact decide_eq_false (by omega)
          rw [← e] at k
          exact k
        · refine ifF (decide_eq_false (by omega)) ?_
          rw [decide_eq_false (fun z : 0 < s ∧ s < f ∧ l % (f - s) = 0 => c4 z.2.1)] at k
          exact k
      · refine ifF (decide_eq_false (by omega)) ?_
        rw [decide_eq_false (fun z : 0 < s ∧ s < f ∧ l % (f - s) = 0 => c3 z.1)] at k
        exact k
end
end K1
namespace K1
open PySem PySem.Spec L2 Z K5
section
variable {P : Program} {w : World} {K : PySem.W.Frag} {mg : Str → Option Value} {base : Heap} {C CA : Addr}
theorem ok_meets_always (T : Txt K mg C CA) (G__need_walkers : PrX P w K mg base "_need_walkers" s_need_walkers 4 ["slow", "fast", "lead", "high"] (q_need_walkers K C)) (G__meets_always : Pr P w K mg base "_meets_always" s_u_meets_always 1 ["slow", "fast", "lead"] q_meets_always0) : PrX P w K mg base "meets_always" s_meets_always 5 ["slow", "fast", "lead"] (q_meets_always K C) := by
  obtain ⟨f, fd, F, gl, bd⟩ := T.d_meets_always
  refine ⟨f, fd, F, gl, bd, F.okX sc_meets_always (fun vs H Q E h => ?_) (fun cdv A outer s H vs Q E hr h => ?_)⟩
  · obtain ⟨a, b, c, rfl, _⟩ := h
    rfl
  · obtain ⟨a, b, c, rfl, h⟩ := h
    have hu := hu_of hr
    refine ⟨_, (pss_cons (ps_expr (pcallX E G__need_walkers (hr.mono (by decide)) (passes_call (takes_of rfl rfl rfl rfl) (fun _ _ _ _ h => h)) (pa_cons (pv 0) (pa_cons (pv 1) (pa_cons (pv 2) (pa_cons (pe_globI rfl T.c_MOST_NUMBER) pa_nil))))))
      (pss_one (ps_ret (pcall G__meets_always (hr.mono (by decide)) (pa_cons (pv 0) (pa_cons (pv 1) (pa_cons (pv 2) pa_nil))))))), ?_⟩
    refine ⟨_, rfl, _, rfl, _, rfl, _, _, _, _, rfl, NeedW.go (K := K) (C := C) (a := a) (b := b) (c := c) h fun s f l es ef el s0 s1 f1 l0 l1 h => ?_⟩
    obtain ⟨s', f', l', rfl, rfl, rfl, k⟩ := h
    cases es
    cases ef
    exact ⟨_, rfl, _, rfl, _, rfl, s', f', l', rfl, by omega, k⟩
end
end K1
namespace K1
open PySem PySem.Spec L2 Z K5
section
variable {P : Program} {w : World} {K : PySem.W.Frag} {mg : Str → Option Value} {base : Heap} {C CA : Addr}
theorem ok_missed_track (T : Txt K mg C CA) (G__need_walkers : PrX P w K mg base "_need_walkers" s_need_walkers 4 ["slow", "fast", "lead", "high"] (q_need_walkers K C)) (G__meets_always : Pr P w K mg base "_meets_always" s_u_meets_always 1 ["slow", "fast", "lead"] q_meets_always0) (G__least_turn : Pr P w K mg base "_least_turn" s_least_turn 2 ["tail", "ring", "slow", "fast", "lead"] q_least_turn) : PrX P w K mg base "missed_track" s_missed_track 5 ["slow", "fast", "lead"] (q_missed_track K C) := by
  obtain ⟨f, fd, F, gl, bd⟩ := T.d_missed_track
  refine ⟨f, fd, F, gl, bd, F.okX sc_missed_track (fun vs H Q E h => ?_) (fun cdv A outer s H vs Q E hr h => ?_)⟩
  · obtain ⟨a, b, c, rfl, _⟩ := h
    rfl
  · obtain ⟨a, b, c, rfl, h⟩ := h
    have hu := hu_of hr
    refine ⟨_, (pss_cons (ps_expr (pcallX E G__need_walkers (hr.mono (by decide)) (passes_call (takes_of rfl rfl rfl rfl) (fun _ _ _ _ h => h)) (pa_cons (pv 0) (pa_cons (pv 1) (pa_cons (pv 2) (pa_cons (pe_globI rfl T.c_MOST_MISSED) pa_nil))))))
      (pss_cons (ps_if (pt_val (pcall G__meets_always (hr.mono (by decide)) (pa_cons (pv 0) (pa_cons (pv 1) (pa_cons (pv 2) pa_nil))))) (pss_one (ps_ret pe_non)) pss_nil)
      (pss_cons (ps_set (i := 3) sc_missed_track.nd rfl (Or.inl rfl) pe_int)
      (pss_one (ps_while (passes_of rfl) (pt_val pe_bl) (pss_cons (ps_for (passes_of rfl) rfl (pi_range1 rfl T.b_range (pa_cons (pe_callB (call_min2 rfl) (by rfl) T.b_min (by decide +kernel) (pa_cons (pv 3) (pa_cons pe_int pa_nil))) pa_nil)) (pg_name (i := 4) sc_missed_track.nd rfl (Or.inl rfl))
      (pss_one (ps_if (pt_cmp (pc_isN (pcall G__least_turn (hr.mono (by decide)) (pa_cons (pv 4) (pa_cons (pe_op op_sub (pv 3) (pv 4)) (pa_cons (pv 0) (pa_cons (pv 1) (pa_cons (pv 2) pa_nil))))))) rfl) (pss_one (ps_ret (pe_tup (pa_cons (pv 4) (pa_cons (pe_op op_sub (pv 3) (pv 4)) pa_nil))))) pss_nil)))
      (pss_one (ps_aug (i := 3) sc_missed_track.nd rfl (Or.inl rfl) pe_int ip_add)))))))), ?_⟩
    refine ⟨_, rfl, _, rfl, _, rfl, _, _, _, _, rfl, NeedW.go (K := K) (C := C) (a := a) (b := b) (c := c) h fun s f l es ef el s0 s1 f1 l0 l1 h => ?_⟩
    obtain ⟨s, f, l, rfl, rfl, rfl, s4, sf, lim, k1, k2⟩ := h
    cases es
    cases ef
    cases el
    obtain ⟨om, la⟩ := miss s4 sf lim
    refine ⟨_, rfl, _, rfl, _, rfl, s, f, l, rfl, sf, _, rfl, ?_⟩
    cases hal : always s f l with
    | true => exact ifT rfl (k1 (by rw [om]; exact la.mpr hal) H (fun _ _ h => h))
    | false =>
      refine ifF rfl ?_
      have hno : ∃ t r, ownMiss s f l = some (t, r) := by
        cases e : ownMiss s f l with
        | none => rw [om, la, hal] at e; cases e
        | some p => exact ⟨p.1, p.2, rfl⟩
      obtain ⟨T0, R0, hTR⟩ := hno
      obtain ⟨u1, u2, u3, u4⟩ := own_late hTR
      refine ⟨fun μ σ H' => Same H H' ∧ ∃ (n : Nat) (x4 : Option V), σ = [some (.int (s : Int)), some (.int (f : Int)), some (.int (l : Int)), some (.int (n : Int)), x4] ∧ μ = 9 - n ∧ 1 ≤ n ∧ n ≤ 8 ∧ ∀ t' r', t' < 2 → 1 ≤ r' → t' + r' < n → noneN s f l t' r' = false,
        ⟨_, fun _ _ h => h, 1, _, rfl, rfl, by omega, by omega, fun t' r' h1 h2 h3 => by omega⟩, ?_⟩
      rintro μ σ H1 ⟨s1, n, x4, rfl, rfl, n1, n8, prev⟩
      refine ⟨true, rfl, iteT ⟨_, fun _ _ h => h, ?_⟩⟩
      obtain ⟨M, hM⟩ : ∃ M : Int, (if (2 : Int) < (n : Int) then (2 : Int) else (n : Int)) = M := ⟨_, rfl⟩
      have hM2 : M = ((min n 2 : Nat) : Int) := by rw [← hM]; split <;> omega
      refine ⟨_, rfl, _, _, rfl, M, congrArg (fun z => [V.int z]) hM, by omega, by omega, ?_⟩
      rw [show M.toNat = min n 2 by omega]
      refine for_range (lo := 0) (n := min n 2) (fun i σ H' => Same H H' ∧ ∃ x4, σ = [some (.int (s : Int)), some (.int (f : Int)), some (.int (l : Int)), some (.int (n : Int)), x4] ∧ ∀ t', t' < i → noneN s f l t' (n - t') = false) ⟨s1, _, rfl, fun _ h => absurd h (Nat.not_lt_zero _)⟩ ?_ ?_
      · rintro i σ H2 hi ⟨s2, x4, rfl, pi⟩
        have hin : i < n := by omega
        refine ⟨_, rfl, _, rfl, _, rfl, _, _, rfl, rfl, _, rfl, _, rfl, _, rfl, (i : Int), (n : Int) - (i : Int), s, f, l, by rw [Int.zero_add], by omega, by omega, by omega, by omega, by omega, by omega, by omega, by omega, by omega, fun o H3 s3 ho => ?_⟩
        have hn := noturn_iff (s := s) (f := f) (l := l) (t := i) (r := n - i) (by omega) sf (o := o) (by rw [Int.natCast_sub (by omega)]; exact ho)
        cases o with
        | none =>
          have hy := hn.mp rfl
          refine ⟨true, congrArg V.bl (by simp [optV]), iteT ?_⟩
          have own := own_first n8 hi hy (fun t' r' h1 h2 h3 => by
            rcases h3 with h3 | ⟨h3, h4⟩
            · exact prev t' r' h1 h2 h3
            · have := pi t' h4
              rwa [show n - t' = r' by omega] at this)
          refine ⟨_, rfl, _, rfl, _, rfl, _, _, rfl, rfl, by show 2 ≤ sizeLine; exact sl_le (by decide), fun p hp => ?_⟩
          refine k2 i (n - i) own _ p ((s2.trans s3).trans (same_new hp)) (.inl (.inl ?_))
          rw [Int.natCast_sub (by omega), upd_same, Int.zero_add]
        | some v =>
          have hy : noneN s f l i (n - i) = false := by
            cases e : noneN s f l i (n - i) with
            | false => rfl
            | true => cases hn.mpr e
          refine ⟨false, congrArg V.bl (by simp [optV]), iteF ?_⟩
          refine ⟨s2.trans s3, _, rfl, fun t' h => ?_⟩
          by_cases e : t' = i
          · subst e; exact hy
          · exact pi t' (by omega)
      · rintro σ H2 ⟨s2, x4, rfl, pi⟩
        have more : ∀ t' r', t' < 2 → 1 ≤ r' → t' + r' < n + 1 → noneN s f l t' r' = false := fun t' r' h1 h2 h3 => by
          by_cases e : t' + r' < n
          · exact prev t' r' h1 h2 e
          · have := pi t' (by omega)
            rwa [show n - t' = r' by omega] at this
        have n7 : n + 1 ≤ 8 := by
          rcases Nat.lt_or_ge (T0 + R0) (n + 1) with z | z
          · rw [more T0 R0 u1 u2 z] at u4; cases u4
          · omega
        exact ⟨_, rfl, _, _, rfl, rfl, 9 - (n + 1), by omega, s2, n + 1, _, rfl, rfl, by omega, n7, more⟩
end
end K1
namespace K1
open PySem PySem.Spec L2 Z K5
section
variable {P : Program} {w : World} {K : PySem.W.Frag} {mg : Str → Option Value} {base : Heap} {C CA : Addr}
theorem ok_law_error (T : Txt K mg C CA) (G_stop_at : PrX P w K mg base "stop_at" s_stop_at 5 ["tail", "ring", "steps"] (q_stop_at K C)) (G_meet : PrX P w K mg base "meet" s_meet 5 ["tail", "ring", "slow", "fast", "lead"] (q_meet K C)) (G_meets_always : PrX P w K mg base "meets_always" s_meets_always 5 ["slow", "fast", "lead"] (q_meets_always K C)) (G_missed_track : PrX P w K mg base "missed_track" s_missed_track 5 ["slow", "fast", "lead"] (q_missed_track K C)) : Pr P w K mg base "_law_error" s_law_error 6 ["_law_branch", "_law_some"] (q_law_error K C) := by
  obtain ⟨f, fd, F, gl, bd⟩ := T.d__law_error
  refine ⟨f, fd, F, gl, bd, F.ok sc_law_error (fun vs H Q E h => ?_) (fun cdv A outer s H vs Q E hr h => ?_)⟩
  · obtain ⟨b, l, v0, v1, v2, v3, v4, rfl, _⟩ := h
    rfl
  · obtain ⟨b, l, v0, v1, v2, v3, v4, rfl, hl, h⟩ := h
    have hu := hu_of hr
    refine ⟨_, (pss_cons (ps_try_each rfl rfl sc_law_error.nd takes0 (fun W pn xe tk _ => (pss_one (ps_if (pt_cmpR op_eq (pv 0) pe_int (nomark _)) (pss_one (ps_expr (pcallW G_stop_at (hr.mono (by decide)) tk (pa_cons (pe_ix (ix_listK (K := K) rfl) (pv 1) pe_int (fun _ _ => rfl)) (pa_cons (pe_ix (ix_listK (K := K) rfl) (pv 1) pe_int (fun _ _ => rfl)) (pa_cons (pe_ix (ix_listK (K := K) rfl) (pv 1) pe_int (fun _ _ => rfl)) pa_nil)))))) (pss_one (ps_if (pt_cmpR op_eq (pv 0) pe_int (nomark _)) (pss_one (ps_expr (pcallW G_meet (hr.mono (by decide)) tk (pa_cons (pe_ix (ix_listK (K := K) rfl) (pv 1) pe_int (fun _ _ => rfl)) (pa_cons (pe_ix (ix_listK (K := K) rfl) (pv 1) pe_int (fun _ _ => rfl)) (pa_cons (pe_ix (ix_listK (K := K) rfl) (pv 1) pe_int (fun _ _ => rfl)) (pa_cons (pe_ix (ix_listK (K := K) rfl) (pv 1) pe_int (fun _ _ => rfl)) (pa_cons (pe_ix (ix_listK (K := K) rfl) (pv 1) pe_int (fun _ _ => rfl)) pa_nil)))))))) (pss_one (ps_if (pt_cmpR op_eq (pv 0) pe_int (nomark _)) (pss_one (ps_expr (pcallW G_meets_always (hr.mono (by decide)) tk (pa_cons (pe_ix (ix_listK (K := K) rfl) (pv 1) pe_int (fun _ _ => rfl)) (pa_cons (pe_ix (ix_listK (K := K) rfl) (pv 1) pe_int (fun _ _ => rfl)) (pa_cons (pe_ix (ix_listK (K := K) rfl) (pv 1) pe_int (fun _ _ => rfl)) pa_nil)))))) (pss_one (ps_expr (pcallW G_missed_track (hr.mono (by decide)) tk (pa_cons (pe_ix (ix_listK (K := K) rfl) (pv 1) pe_int (fun _ _ => rfl)) (pa_cons (pe_ix (ix_listK (K := K) rfl) (pv 1) pe_int (fun _ _ => rfl)) (pa_cons (pe_ix (ix_listK (K := K) rfl) (pv 1) pe_int (fun _ _ => rfl)) pa_nil)))))))))))))
      (.cons (i := 2) rfl rfl ⟨rfl, by decide, .inl T.x_InvalidNumber.gC⟩ (fun a oe cls d pn hz hf => (pss_one (ps_ret (pe_lst (pa_cons (pe_xf T.x_InvalidNumber.xf T.x_InvalidNumber.no hz hf (pv 2)) (pa_cons (pe_callB (call_isX T.i_InvalidNumber hz hf) (by rfl) T.b_isinstance (by decide +kernel) (pa_cons (pv 2) (pa_cons (pe_glob (v := V.ref CA) rfl T.mgCA rfl) pa_nil))) pa_nil)))))) .nil))
      (pss_one (ps_ret pe_non))), ?_⟩
    refine ⟨_, rfl, rfl, _, rfl, ?_⟩
    rw [eqII]
    have i0 : atI [v0, v1, v2, v3, v4] 0 = some v0 := at_nat (i := 0) rfl
    have i1 : atI [v0, v1, v2, v3, v4] 1 = some v1 := at_nat (i := 1) rfl
    have i2 : atI [v0, v1, v2, v3, v4] 2 = some v2 := at_nat (i := 2) rfl
    have i3 : atI [v0, v1, v2, v3, v4] 3 = some v3 := at_nat (i := 3) rfl
    have i4 : atI [v0, v1, v2, v3, v4] 4 = some v4 := at_nat (i := 4) rfl
    have caught : ∀ cls d H', EE C Q cls d H' → wEach K (fun _ _ _ _ => False) { nx := fun _ H' => Q .non H', rt := Q } [(Value.ref C, 2, fun a cls d => tRet (tLst (tCons (tXf a cls d C (Str.ofString "given") (tVar 2)) (tCons (tCB (rIsX K C a cls d) (tCons (tVar 2) (tCons (tC (V.ref CA)) tNil))) tNil))))] cls d (L2.start N_law_error [V.int b, V.ref l]) H' := fun cls d H' he => by
      obtain ⟨rfl, dd, v, rfl, hd, k⟩ := he
      refine .inl ⟨T.x_InvalidNumber.te, fun a ha => ?_⟩
      refine ⟨_, rfl, rfl, rfl, dd, _, v, rfl, hd, by rfl, _, rfl, V.ref CA, Value.ref CA, dd, _, true, rfl, fun u hu => hu, rfl, rfl, hd, T.k_InvalidNumber_ArrowError, by show 2 ≤ sizeLine; exact sl_le (by decide), fun p hp => ?_⟩
      exact k _ p (same_new hp) hp upd_same
    have caught : ∀ cls d H', EE C Q cls d H' → wEach K (fun _ _ _ _ => False) { nx := tRet (tC V.non) { nx := fun _ H' => Q .non H', rt := Q }, rt := Q } [(Value.ref C, 2, fun a cls d => tRet (tLst (tCons (tXf a cls d C (Str.ofString "given") (tVar 2)) (tCons (tCB (rIsX K C a cls d) (tCons (tVar 2) (tCons (tC (V.ref CA)) tNil))) tNil))))] cls d (L2.start N_law_error [V.int b, V.ref l]) H' := caught
    rcases h with ⟨rfl, h⟩ | ⟨rfl, h⟩ | ⟨rfl, h⟩ | ⟨rfl, h⟩
    · exact ifT (by decide) ⟨_, rfl, l, _, _, _, rfl, rfl, hl, i0, _, rfl, l, _, _, _, rfl, rfl, hl, i1, _, rfl, l, _, _, _, rfl, rfl, hl, i2, stop_impE caught h⟩
    · refine ifF (by decide) ⟨_, rfl, rfl, _, rfl, ifT (by decide) ?_⟩
      exact ⟨_, rfl, l, _, _, _, rfl, rfl, hl, i0, _, rfl, l, _, _, _, rfl, rfl, hl, i1, _, rfl, l, _, _, _, rfl, rfl, hl, i2, _, rfl, l, _, _, _, rfl, rfl, hl, i3, _, rfl, l, _, _, _, rfl, rfl, hl, i4, meet_impE caught h⟩
    · refine ifF (by decide) ⟨_, rfl, rfl, _, rfl, ifF (by decide) ⟨_, rfl, rfl, _, rfl, ifT (by decide) ?_⟩⟩
      exact ⟨_, rfl, l, _, _, _, rfl, rfl, hl, i2, _, rfl, l, _, _, _, rfl, rfl, hl, i3, _, rfl, l, _, _, _, rfl, rfl, hl, i4, always_impE caught h⟩
    · refine ifF (by decide) ⟨_, rfl, rfl, _, rfl, ifF (by decide) ⟨_, rfl, rfl, _, rfl, ifF (by decide) ?_⟩⟩
      exact ⟨_, rfl, l, _, _, _, rfl, rfl, hl, i2, _, rfl, l, _, _, _, rfl, rfl, hl, i3, _, rfl, l, _, _, _, rfl, rfl, hl, i4, missed_impE caught h⟩
end
end K1
namespace K1
open PySem PySem.Spec L2 Z K5
section
variable {P : Program} {w : World} {K : PySem.W.Frag} {mg : Str → Option Value} {base : Heap} {C CA : Addr}
theorem ok_law_are_refused (T : Txt K mg C CA) (G__law_pick : Pr P w K mg base "_law_pick" s_law_pick 2 ["_law_well_here", "_law_some"] (q_law_pick K)) (G__law_take : Pr P w K mg base "_law_take" s_law_take 1 ["_law_well_here", "_law_limit"] q_law_take) (G__law_error : Pr P w K mg base "_law_error" s_law_error 6 ["_law_branch", "_law_some"] (q_law_error K C)) : PrG P w K mg base "_law_are_refused" s_law_are_refused 7 ["_law_well_here"] q_turn := by
  obtain ⟨f, fd, F, gl, bd⟩ := T.d__law_are_refused
  refine ⟨f, fd, F, gl, bd, okG F sc_law_are_refused (fun vs H Q E h => ?_) (fun cdv A outer s H vs Q E hr hgd h => ?_)⟩
  · obtain ⟨j, rfl, _⟩ := h
    rfl
  · obtain ⟨j, rfl, hj, k⟩ := h
    have hu := hu_of hr
    refine ⟨_, (pss_cons (ps_set (i := 1) sc_law_are_refused.nd rfl (Or.inl rfl) (pe_tup (pa_cons (pe_un un_neg pe_int) (pa_cons (pe_op op_add (pe_op op_pow pe_int pe_int) pe_int) (pa_cons pe_bl (pa_cons pe_non (pa_cons pe_str (pa_cons (pe_tupP pa_nil) (pa_cons (pe_op op_pow pe_int pe_int) pa_nil)))))))))
      (pss_cons (ps_par (i := 2) (j := 3) rfl sc_law_are_refused.nd rfl rfl (by decide) rfl rfl (pa_cons (pe_lst (pa_cons (pcall G__law_take (hr.mono (by decide)) (pa_cons (pv 0) (pa_cons pe_int pa_nil))) (pa_cons (pe_op op_add pe_int (pcall G__law_take (hr.mono (by decide)) (pa_cons (pv 0) (pa_cons pe_int pa_nil)))) (pa_cons (pcall G__law_take (hr.mono (by decide)) (pa_cons (pv 0) (pa_cons pe_int pa_nil))) (pa_cons (pe_op op_add pe_int (pcall G__law_take (hr.mono (by decide)) (pa_cons (pv 0) (pa_cons pe_int pa_nil)))) (pa_cons pe_int pa_nil)))))) (pa_cons (pcall G__law_take (hr.mono (by decide)) (pa_cons (pv 0) (pa_cons pe_int pa_nil))) pa_nil)) (by rfl))
      (pss_cons (ps_set (i := 4) sc_law_are_refused.nd rfl (Or.inl rfl) (pcall G__law_pick (hr.mono (by decide)) (pa_cons (pv 0) (pa_cons (pe_ix ix_tup (pe_tup (pa_cons (pe_tup (pa_cons pe_int (pa_cons pe_int (pa_cons pe_int pa_nil)))) (pa_cons (pe_tup (pa_cons pe_int (pa_cons pe_int (pa_cons pe_int (pa_cons pe_int (pa_cons pe_int pa_nil)))))) (pa_cons (pe_tup (pa_cons pe_int (pa_cons pe_int (pa_cons pe_int pa_nil)))) (pa_cons (pe_tup (pa_cons pe_int (pa_cons pe_int (pa_cons pe_int pa_nil)))) pa_nil))))) (pv 3) (fun _ _ => rfl)) pa_nil))))
      (pss_cons (ps_par (i := 5) (j := 6) rfl sc_law_are_refused.nd rfl rfl (by decide) rfl rfl (pa_cons (pe_callTy call_list_of (by rfl) T.b_list (by decide +kernel) (pa_cons (pv 2) pa_nil)) (pa_cons (pcall G__law_pick (hr.mono (by decide)) (pa_cons (pv 0) (pa_cons (pv 1) pa_nil))) pa_nil)) (by rfl))
      (pss_cons (ps_asg (pv 6) (pg_sub (pv 5) (pv 4) set_list))
      (pss_cons (ps_if (PW.pt (pw_and (pt_cmpR op_gt (pv 3) pe_int (nomark _)) (pw_and (pt_cmpR op_lt (pv 4) pe_int (nomark _)) (pw_and1 (pt_cmpR op_eq (pcall G__law_take (hr.mono (by decide)) (pa_cons (pv 0) (pa_cons pe_int pa_nil))) pe_int (nomark _)))))) (pss_one (ps_asg (pcall G__law_pick (hr.mono (by decide)) (pa_cons (pv 0) (pa_cons (pv 1) pa_nil))) (pg_sub (pv 5) pe_int set_list))) pss_nil)
      (pss_cons (ps_if (PW.pt (pw_or (pt_cmpR op_ne (pe_callB (call_show hgd hr.units) (by rfl) T.b_repr (by decide +kernel) (pa_cons (pcall G__law_error (hr.mono (by decide)) (pa_cons (pv 3) (pa_cons (pv 5) pa_nil))) pa_nil)) (pe_callB (call_show hgd hr.units) (by rfl) T.b_repr (by decide +kernel) (pa_cons (pe_lst (pa_cons (pv 6) (pa_cons pe_bl pa_nil))) pa_nil)) (nomark _)) (pw_or1 (pt_cmp (pc_notN (pcall G__law_error (hr.mono (by decide)) (pa_cons (pv 3) (pa_cons (pv 2) pa_nil)))) rfl)))) (pss_one (ps_ret pe_bl)) pss_nil)
      (pss_cons (ps_if (pt_cmpR op_ne (pe_callB (call_show hgd hr.units) (by rfl) T.b_repr (by decide +kernel) (pa_cons (pcall G__law_error (hr.mono (by decide)) (pa_cons (pcall G__law_take (hr.mono (by decide)) (pa_cons (pv 0) (pa_cons pe_int pa_nil))) (pa_cons (pe_lst (pa_cons pe_int (pa_cons pe_int (pa_cons pe_int (pa_cons pe_int (pa_cons pe_int pa_nil)))))) pa_nil))) pa_nil)) (pe_callB (call_show hgd hr.units) (by rfl) T.b_repr (by decide +kernel) (pa_cons (pe_lst (pa_cons pe_int (pa_cons pe_bl pa_nil))) pa_nil)) (nomark _)) (pss_one (ps_ret pe_bl)) pss_nil)
      (pss_cons (ps_if (pt_cmpR op_ne (pe_callB (call_show hgd hr.units) (by rfl) T.b_repr (by decide +kernel) (pa_cons (pcall G__law_error (hr.mono (by decide)) (pa_cons (pe_op op_add pe_int (pcall G__law_take (hr.mono (by decide)) (pa_cons (pv 0) (pa_cons pe_int pa_nil)))) (pa_cons (pe_lst (pa_cons pe_int (pa_cons pe_int (pa_cons pe_int (pa_cons pe_int (pa_cons (pe_un un_neg pe_int) pa_nil)))))) pa_nil))) pa_nil)) (pe_callB (call_show hgd hr.units) (by rfl) T.b_repr (by decide +kernel) (pa_cons (pe_lst (pa_cons pe_int (pa_cons pe_bl pa_nil))) pa_nil)) (nomark _)) (pss_one (ps_ret pe_bl)) pss_nil)
      (pss_cons (ps_set (i := 7) sc_law_are_refused.nd rfl (Or.inl rfl) (pcall G__law_pick (hr.mono (by decide)) (pa_cons (pv 0) (pa_cons (pe_tup (pa_cons (pe_lst (pa_cons pe_int (pa_cons pe_int (pa_cons pe_int (pa_cons pe_int (pa_cons pe_int pa_nil)))))) (pa_cons (pe_lst (pa_cons pe_int (pa_cons pe_int (pa_cons pe_int (pa_cons pe_int (pa_cons pe_int pa_nil)))))) (pa_cons (pe_lst (pa_cons pe_int (pa_cons pe_int (pa_cons pe_int (pa_cons pe_int (pa_cons pe_int pa_nil)))))) pa_nil)))) pa_nil))))
      (pss_cons (ps_set (i := 8) sc_law_are_refused.nd rfl (Or.inl rfl) (pe_ix ix_list (pe_lc (own := [("_law_each", 9)]) (g := gName 9) rfl sc_law_are_refused.nd (pi_list (pv 7)) (blkOk_by (own := [("_law_each", 9)]) (N := N_law_are_refused) (sc := defScope s_law_are_refused) (by decide +kernel)) (fun _ _ _ _ _ => (pg_name (i := 9) sc_law_are_refused.nd rfl (Or.inl rfl))) (fun _ _ _ _ _ => (pts_one (pt_cmpR op_gt (pv 9) pe_int (nomark _)))) (fun _ _ _ _ _ => (pv 9))) pe_int (fun _ _ => rfl)))
      (pss_one (ps_ret (pe_and (pe_cmpR op_eq (pe_callB (call_show hgd hr.units) (by rfl) T.b_repr (by decide +kernel) (pa_cons (pcall G__law_error (hr.mono (by decide)) (pa_cons pe_int (pa_cons (pv 7) pa_nil))) pa_nil)) (pe_callB (call_show hgd hr.units) (by rfl) T.b_repr (by decide +kernel) (pa_cons (pe_lst (pa_cons (pv 8) (pa_cons pe_bl pa_nil))) pa_nil)) (nomark _)) (pe_one (pe_cmp (pc_isN (pcall G__law_error (hr.mono (by decide)) (pa_cons pe_int (pa_cons (pv 7) pa_nil)))) rfl)))))))))))))))), ?_⟩
    have ok7 : (7 : Nat) ≤ sizeLine := sl_le (by decide)
    have ok5 : (5 : Nat) ≤ sizeLine := sl_le (by decide)
    have ok4 : (4 : Nat) ≤ sizeLine := sl_le (by decide)
    have ok3 : (3 : Nat) ≤ sizeLine := sl_le (by decide)
    have ok2 : (2 : Nat) ≤ sizeLine := sl_le (by decide)
    refine ⟨1, rfl, 10, 30, rfl, rfl, ⟨by decide, by decide, by decide⟩, _, _, rfl, rfl, sl_le (by decide), fun pe oe hpe hoe => ?_⟩
    have sH0 := same_new (o := .frz oe (.tup [])) hpe
    have eH0 : SqT K (upd H pe (.frz oe (.tup []))) pe [] := PT.sq (PT.new hoe)
    generalize upd H pe (.frz oe (.tup [])) = H0 at sH0 eH0 ⊢
    refine ⟨10, 40, rfl, rfl, ⟨by decide, by decide, by decide⟩, ok7, fun pm hpm => ?_⟩
    obtain ⟨menu, hmenu⟩ : ∃ menu, menu = [V.int (-1), .int (10 ^ (30 : Int).toNat + 1), .bl true, .non, .str (Str.ofString "3"), .ref pe, .int (10 ^ (40 : Int).toNat)] := ⟨_, rfl⟩
    have mn : ∀ x ∈ menu, ∃ d, OddV K H0 x d := fun x hx => by
      simp only [hmenu, List.mem_cons, List.not_mem_nil, or_false] at hx
      rcases hx with rfl | rfl | rfl | rfl | rfl | rfl | rfl
      · exact ⟨_, .inl ⟨_, rfl, rfl, by decide, Nat.lt_of_lt_of_le (by decide : (1 : Nat) < 2 ^ 1) (Nat.pow_le_pow_right (by decide) (by decide))⟩⟩
      · exact ⟨_, .inl ⟨_, rfl, rfl, by decide, Nat.lt_of_lt_of_le (by decide +kernel : 10 ^ 30 + 1 < 2 ^ 110) (Nat.pow_le_pow_right (by decide) (by decide))⟩⟩
      · exact ⟨_, .inr (.inl ⟨rfl, rfl⟩)⟩
      · exact ⟨_, .inr (.inr (.inl ⟨rfl, rfl⟩))⟩
      · exact ⟨_, .inr (.inr (.inr (.inl ⟨rfl, rfl⟩)))⟩
      · exact ⟨_, .inr (.inr (.inr (.inr ⟨_, rfl, rfl, eH0⟩)))⟩
      · exact ⟨_, .inl ⟨_, rfl, rfl, by decide, Nat.lt_of_lt_of_le (by decide +kernel : 10 ^ 40 < 2 ^ 150) (Nat.pow_le_pow_right (by decide) (by decide))⟩⟩
    have m0 : menu ≠ [] := by rw [hmenu]; exact List.cons_ne_nil _ _
    have m7 : menu.length ≤ 1000 := by rw [hmenu]; show 7 ≤ 1000; decide
    rw [show ([V.int (-1), .int (10 ^ (30 : Int).toNat + 1), .bl true, .non, .str (Str.ofString "3"), .ref pe, .int (10 ^ (40 : Int).toNat)] : List V) = menu from hmenu.symm]
    have sm := same_new (o := .tup menu) hpm
    have em : SqT K (upd H0 pm (.tup menu)) pm menu := .inl (.inl upd_same)
    generalize upd H0 pm (.tup menu) = Hm at sm em ⊢
    clear hmenu
    have jm : JugAt Hm j := hj.same (sH0.trans sm)
    refine ⟨_, rfl, j, _, rfl, jm, by decide, by decide, fun H1 t c1 j1 t0 t1 => ?_⟩
    refine ⟨_, rfl, j, _, rfl, j1, by decide, by decide, fun H2 r c2 j2 r0 r1 => ⟨_, _, rfl, rfl, ?_⟩⟩
    refine ⟨_, rfl, j, _, rfl, j2, by decide, by decide, fun H3 s c3 j3 s0 s1 => ?_⟩
    refine ⟨_, rfl, j, _, rfl, j3, by decide, by decide, fun H4 f c4 j4 f0 f1 => ⟨_, _, rfl, rfl, ok5, fun l hl => ?_⟩⟩
    have sl := same_new (o := .lst [V.int t, .int (1 + r), .int s, .int (5 + f), .int 3]) hl
    have el : upd H4 l (.lst [V.int t, .int (1 + r), .int s, .int (5 + f), .int 3]) l = some (.lst [V.int t, .int (1 + r), .int s, .int (5 + f), .int 3]) := upd_same
    have nlj : l ≠ j := j4.ne hl
    have jl := j4.same sl
    generalize upd H4 l (.lst [V.int t, .int (1 + r), .int s, .int (5 + f), .int 3]) = Hl at sl el jl ⊢
    refine ⟨_, rfl, j, _, rfl, jl, by decide, by decide, fun H5 b c5 j5 b0 b1 => ⟨_, _, rfl, ?_⟩⟩
    have c05 : Chg j H0 H5 := (((((Chg.of sm).trans c1).trans c2).trans c3).trans c4).trans ((Chg.of sl).trans c5)
    have cm5 : Chg j Hm H5 := (((c1.trans c2).trans c3).trans c4).trans ((Chg.of sl).trans c5)
    have el5 := c5 _ _ el nlj
    have em5 : SqT K H5 pm menu := SqT.imm (chg_imm cm5 jm) em
    have mn5 : ∀ x ∈ menu, ∃ d, OddV K H5 x d := fun x hx => (mn x hx).imp fun d o => o.imm (chg_imm c05 (hj.same sH0))
    have c5H : Chg j H H5 := (Chg.of sH0).trans c05
    clear mn em eH0 c05 cm5 sm sl el jl jm c1 c2 c3 c4 c5 j1 j2 j3 j4
    obtain ⟨B, rfl⟩ : ∃ B : Nat, b = (B : Int) := ⟨b.toNat, by omega⟩
    obtain ⟨SP, spe, sp0, sp1, sps⟩ := spots (b := B) (by omega)
    refine ⟨_, rfl, ok3, fun p1 hp1 => ⟨ok5, fun p2 hp2 => ⟨ok3, fun p3 hp3 => ⟨ok3, fun p4 hp4 => ⟨ok4, fun p5 hp5 => ⟨_, rfl, ?_⟩⟩⟩⟩⟩⟩
    have q1 := same_new (o := .tup [V.int 0, .int 1, .int 2]) hp1
    have e1 : SqT K (upd H5 p1 (.tup [V.int 0, .int 1, .int 2])) p1 ([0, 1, 2].map V.int) := .inl (.inl upd_same)
    generalize upd H5 p1 (.tup [V.int 0, .int 1, .int 2]) = G1 at q1 e1 hp2 hp3 hp4 hp5 ⊢
    have q2 := same_new (o := .tup [V.int 0, .int 1, .int 2, .int 3, .int 4]) hp2
    have e2 : SqT K (upd G1 p2 (.tup [V.int 0, .int 1, .int 2, .int 3, .int 4])) p2 ([0, 1, 2, 3, 4].map V.int) := .inl (.inl upd_same)
    generalize upd G1 p2 (.tup [V.int 0, .int 1, .int 2, .int 3, .int 4]) = G2 at q2 e2 hp3 hp4 hp5 ⊢
    have q3 := same_new (o := .tup [V.int 2, .int 3, .int 4]) hp3
    have e3 : SqT K (upd G2 p3 (.tup [V.int 2, .int 3, .int 4])) p3 ([2, 3, 4].map V.int) := .inl (.inl upd_same)
    generalize upd G2 p3 (.tup [V.int 2, .int 3, .int 4]) = G3 at q3 e3 hp4 hp5 ⊢
    have q4 := same_new (o := .tup [V.int 2, .int 3, .int 4]) hp4
    have e4 : SqT K (upd G3 p4 (.tup [V.int 2, .int 3, .int 4])) p4 ([2, 3, 4].map V.int) := .inl (.inl upd_same)
    generalize upd G3 p4 (.tup [V.int 2, .int 3, .int 4]) = G4 at q4 e4 hp5 ⊢
    have q5 := same_new (o := .tup [V.ref p1, .ref p2, .ref p3, .ref p4]) hp5
    have e5 : SqT K (upd G4 p5 (.tup [V.ref p1, .ref p2, .ref p3, .ref p4])) p5 [V.ref p1, .ref p2, .ref p3, .ref p4] := .inl (.inl upd_same)
    generalize upd G4 p5 (.tup [V.ref p1, .ref p2, .ref p3, .ref p4]) = G5 at q5 e5 ⊢
    obtain ⟨pp, hpp, epp⟩ : ∃ pp, atI [V.ref p1, .ref p2, .ref p3, .ref p4] (B : Int) = some (.ref pp) ∧ SqT K G5 pp (SP.map fun (i : Nat) => V.int (i : Int)) := by
      have b4 : B = 0 ∨ B = 1 ∨ B = 2 ∨ B = 3 := by omega
      rcases b4 with rfl | rfl | rfl | rfl
      all_goals obtain rfl := Option.some.inj spe
      · exact ⟨p1, rfl, SqT.imm (.of (q2.trans (q3.trans (q4.trans q5)))) e1⟩
      · exact ⟨p2, rfl, SqT.imm (.of (q3.trans (q4.trans q5))) e2⟩
      · exact ⟨p3, rfl, SqT.imm (.of (q4.trans q5)) e3⟩
      · exact ⟨p4, rfl, SqT.imm (.of q5) e4⟩
    refine ⟨_, _, _, _, rfl, rfl, e5, hpp, ?_⟩
    have g5 : Same H5 G5 := q1.trans (q2.trans (q3.trans (q4.trans q5)))
    clear q1 q2 q3 q4 q5 e1 e2 e3 e4 e5 hpp
    refine ⟨j, pp, _, rfl, j5.same g5, epp, by simpa using sp0, by simpa using sp1, fun H6 x c6 j6 hx => ?_⟩
    obtain ⟨i, hi, rfl⟩ : ∃ i : Nat, i ∈ SP ∧ V.int (i : Int) = x := by simpa using hx
    obtain ⟨i5, hb⟩ := sps i hi
    have c56 : Chg j H5 H6 := (Chg.of g5).trans c6
    have el6 := c56 _ _ el5 nlj
    have im6 := chg_imm c56 j5
    have em6 := SqT.imm im6 em5
    have mn6 : ∀ x ∈ menu, ∃ d, OddV K H6 x d := fun x hx => (mn5 x hx).imp fun d o => o.imm im6
    have c6H : Chg j H H6 := c5H.trans c56
    clear em5 mn5 el5 c56 im6 c5H g5 c6 epp j5
    refine ⟨_, rfl, l, _, rfl, .inl (.inl (.inl el6)), fun l2 hl2 => ?_⟩
    obtain ⟨L5, hL5⟩ : ∃ L5, L5 = [V.int t, .int (1 + r), .int s, .int (5 + f), .int 3] := ⟨_, rfl⟩
    rw [← hL5] at el6
    rw [show ([V.int t, .int (1 + r), .int s, .int (5 + f), .int 3] : List V) = L5 from hL5.symm]
    have ll5 : L5.length = 5 := by rw [hL5]; rfl
    have sl := same_new (o := .lst L5) hl2
    have e2 : upd H6 l2 (.lst L5) l2 = some (.lst L5) := upd_same
    have n2j : l2 ≠ j := j6.ne hl2
    have n2l : l2 ≠ l := fun z => by rw [z, el6] at hl2; cases hl2
    have j7 := j6.same sl
    have el7 := sl _ _ el6
    have em7 : SqT K _ pm menu := SqT.imm (.of sl) em6
    have mn7 : ∀ x ∈ menu, ∃ d, OddV K _ x d := fun x hx => (mn6 x hx).imp fun d o => o.imm (.of sl)
    have c7H : Chg j H _ := c6H.trans (.of sl)
    have hH2 : H l2 = none := none_chg c6H j6 hl2
    generalize upd H6 l2 (.lst L5) = H7 at sl e2 j7 el7 em7 mn7 c7H ⊢
    clear mn6 em6 el6 hl2 j6 c6H sl
    refine ⟨_, rfl, _, rfl, j, pm, menu, rfl, j7, em7, m0, m7, fun H8 x c8 j8 hx => ⟨_, _, rfl, ?_⟩⟩
    obtain ⟨d, ov7⟩ := mn7 x hx
    have im8 := chg_imm c8 j7
    have e28 := c8 _ _ e2 n2j
    have el8 := c8 _ _ el7 nlj
    have em8 := SqT.imm im8 em7
    have mn8 : ∀ x ∈ menu, ∃ d, OddV K H8 x d := fun x hx => (mn7 x hx).imp fun d o => o.imm im8
    have ov8 := ov7.imm im8
    have c8H : Chg j H H8 := c7H.trans c8
    clear mn7 em7 ov7 el7 e2 c7H c8 j7 im8
    refine ⟨_, rfl, _, rfl, _, rfl, l2, _, (i : Int), i, rfl, rfl, e28, by rw [ll5]; exact ixN5 i5, ?_⟩
    have l2l : l ≠ l2 := Ne.symm n2l
    have U1 : Chg j H (upd H8 l2 (.lst (L5.set i x))) := fun b o e nb => by
      have n : b ≠ l2 := fun z => by rw [z, hH2] at e; cases e
      rw [upd_ne n]
      exact c8H b o e nb
    have j9 : JugAt (upd H8 l2 (.lst (L5.set i x))) j := jug_upd n2j j8
    have e9 : upd H8 l2 (.lst (L5.set i x)) l2 = some (.lst (L5.set i x)) := upd_same
    have el9 : upd H8 l2 (.lst (L5.set i x)) l = some (.lst L5) := by rw [upd_ne l2l]; exact el8
    have im9 : Imm H8 (upd H8 l2 (.lst (L5.set i x))) := (Chg.upd (j := l2)).imm e28 trivial
    have ov9 := ov8.imm im9
    have em9 := SqT.imm im9 em8
    dsimp only
    generalize upd H8 l2 (.lst (L5.set i x)) = H9 at U1 j9 e9 el9 im9 ov9 em9 ⊢
    clear c8H j8 e28 el8 em8 ov8 mn8 im9
    refine seq_join (fun H' => Chg j H H' ∧ JugAt H' j ∧ H' l = some (.lst L5) ∧ (∃ L, H' l2 = some (.lst L) ∧ (L = L5.set i x ∨ (i < 4 ∧ ∃ u, L = (L5.set i x).set 4 u))) ∧ OddV K H' x d) (fun R hR => ?_) ?_
    · refine ⟨_, rfl, _, _, rfl, rfl, _, rfl, ?_⟩
      by_cases B0 : 0 < B
      · refine ifT (decide_eq_true (by omega)) ⟨_, rfl, _, _, rfl, rfl, _, rfl, ?_⟩
        by_cases i4 : i < 4
        · refine ifT (decide_eq_true (by omega)) ⟨_, rfl, j, _, rfl, j9, by decide, by decide, fun HA q cA jA q0 q1 => ⟨rfl, _, rfl, ?_⟩⟩
          have fin : ∀ c : Bool, decide (V.int q = V.int 0) = c → True := fun _ _ => trivial
          have elA := cA _ _ el9 nlj
          have eA := cA _ _ e9 n2j
          have imA := chg_imm cA j9
          by_cases q2 : q = 0
          · refine ifT (decide_eq_true (by rw [q2])) ⟨_, rfl, _, rfl, j, pm, menu, rfl, jA, SqT.imm imA em9, m0, m7, fun HB u cB jB hu => ?_⟩
            have eB := cB _ _ eA n2j
            have elB := cB _ _ elA nlj
            refine ⟨_, rfl, l2, _, 4, 4, rfl, rfl, eB, by rw [List.length_set, ll5]; rfl, hR _ ⟨?_, jug_upd n2j jB, by rw [upd_ne l2l]; exact elB, ⟨_, upd_same, .inr ⟨i4, u, rfl⟩⟩, (ov9.imm imA |>.imm (chg_imm cB jA)).imm ((Chg.upd (j := l2)).imm eB trivial)⟩⟩
            exact fun b o e nb => by
              have n : b ≠ l2 := fun z => by rw [z, hH2] at e; cases e
              rw [upd_ne n]
              exact (U1.trans (cA.trans cB)) b o e nb
          · refine ifF (decide_eq_false (by simpa using q2)) (hR _ ⟨U1.trans cA, jA, elA, ⟨_, eA, .inl rfl⟩, ov9.imm imA⟩)
        · exact ifF (decide_eq_false (by omega)) (hR _ ⟨U1, j9, el9, ⟨_, e9, .inl rfl⟩, ov9⟩)
      · exact ifF (decide_eq_false (by omega)) (hR _ ⟨U1, j9, el9, ⟨_, e9, .inl rfl⟩, ov9⟩)
    clear U1 j9 e9 el9 ov9 em9
    rintro HC ⟨cC, jC, elC, ⟨L, eC, hL⟩, ovC⟩
    have neF : ∀ z : Str, (!decide (V.str z = V.str z)) = false := fun z => by simp
    have fl : ∀ d1 d2 : PyData, Fit d1 20000 9 → Fit d2 20000 9 → ∀ d ∈ [d1, d2], Fit d 20000 9 := fun d1 d2 f1 f2 d hd => by
      simp only [List.mem_cons, List.not_mem_nil, or_false] at hd
      rcases hd with rfl | rfl
      · exact f1
      · exact f2
    have ft : Fit (.bool true) 20000 9 := fit_le (fit_bl true) (by decide) (by decide)
    have hL' := hL
    rw [hL5] at hL'
    refine ⟨_, rfl, _, rfl, asked (E := E0) (.inl (.inl eC)) (ask_bent hb ovC ⟨t0, t1⟩ (r := 1 + r) ⟨by omega, by omega⟩ ⟨s0, s1⟩ (f := 5 + f) ⟨by omega, by omega⟩ hL' fun HD p sD hp => ?_)⟩
    have ovD := ovC.imm (.of sD)
    unfold tNil
    dsimp only
    refine shows (.inl (.inl hp)) (.cons ovD.dp.1 (.cons (.bl true) .nil)) (fl _ _ ovD.dp.2 ft) (by show 2 ≤ 100; decide) ?_
    refine ⟨_, rfl, ok2, fun p' hp' => ?_⟩
    have sD' := same_new (o := .lst [x, .bl true]) hp'
    have ovE := ovD.imm (.of sD')
    refine shows (.inl (.inl upd_same)) (.cons ovE.dp.1 (.cons (.bl true) .nil)) (fl _ _ ovE.dp.2 ft) (by show 2 ≤ 100; decide) ⟨rfl, false, congrArg V.bl (neF _), iteF ?_⟩
    have sE : Same HC _ := sD.trans sD'
    generalize upd HD p' (.lst [x, .bl true]) = HE at sE ⊢
    clear ovD ovE sD sD' hp hp' ovC
    have elE := sE _ _ elC
    have cE : Chg j H HE := cC.trans (.of sE)
    have jE := jC.same sE
    clear elC eC cC jC
    have hLg : L5 = [V.int ((t.toNat : Nat) : Int), .int (((1 + r).toNat : Nat) : Int), .int ((s.toNat : Nat) : Int), .int (((5 + f).toNat : Nat) : Int), .int 3] := by
      rw [hL5, Int.toNat_of_nonneg t0, Int.toNat_of_nonneg (by omega), Int.toNat_of_nonneg s0, Int.toNat_of_nonneg (by omega)]
    rw [hLg] at elE
    refine ⟨_, rfl, _, rfl, asked (E := E0) (.inl (.inl elE)) (ask_good (by omega) (by omega) ⟨by omega, by omega⟩ (by omega) ⟨by omega, by omega⟩ fun HF sF => ⟨false, congrArg V.bl (by simp), iteF ?_⟩)⟩
    have cF : Chg j H HF := cE.trans (.of sF)
    have jF := jE.same sF
    clear cE jE elE sE
    have fi : ∀ z : Int, 0 ≤ z → z ≤ 2000 → Fit (.int z) 20000 9 := fun z h1 h2 => fit_le (fit_big (small1900 (by omega) (by omega))) (by decide) (by decide)
    refine ⟨_, rfl, j, _, rfl, jF, by decide, by decide, fun HG a cG jG a0 a1 => ⟨ok5, fun l3 hl3 => asked (E := E0) (.inl (.inl upd_same)) (ask_zero ⟨a0, a1⟩ fun HI p sI hp => ?_)⟩⟩
    have sl3 := same_new (o := .lst [V.int 2, .int 0, .int 3, .int 3, .int 0]) hl3
    dsimp only
    refine shows (.inl (.inl hp)) (.cons (.int 0) (.cons (.bl true) .nil)) (fl _ _ (fi 0 (by decide) (by decide)) ft) (by show 2 ≤ 100; decide) ⟨ok2, fun p' hp' => ?_⟩
    refine shows (.inl (.inl upd_same)) (.cons (.int 0) (.cons (.bl true) .nil)) (fl _ _ (fi 0 (by decide) (by decide)) ft) (by show 2 ≤ 100; decide) ⟨rfl, false, congrArg V.bl (neF _), iteF ?_⟩
    have sJ : Same HG _ := sl3.trans (sI.trans (same_new (o := .lst [V.int 0, .bl true]) hp'))
    generalize upd HI p' (.lst [V.int 0, .bl true]) = HJ at sJ ⊢
    have cJ : Chg j H HJ := (cF.trans cG).trans (.of sJ)
    have jJ := jG.same sJ
    clear sl3 sI hp hp' hl3 sJ jG cG cF jF
    refine ⟨_, rfl, j, _, rfl, jJ, by decide, by decide, fun HK a2 cK jK a20 a21 => ⟨_, _, rfl, rfl, 1, rfl, ok5, fun l4 hl4 => asked (E := E0) (.inl (.inl upd_same)) (ask_slow ⟨by omega, by omega⟩ fun HL p sL hp => ?_)⟩⟩
    have sl4 := same_new (o := .lst [V.int 2, .int 1, .int 6, .int 5, .int (-1)]) hl4
    dsimp only
    refine shows (.inl (.inl hp)) (.cons (.int 5) (.cons (.bl true) .nil)) (fl _ _ (fi 5 (by decide) (by decide)) ft) (by show 2 ≤ 100; decide) ⟨ok2, fun p' hp' => ?_⟩
    refine shows (.inl (.inl upd_same)) (.cons (.int 5) (.cons (.bl true) .nil)) (fl _ _ (fi 5 (by decide) (by decide)) ft) (by show 2 ≤ 100; decide) ⟨rfl, false, congrArg V.bl (neF _), iteF ?_⟩
    have sM : Same HK _ := sl4.trans (sL.trans (same_new (o := .lst [V.int 5, .bl true]) hp'))
    generalize upd HL p' (.lst [V.int 5, .bl true]) = HM at sM ⊢
    have cM : Chg j H HM := (cJ.trans cK).trans (.of sM)
    have jM := jK.same sM
    clear sl4 sL hp hp' hl4 sM jK cK cJ jJ
    refine ⟨_, rfl, ok5, fun q1 hq1 => ⟨ok5, fun q2 hq2 => ⟨ok5, fun q3 hq3 => ⟨ok3, fun q4 hq4 => ?_⟩⟩⟩⟩
    have w1 := same_new (o := .lst [V.int 0, .int 1, .int 1001, .int 1002, .int 0]) hq1
    have e1 : upd HM q1 (.lst [V.int 0, .int 1, .int 1001, .int 1002, .int 0]) q1 = some (.lst ([0, 1, 1001, 1002, 0].map V.int)) := upd_same
    have z1 : q1 ≠ j := jM.ne hq1
    have j1 := jM.same w1
    generalize upd HM q1 (.lst [V.int 0, .int 1, .int 1001, .int 1002, .int 0]) = M1 at w1 e1 j1 hq2 hq3 hq4 ⊢
    have w2 := same_new (o := .lst [V.int 0, .int 1, .int 3, .int 1001, .int 2000]) hq2
    have e2 : upd M1 q2 (.lst [V.int 0, .int 1, .int 3, .int 1001, .int 2000]) q2 = some (.lst ([0, 1, 3, 1001, 2000].map V.int)) := upd_same
    have z2 : q2 ≠ j := j1.ne hq2
    have j2 := j1.same w2
    generalize upd M1 q2 (.lst [V.int 0, .int 1, .int 3, .int 1001, .int 2000]) = M2 at w2 e2 j2 hq3 hq4 ⊢
    have w3 := same_new (o := .lst [V.int 0, .int 1, .int 3, .int 4, .int 1001]) hq3
    have e3 : upd M2 q3 (.lst [V.int 0, .int 1, .int 3, .int 4, .int 1001]) q3 = some (.lst ([0, 1, 3, 4, 1001].map V.int)) := upd_same
    have z3 : q3 ≠ j := j2.ne hq3
    have j3 := j2.same w3
    generalize upd M2 q3 (.lst [V.int 0, .int 1, .int 3, .int 4, .int 1001]) = M3 at w3 e3 j3 hq4 ⊢
    have w4 := same_new (o := .tup [V.ref q1, .ref q2, .ref q3]) hq4
    have e4 : SqT K (upd M3 q4 (.tup [V.ref q1, .ref q2, .ref q3])) q4 [V.ref q1, .ref q2, .ref q3] := .inl (.inl upd_same)
    have j4 := j3.same w4
    generalize upd M3 q4 (.tup [V.ref q1, .ref q2, .ref q3]) = M4 at w4 e4 j4 ⊢
    refine ⟨j, q4, _, rfl, j4, e4, List.cons_ne_nil _ _, by show 3 ≤ 1000; decide, fun HN y cN jN hy => ?_⟩
    obtain ⟨LB, qb, hLb, rfl, eL⟩ : ∃ L q, L ∈ bigs ∧ y = V.ref q ∧ HN q = some (.lst (L.map V.int)) := by
      simp only [List.mem_cons, List.not_mem_nil, or_false] at hy
      rcases hy with rfl | rfl | rfl
      · exact ⟨_, q1, .head _, rfl, cN _ _ (w4 _ _ (w3 _ _ (w2 _ _ e1))) z1⟩
      · exact ⟨_, q2, .tail _ (.head _), rfl, cN _ _ (w4 _ _ (w3 _ _ e2)) z2⟩
      · exact ⟨_, q3, .tail _ (.tail _ (.head _)), rfl, cN _ _ (w4 _ _ e3) z3⟩
    have cNH : Chg j H HN := (cM.trans (.of (w1.trans (w2.trans (w3.trans w4))))).trans cN
    clear hy cN w1 w2 w3 w4 e1 e2 e3 e4 j1 j2 j3 j4 cM jM
    obtain ⟨bz, br, hbr⟩ := big_due hLb
    unfold gName tSeq tAsg tOp
    dsimp only
    refine lcI (gs := LB) (fun z => decide (1000 < z)) (fun R hR => ⟨_, rfl, hR qb HN (fun _ _ h => h) eL⟩) bz (of_decide_eq_true rfl) (fun z H' R sm hR => ⟨_, rfl, _, _, rfl, rfl, _, rfl, hR⟩) (fun HO D sO hD eD => ?_)
    rw [hbr] at eD
    refine ⟨D, _, 0, _, rfl, rfl, .inl (.inl eD), at_first, ?_⟩
    refine ⟨_, rfl, asked (E := E0) (.inl (.inl (sO _ _ eL))) (ask_big hLb fun HP p sP hp => ?_)⟩
    refine shows (.inl (.inl hp)) (.cons (.int 1001) (.cons (.bl true) .nil)) (fl _ _ (fi 1001 (by decide) (by decide)) ft) (by show 2 ≤ 100; decide) ⟨_, rfl, ok2, fun p' hp' => ?_⟩
    have sp' := same_new (o := .lst [V.int 1001, .bl true]) hp'
    refine shows (.inl (.inl upd_same)) (.cons (.int 1001) (.cons (.bl true) .nil)) (fl _ _ (fi 1001 (by decide) (by decide)) ft) (by show 2 ≤ 100; decide) ⟨rfl, true, congrArg V.bl (decide_eq_true rfl), iteT ?_⟩
    have sZ : Same HN _ := sO.trans (sP.trans sp')
    refine ⟨_, rfl, asked (E := E0) (.inl (.inl (sZ _ _ eL))) (ask_bigA hLb ?_)⟩
    dsimp only
    rw [decide_eq_true rfl]
    exact k _ (cNH.trans (.of sZ)) (jN.same sZ)
end
end K1
namespace K1
open PySem PySem.Spec L2 Z K5
section
variable {P : Program} {w : World} {K : PySem.W.Frag} {mg : Str → Option Value} {base : Heap} {C CA : Addr}
theorem ok_law_stop (T : Txt K mg C CA)  : Pr P w K mg base "_law_stop" s_law_stop 1 ["_law_tail_here", "_law_round_here", "_law_paces"] q_stop := by
  obtain ⟨f, fd, F, gl, bd⟩ := T.d__law_stop
  refine ⟨f, fd, F, gl, bd, F.ok sc_law_stop (fun vs H Q E h => ?_) (fun cdv A outer s H vs Q E hr h => ?_)⟩
  · obtain ⟨t, r, s, rfl, _⟩ := h
    rfl
  · obtain ⟨t, r, s, rfl, hr1, k⟩ := h
    have hu := hu_of hr
    refine ⟨_, (pss_one (ps_ret (pe_ifExp (pt_cmpR op_lt (pv 2) (pv 0) (nomark _)) (pv 2) (pe_op op_add (pv 0) (pe_op op_modN (pe_callTy call_int1 (by rfl) T.b_int (by decide +kernel) (pa_cons (pe_op op_sub (pv 2) (pv 0)) pa_nil)) (pv 1)))))), ?_⟩
    refine ⟨_, rfl, _, rfl, _, _, rfl, rfl, _, rfl, ?_⟩
    unfold stopI at k
    by_cases c : s < t
    · rw [if_pos c] at k
      exact ifT (decide_eq_true c) ⟨_, rfl, k⟩
    · rw [if_neg c] at k
      refine ifF (decide_eq_false c) ⟨_, rfl, _, rfl, _, rfl, _, _, rfl, rfl, .inl ⟨_, rfl, _, rfl, _, _, rfl, rfl, by show r ≠ 0; omega, _, _, rfl, rfl, ?_⟩⟩
      rw [fmod_pos (by omega)]
      exact k
end
end K1
namespace K1
open PySem PySem.Spec L2 Z K5
section
variable {P : Program} {w : World} {K : PySem.W.Frag} {mg : Str → Option Value} {base : Heap} {C CA : Addr}
theorem ok_law_first_meeting (T : Txt K mg C CA) (G__law_stop : Pr P w K mg base "_law_stop" s_law_stop 1 ["_law_tail_here", "_law_round_here", "_law_paces"] q_stop) : Pr P w K mg base "_law_first_meeting" s_law_first_meeting 2 ["_law_tail_here", "_law_round_here", "_law_calm", "_law_quick", "_law_gap"] q_first_meeting := by
  obtain ⟨f, fd, F, gl, bd⟩ := T.d__law_first_meeting
  refine ⟨f, fd, F, gl, bd, F.ok sc_law_first_meeting (fun vs H Q E h => ?_) (fun cdv A outer s H vs Q E hr h => ?_)⟩
  · obtain ⟨t, r, s, f, l, rfl, _⟩ := h
    rfl
  · obtain ⟨t, r, s, f, l, rfl, t0, t1, r0, r1, s0, f0, f1, l0, l1, k⟩ := h
    have hu := hu_of hr
    refine ⟨_, (pss_cons (ps_for PassesOwn.never rfl (pi_range2 rfl T.b_range (pa_cons pe_int (pa_cons (pe_op op_add (pe_op op_add (pv 0) (pe_op op_mul pe_int (pv 1))) pe_int) pa_nil))) (pg_name (i := 5) sc_law_first_meeting.nd rfl (Or.inl rfl))
      (pss_one (ps_if (pt_cmpR op_eq (pcall G__law_stop (hr.mono (by decide)) (pa_cons (pv 0) (pa_cons (pv 1) (pa_cons (pe_op op_mul (pv 2) (pv 5)) pa_nil)))) (pcall G__law_stop (hr.mono (by decide)) (pa_cons (pv 0) (pa_cons (pv 1) (pa_cons (pe_op op_add (pv 4) (pe_op op_mul (pv 3) (pv 5))) pa_nil)))) (nomark _)) (pss_one (ps_ret (pv 5))) pss_nil)))
      (pss_one (ps_ret pe_non))), ?_⟩
    refine ⟨_, rfl, _, rfl, _, _, rfl, rfl, .inl ⟨by decide, by decide⟩, _, _, rfl, rfl, _, _, rfl, rfl, ?_⟩
    obtain ⟨n, hn⟩ : ∃ n : Nat, (n : Int) = t + 2 * r + 2 := ⟨(t + 2 * r + 2).toNat, by omega⟩
    refine ⟨_, _, rfl, ⟨by omega, by omega, by omega, by omega⟩, ?_⟩
    rw [show (t + 2 * r + 3 - 1).toNat = n by omega]
    refine for_range (lo := 1) (n := n) (fun i σ H' => H' = H ∧ ∃ x5, σ = [some (.int t), some (.int r), some (.int s), some (.int f), some (.int l), x5] ∧ ∀ v : Int, v < 1 + (i : Int) → ¬ Meets t r s f l v) ⟨rfl, _, rfl, fun v hv m => by have := m.1; omega⟩ ?_ ?_
    · rintro i σ H2 hi ⟨rfl, x5, rfl, pi⟩
      have small : ∀ z : Int, 0 ≤ z → z ≤ 20 → -(18446744073709551616 : Int) < z ∧ z < 18446744073709551616 := fun z _ _ => ⟨by omega, by omega⟩
      refine ⟨_, rfl, _, rfl, _, rfl, _, rfl, _, _, rfl, rfl, .inl ⟨by omega, by omega⟩, t, r, s * (1 + (i : Int)), rfl, r0, ?_⟩
      refine ⟨_, rfl, _, rfl, _, rfl, _, rfl, _, rfl, _, _, rfl, rfl, .inl ⟨by omega, by omega⟩, _, _, rfl, rfl, t, r, l + f * (1 + (i : Int)), rfl, r0, ?_⟩
      refine ⟨rfl, _, rfl, ?_⟩
      rw [eqII]
      by_cases c : stopI t r (s * (1 + (i : Int))) = stopI t r (l + f * (1 + (i : Int)))
      · refine ifT (decide_eq_true c) ⟨_, rfl, ?_⟩
        exact k (some (1 + (i : Int))) ⟨fun z => (by cases z), fun n z => by
          cases z
          exact ⟨⟨by omega, c⟩, fun k hk => pi k hk⟩⟩
      · refine ifF (decide_eq_false c) ⟨rfl, _, rfl, fun v hv => ?_⟩
        by_cases e : v < 1 + (i : Int)
        · exact pi v e
        · obtain rfl : v = 1 + (i : Int) := by omega
          exact fun m => c m.2
    · rintro σ H2 ⟨rfl, x5, rfl, pi⟩
      refine k none ⟨fun _ v m => ?_, fun n z => by cases z⟩
      -- were there a turn, the least one would be within the range
      have h0 := least_ex _ v rfl m
      obtain ⟨o, ho⟩ := h0
      have early := least_early r0 t0 s0 f0 l0 ho
      exact pi o (by omega) (ho.2 o rfl).1
end
end K1
namespace K1
open PySem PySem.Spec L2 Z K5
section
variable {P : Program} {w : World} {K : PySem.W.Frag} {mg : Str → Option Value} {base : Heap} {C CA : Addr}
theorem ok_law_is_small_right (T : Txt K mg C CA) (G__law_first_meeting : Pr P w K mg base "_law_first_meeting" s_law_first_meeting 2 ["_law_tail_here", "_law_round_here", "_law_calm", "_law_quick", "_law_gap"] q_first_meeting) (G__law_take : Pr P w K mg base "_law_take" s_law_take 1 ["_law_well_here", "_law_limit"] q_law_take) (G_meet : PrX P w K mg base "meet" s_meet 5 ["tail", "ring", "slow", "fast", "lead"] (q_meet K C)) (G_stop_at : PrX P w K mg base "stop_at" s_stop_at 5 ["tail", "ring", "steps"] (q_stop_at K C)) : PrG P w K mg base "_law_is_small_right" s_law_is_small_right 6 ["_law_well_here"] q_turn := by
  obtain ⟨f, fd, F, gl, bd⟩ := T.d__law_is_small_right
  refine ⟨f, fd, F, gl, bd, okG F sc_law_is_small_right (fun vs H Q E h => ?_) (fun cdv A outer s H vs Q E hr hgd h => ?_)⟩
  · obtain ⟨j, rfl, _⟩ := h
    rfl
  · obtain ⟨j, rfl, hj, k⟩ := h
    have hu := hu_of hr
    refine ⟨_, (pss_cons (ps_par3 (i := 1) (j := 2) (l := 3) rfl sc_law_is_small_right.nd rfl rfl rfl (by decide) (by decide) (by decide) rfl rfl rfl (pa_cons (pcall G__law_take (hr.mono (by decide)) (pa_cons (pv 0) (pa_cons pe_int pa_nil))) (pa_cons (pe_op op_add pe_int (pcall G__law_take (hr.mono (by decide)) (pa_cons (pv 0) (pa_cons pe_int pa_nil)))) (pa_cons (pcall G__law_take (hr.mono (by decide)) (pa_cons (pv 0) (pa_cons pe_int pa_nil))) pa_nil))) (by rfl))
      (pss_cons (ps_par3 (i := 4) (j := 5) (l := 6) rfl sc_law_is_small_right.nd rfl rfl rfl (by decide) (by decide) (by decide) rfl rfl rfl (pa_cons (pe_op op_add (pv 3) (pcall G__law_take (hr.mono (by decide)) (pa_cons (pv 0) (pa_cons pe_int pa_nil)))) (pa_cons (pcall G__law_take (hr.mono (by decide)) (pa_cons (pv 0) (pa_cons pe_int pa_nil))) (pa_cons (pcall G__law_take (hr.mono (by decide)) (pa_cons (pv 0) (pa_cons pe_int pa_nil))) pa_nil))) (by rfl))
      (pss_cons (ps_set (i := 7) sc_law_is_small_right.nd rfl (Or.inl rfl) pe_int)
      (pss_cons (ps_for PassesOwn.never rfl (pi_range1 rfl T.b_range (pa_cons (pv 6) pa_nil)) (pg_name (i := 8) sc_law_is_small_right.nd rfl (Or.inl rfl))
      (pss_one (ps_set (i := 7) sc_law_is_small_right.nd rfl (Or.inl rfl) (pe_ifExp (pt_cmpR op_lt (pe_op op_add (pv 7) pe_int) (pe_op op_add (pv 1) (pv 2)) (nomark _)) (pe_op op_add (pv 7) pe_int) (pv 1)))))
      (pss_cons (ps_if (pt_cmpR op_ne (pe_callB (call_show hgd hr.units) (by rfl) T.b_repr (by decide +kernel) (pa_cons (pe_lst (pa_cons (pcallX E0 G_stop_at (hr.mono (by decide)) passL (pa_cons (pv 1) (pa_cons (pv 2) (pa_cons (pv 6) pa_nil)))) (pa_cons (pcallXN0 E0 G_stop_at (hr.mono (by decide)) passL kb_stop_at (pk_cons (pv 1) (pk_cons (pv 2) (pk_cons (pv 6) pk_nil)))) pa_nil))) pa_nil)) (pe_callB (call_show hgd hr.units) (by rfl) T.b_repr (by decide +kernel) (pa_cons (pe_lst (pa_cons (pv 7) (pa_cons (pv 7) pa_nil))) pa_nil)) (nomark _)) (pss_one (ps_ret pe_bl)) pss_nil)
      (pss_cons (ps_set (i := 9) sc_law_is_small_right.nd rfl (Or.inl rfl) (pcall G__law_first_meeting (hr.mono (by decide)) (pa_cons (pv 1) (pa_cons (pv 2) (pa_cons (pv 3) (pa_cons (pv 4) (pa_cons (pv 5) pa_nil)))))))
      (pss_cons (ps_set (i := 10) sc_law_is_small_right.nd rfl (Or.inl rfl) (pe_lst (pa_cons (pcallX E0 G_meet (hr.mono (by decide)) passL (pa_cons (pv 1) (pa_cons (pv 2) (pa_cons (pv 3) (pa_cons (pv 4) (pa_cons (pv 5) pa_nil)))))) (pa_cons (pcallXN0 E0 G_meet (hr.mono (by decide)) passL kb_meet (pk_cons (pv 1) (pk_cons (pv 2) (pk_cons (pv 3) (pk_cons (pv 4) (pk_cons (pv 5) pk_nil)))))) pa_nil))))
      (pss_one (ps_ret (pe_cmpR op_eq (pe_callB (call_show hgd hr.units) (by rfl) T.b_repr (by decide +kernel) (pa_cons (pv 10) pa_nil)) (pe_callB (call_show hgd hr.units) (by rfl) T.b_repr (by decide +kernel) (pa_cons (pe_lst (pa_cons (pv 9) (pa_cons (pv 9) pa_nil))) pa_nil)) (nomark _))))))))))), ?_⟩
    refine ⟨_, rfl, j, _, rfl, hj, by decide, by decide, fun H1 t c1 j1 t0 t1 => ?_⟩
    refine ⟨_, rfl, j, _, rfl, j1, by decide, by decide, fun H2 r c2 j2 r0 r1 => ⟨_, _, rfl, rfl, ?_⟩⟩
    refine ⟨_, rfl, j, _, rfl, j2, by decide, by decide, fun H3 s c3 j3 s0 s1 => ⟨_, _, _, rfl, ?_⟩⟩
    refine ⟨_, rfl, _, rfl, j, _, rfl, j3, by decide, by decide, fun H4 a c4 j4 a0 a1 => ⟨_, _, rfl, rfl, ?_⟩⟩
    refine ⟨_, rfl, j, _, rfl, j4, by decide, by decide, fun H5 l c5 j5 l0 l1 => ?_⟩
    refine ⟨_, rfl, j, _, rfl, j5, by decide, by decide, fun H6 n c6 j6 n0 n1 => ⟨_, _, _, rfl, ?_⟩⟩
    have c16 := (((((c1.trans c2).trans c3).trans c4).trans c5).trans c6)
    obtain ⟨R, hR⟩ : ∃ R, 1 + r = R := ⟨_, rfl⟩
    obtain ⟨f, hf⟩ : ∃ f, s + a = f := ⟨_, rfl⟩
    dsimp only
    rw [hR, hf]
    obtain ⟨N, rfl⟩ : ∃ N : Nat, n = (N : Int) := ⟨n.toNat, by omega⟩
    refine ⟨_, rfl, (N : Int), rfl, by omega, by omega, ?_⟩
    rw [show (N : Int).toNat = N by omega]
    refine for_range (lo := 0) (n := N) (fun i σ H' => H' = H6 ∧ ∃ x8, σ = [some (.ref j), some (.int t), some (.int R), some (.int s), some (.int f), some (.int l), some (.int (N : Int)), some (.int (stopI t R (i : Int))), x8, none, none]) ⟨rfl, none, by rw [show ((0 : Nat) : Int) = 0 from rfl, stop_zero (by omega) (by omega)]; rfl⟩ ?_ ?_
    · rintro i σ H' hi ⟨rfl, x8, rfl⟩
      refine ⟨_, rfl, _, _, rfl, rfl, _, rfl, _, rfl, _, _, rfl, rfl, _, _, rfl, rfl, _, rfl, ?_⟩
      have e := stop_succ (t := t) (r := R) (k := (i : Int)) (by omega) (by omega) (by omega)
      by_cases c : stopI t R (i : Int) + 1 < t + R
      · rw [if_pos c] at e
        exact ifT (decide_eq_true c) ⟨_, rfl, _, _, rfl, rfl, rfl, some (.int (0 + (i : Int))), by rw [show ((i + 1 : Nat) : Int) = (i : Int) + 1 by omega, e]; rfl⟩
      · rw [if_neg c] at e
        exact ifF (decide_eq_false c) ⟨_, rfl, rfl, some (.int (0 + (i : Int))), by rw [show ((i + 1 : Nat) : Int) = (i : Int) + 1 by omega, e]; rfl⟩
    rintro σ H' ⟨rfl, x8, rfl⟩
    obtain ⟨S, hS⟩ : ∃ S, stopI t R (N : Int) = S := ⟨_, rfl⟩
    have S0 : 0 ≤ S ∧ S ≤ 100 := by
      rw [← hS]
      unfold stopI
      have e0 := Int.emod_nonneg ((N : Int) - t) (show R ≠ 0 by omega)
      have e1 := Int.emod_lt_of_pos ((N : Int) - t) (show 0 < R by omega)
      split <;> omega
    rw [hS]
    have ask : ∀ {Q' : VK} {H' : Hp}, Q' (.int S) H' → q_stop_at K C [.int t, .int R, .int (N : Int)] H' Q' E0 := fun h =>
      ⟨_, _, _, rfl, need_ok rfl rfl (by omega) (by omega) (by omega) (by omega) (.inr ⟨_, _, _, rfl, rfl, rfl, by omega, by omega, by rw [hS]; exact h⟩)⟩
    have ok2 : (2 : Nat) ≤ sizeLine := sl_le (by decide)
    have FS : ∀ d ∈ [PyData.int S, PyData.int S], Fit d 20000 9 := fun d hd => by
      have F := fit_le (fit_big (i := S) (small1900 (by omega) (by omega))) (show 2000 ≤ 20000 by decide) (show 0 ≤ 9 by decide)
      simp only [List.mem_cons, List.not_mem_nil, or_false, or_self] at hd
      rw [hd]; exact F
    refine ⟨_, rfl, _, rfl, _, rfl, ?_⟩
    unfold tNil tCalX
    dsimp only
    refine ask ?_
    refine ⟨_, rfl, _, rfl, _, rfl, rfl, ?_⟩
    dsimp only [List.nil_append]
    refine ask ?_
    refine ⟨ok2, fun p hp => ?_⟩
    have sp := same_new (o := .lst [V.int S, V.int S]) hp
    refine shows (.inl (.inl upd_same)) (.cons (.int S) (.cons (.int S) .nil)) FS (by show 2 ≤ 100; decide) ?_
    refine ⟨_, rfl, _, rfl, ok2, fun p2 hp2 => ?_⟩
    have sp2 := same_new (o := .lst [V.int S, V.int S]) hp2
    refine shows (.inl (.inl upd_same)) (.cons (.int S) (.cons (.int S) .nil)) FS (by show 2 ≤ 100; decide) ⟨rfl, _, rfl, ifF (by simp) ?_⟩
    have sB := sp.trans sp2
    generalize upd (upd H' p (.lst [V.int S, V.int S])) p2 (.lst [V.int S, V.int S]) = HB at sB ⊢
    refine ⟨_, rfl, _, rfl, _, rfl, _, rfl, _, rfl, t, R, s, f, l, rfl, by omega, by omega, by omega, by omega, by omega, by omega, by omega, by omega, by omega, fun o ho => ?_⟩
    have ob : ∀ n, o = some n → n.natAbs < 2 ^ 1900 := fun n e => by
      subst e
      have h1 := least_early (show 1 ≤ R by omega) (show 0 ≤ t by omega) s0 (show s ≤ f by omega) l0 ho
      have h2 := (ho.2 n rfl).1.1
      exact small1900 (by omega) (by omega)
    have FO : ∀ d ∈ [optD o, optD o], Fit d 20000 9 := fun d hd => by
      simp only [List.mem_cons, List.not_mem_nil, or_false, or_self] at hd
      rw [hd]
      cases o with
      | none => exact fit_le fit_non (by decide) (by decide)
      | some n => exact fit_le (fit_big (ob n rfl)) (by decide) (by decide)
    have askm : ∀ {Q' : VK} {H' : Hp}, (∀ H'', Same H' H'' → Q' (optV o) H'') → q_meet K C [.int t, .int R, .int s, .int f, .int l] H' Q' E0 := fun h =>
      ⟨_, _, _, _, _, rfl, need_ok rfl rfl (by omega) (by omega) (by omega) (by omega) (walk_ok (by omega) (by omega) (by omega) (by omega) (by omega) ⟨_, _, _, _, _, rfl, rfl, rfl, rfl, rfl, fun o' H'' sm ho' => by
        rw [ho'.uniq ho]
        exact h H'' sm⟩)⟩
    refine ⟨_, rfl, _, rfl, _, rfl, _, rfl, _, rfl, askm fun HC sC => ⟨_, rfl, _, rfl, _, rfl, _, rfl, _, rfl, rfl, askm fun HD sD => ⟨ok2, fun p3 hp3 => ?_⟩⟩⟩
    have s3 := same_new (o := .lst [optV o, optV o]) hp3
    have k3 : upd HD p3 (.lst [optV o, optV o]) p3 = some (.lst [optV o, optV o]) := upd_same
    generalize upd HD p3 (.lst [optV o, optV o]) = HE at s3 k3 ⊢
    refine ⟨_, rfl, shows (.inl (.inl k3)) (.cons (dp_opt o) (.cons (dp_opt o) .nil)) FO (by show 2 ≤ 100; decide) ⟨_, rfl, _, rfl, ok2, fun p4 hp4 => ?_⟩⟩
    have s4 := same_new (o := .lst [optV o, optV o]) hp4
    refine shows (.inl (.inl upd_same)) (.cons (dp_opt o) (.cons (dp_opt o) .nil)) FO (by show 2 ≤ 100; decide) ⟨rfl, ?_⟩
    rw [decide_eq_true rfl]
    have all : Same H' (upd HE p4 (.lst [optV o, optV o])) := (((sB.trans sC).trans sD).trans s3).trans s4
    exact k _ (c16.trans (Chg.of all)) (j6.same all)
end
end K1
namespace K1
open PySem PySem.Spec L2 Z K5
section
variable {P : Program} {w : World} {K : PySem.W.Frag} {mg : Str → Option Value} {base : Heap} {C CA : Addr}
theorem ok_law_is_missed_right (T : Txt K mg C CA) (G__law_take : Pr P w K mg base "_law_take" s_law_take 1 ["_law_well_here", "_law_limit"] q_law_take) (G_missed_track : PrX P w K mg base "missed_track" s_missed_track 5 ["slow", "fast", "lead"] (q_missed_track K C)) (G_meets_always : PrX P w K mg base "meets_always" s_meets_always 5 ["slow", "fast", "lead"] (q_meets_always K C)) (G__law_first_meeting : Pr P w K mg base "_law_first_meeting" s_law_first_meeting 2 ["_law_tail_here", "_law_round_here", "_law_calm", "_law_quick", "_law_gap"] q_first_meeting) : PrG P w K mg base "_law_is_missed_right" s_law_is_missed_right 6 ["_law_well_here"] q_turn := by
  obtain ⟨f, fd, F, gl, bd⟩ := T.d__law_is_missed_right
  refine ⟨f, fd, F, gl, bd, okG F sc_law_is_missed_right (fun vs H Q E h => ?_) (fun cdv A outer s H vs Q E hr hgd h => ?_)⟩
  · obtain ⟨j, rfl, _⟩ := h
    rfl
  · obtain ⟨j, rfl, hj, k⟩ := h
    have hu := hu_of hr
    refine ⟨_, (pss_cons (ps_par (i := 1) (j := 2) rfl sc_law_is_missed_right.nd rfl rfl (by decide) rfl rfl (pa_cons (pcall G__law_take (hr.mono (by decide)) (pa_cons (pv 0) (pa_cons pe_int pa_nil))) (pa_cons (pcall G__law_take (hr.mono (by decide)) (pa_cons (pv 0) (pa_cons pe_int pa_nil))) pa_nil)) (by rfl))
      (pss_cons (ps_par (i := 3) (j := 4) rfl sc_law_is_missed_right.nd rfl rfl (by decide) rfl rfl (pa_cons (pe_op op_add (pv 1) (pcall G__law_take (hr.mono (by decide)) (pa_cons (pv 0) (pa_cons pe_int pa_nil)))) (pa_cons pe_non pa_nil)) (by rfl))
      (pss_cons (ps_for PassesOwn.never rfl (pi_range2 rfl T.b_range (pa_cons pe_int (pa_cons pe_int pa_nil))) (pg_name (i := 5) sc_law_is_missed_right.nd rfl (Or.inl rfl))
      (pss_one (ps_for PassesOwn.never rfl (pi_range1 rfl T.b_range (pa_cons (pv 5) pa_nil)) (pg_name (i := 6) sc_law_is_missed_right.nd rfl (Or.inl rfl))
      (pss_one (ps_if (PW.pt (pw_and (pt_cmp (pc_isN (pv 4)) rfl) (pw_and1 (pt_cmp (pc_isN (pcall G__law_first_meeting (hr.mono (by decide)) (pa_cons (pv 6) (pa_cons (pe_op op_sub (pv 5) (pv 6)) (pa_cons (pv 1) (pa_cons (pv 3) (pa_cons (pv 2) pa_nil))))))) rfl)))) (pss_one (ps_set (i := 4) sc_law_is_missed_right.nd rfl (Or.inl rfl) (pe_tup (pa_cons (pv 6) (pa_cons (pe_op op_sub (pv 5) (pv 6)) pa_nil))))) pss_nil)))))
      (pss_cons (ps_set (i := 7) sc_law_is_missed_right.nd rfl (Or.inl rfl) (pe_lst (pa_cons (pcallX E0 G_missed_track (hr.mono (by decide)) passL (pa_cons (pv 1) (pa_cons (pv 3) (pa_cons (pv 2) pa_nil)))) (pa_cons (pcallXN0 E0 G_missed_track (hr.mono (by decide)) passL kb_missed_track (pk_cons (pv 1) (pk_cons (pv 3) (pk_cons (pv 2) pk_nil)))) pa_nil))))
      (pss_cons (ps_set (i := 8) sc_law_is_missed_right.nd rfl (Or.inl rfl) (pe_lst (pa_cons (pcallX E0 G_meets_always (hr.mono (by decide)) passL (pa_cons (pv 1) (pa_cons (pv 3) (pa_cons (pv 2) pa_nil)))) (pa_cons (pcallXN0 E0 G_meets_always (hr.mono (by decide)) passL kb_meets_always (pk_cons (pv 1) (pk_cons (pv 3) (pk_cons (pv 2) pk_nil)))) pa_nil))))
      (pss_one (ps_ret (pe_and (pe_cmpR op_eq (pe_callB (call_show hgd hr.units) (by rfl) T.b_repr (by decide +kernel) (pa_cons (pv 7) pa_nil)) (pe_callB (call_show hgd hr.units) (by rfl) T.b_repr (by decide +kernel) (pa_cons (pe_lst (pa_cons (pv 4) (pa_cons (pv 4) pa_nil))) pa_nil)) (nomark _)) (pe_one (pe_cmpR op_eq (pe_callB (call_show hgd hr.units) (by rfl) T.b_repr (by decide +kernel) (pa_cons (pv 8) pa_nil)) (pe_callB (call_show hgd hr.units) (by rfl) T.b_repr (by decide +kernel) (pa_cons (pe_op op_rep (pe_lst (pa_cons (pe_cmp (pc_isN (pv 4)) rfl) pa_nil)) pe_int) pa_nil)) (nomark _))))))))))), ?_⟩
    refine ⟨_, rfl, j, _, rfl, hj, by decide, by decide, fun H1 s c1 j1 s0 s1 => ?_⟩
    refine ⟨_, rfl, j, _, rfl, j1, by decide, by decide, fun H2 l c2 j2 l0 l1 => ⟨_, _, rfl, ?_⟩⟩
    refine ⟨_, rfl, _, rfl, j, _, rfl, j2, by decide, by decide, fun H3 a c3 j3 a0 a1 => ⟨_, _, rfl, rfl, _, _, rfl, ?_⟩⟩
    have c13 := (c1.trans c2).trans c3
    obtain ⟨S, rfl⟩ : ∃ S : Nat, s = (S : Int) := ⟨s.toNat, by omega⟩
    obtain ⟨L, rfl⟩ : ∃ L : Nat, l = (L : Int) := ⟨l.toNat, by omega⟩
    obtain ⟨F', hf⟩ : ∃ F' : Nat, (S : Int) + a = (F' : Int) := ⟨((S : Int) + a).toNat, by omega⟩
    dsimp only
    rw [hf]
    refine ⟨_, _, rfl, ⟨by decide, by decide, by decide, by decide⟩, ?_⟩
    rw [show ((9 : Int) - 1).toNat = 8 by decide]
    refine for_range (lo := 1) (n := 8) (fun i σ H' => Same H3 H' ∧ ∃ v x5 x6, σ = [some (.ref j), some (.int (S : Int)), some (.int (L : Int)), some (.int (F' : Int)), some v, x5, x6, none, none] ∧ DueAt K H' v (findN S F' L (pre i))) ⟨fun _ _ h => h, _, _, _, rfl, .inl ⟨rfl, rfl⟩⟩ ?_ ?_
    · rintro i σ H4 hi ⟨s4, v, x5, x6, rfl, hv⟩
      refine ⟨_, rfl, (1 + (i : Int)), rfl, by omega, by omega, ?_⟩
      rw [show (1 + (i : Int)).toNat = i + 1 by omega]
      refine for_range (lo := 0) (n := i + 1) (fun m σ H' => Same H3 H' ∧ ∃ v x6, σ = [some (.ref j), some (.int (S : Int)), some (.int (L : Int)), some (.int (F' : Int)), some v, some (.int (1 + (i : Int))), x6, none, none] ∧ DueAt K H' v (findN S F' L (pre i ++ (List.range m).map (fun t => (t, i + 1 - t))))) ⟨s4, _, _, rfl, by simpa using hv⟩ ?_ ?_
      · rintro m σ H5 hm ⟨s5, v, x6, rfl, hv⟩
        refine ⟨_, rfl, ?_⟩
        rw [pre_row, findN_snoc]
        rcases hv with ⟨e, rfl⟩ | ⟨t, r, p, e, rfl, hp⟩
        · rw [e]
          refine ⟨true, congrArg V.bl (by simp), iteT ?_⟩
          refine ⟨_, rfl, _, rfl, _, rfl, _, _, rfl, rfl, _, rfl, _, rfl, _, rfl, (m : Int), ((i + 1 - m : Nat) : Int), S, F', L, by rw [Int.zero_add, Int.natCast_sub (by omega), show ((i + 1 : Nat) : Int) = 1 + (i : Int) by omega], by omega, by omega, by omega, by omega, by omega, by omega, by omega, by omega, by omega, fun o ho => ?_⟩
          have hn := noturn_iff (s := S) (f := F') (l := L) (t := m) (r := i + 1 - m) (by omega) (by omega) (o := o) ho
          cases o with
          | none =>
            refine ⟨true, congrArg V.bl (by simp [optV]), iteT ?_⟩
            refine ⟨_, rfl, _, rfl, _, rfl, _, _, rfl, rfl, by show 2 ≤ sizeLine; exact sl_le (by decide), fun p hp => ?_⟩
            have sp := same_new (o := .tup [V.int (0 + (m : Int)), V.int (1 + (i : Int) - (0 + (m : Int)))]) hp
            refine ⟨s5.trans sp, _, _, rfl, ?_⟩
            rw [if_pos (hn.mp rfl)]
            refine .inr ⟨m, i + 1 - m, p, rfl, rfl, .inl (.inl ?_)⟩
            rw [upd_same, Int.zero_add, Int.natCast_sub (by omega), show ((i + 1 : Nat) : Int) = 1 + (i : Int) by omega]
          | some w =>
            have hy : ¬ noneN S F' L m (i + 1 - m) = true := fun z => by cases hn.mpr z
            refine ⟨false, congrArg V.bl (by simp [optV]), iteF ⟨s5, _, _, rfl, ?_⟩⟩
            rw [if_neg hy]
            exact .inl ⟨rfl, rfl⟩
        · rw [e]
          exact ⟨false, congrArg V.bl (by simp), iteF ⟨s5, _, _, rfl, .inr ⟨t, r, p, rfl, rfl, hp⟩⟩⟩
      · rintro σ H5 ⟨s5, v, x6, rfl, hv⟩
        exact ⟨s5, v, _, _, rfl, hv⟩
    rintro σ H4 ⟨s4, v, x5, x6, rfl, hv⟩
    have ok2 : (2 : Nat) ≤ sizeLine := sl_le (by decide)
    have ok1 : (1 : Nat) ≤ sizeLine := sl_le (by decide)
    have S4 : S ≤ 4 := by omega
    have SF : S ≤ F' := by omega
    have lim : F' ≤ S + 4 ∧ L ≤ 8 := ⟨by omega, by omega⟩
    obtain ⟨om, la⟩ := miss S4 SF (.inl lim)
    have e8 : findN S F' L (pre 8) = ownMiss S F' L := by
      rw [om]
      unfold findN lawMiss
      rw [pre_all]
    rw [e8] at hv
    have bound : ∀ p, ownMiss S F' L = some p → p.1 ≤ 20 ∧ p.2 ≤ 20 := fun p hp => by
      obtain ⟨a1, a2, a3, _⟩ := own_late (t := p.1) (r := p.2) hp
      exact ⟨by omega, by omega⟩
    have fd : ∀ d ∈ [dueD (ownMiss S F' L), dueD (ownMiss S F' L)], Fit d 20000 9 := fun d hd => by
      simp only [List.mem_cons, List.not_mem_nil, or_false, or_self] at hd
      rw [hd]; exact fit_due bound
    have fb : ∀ b : Bool, ∀ d ∈ [PyData.bool b, PyData.bool b], Fit d 20000 9 := fun b d hd => by
      simp only [List.mem_cons, List.not_mem_nil, or_false, or_self] at hd
      rw [hd]; exact fit_le (fit_bl b) (by decide) (by decide)
    have isn : decide (v = V.non) = always S F' L := by
      rcases hv with ⟨e, rfl⟩ | ⟨t, r, p, e, rfl, hp⟩
      · rw [om] at e
        rw [la.mp e]
        exact decide_eq_true rfl
      · have : always S F' L = false := by
          cases z : always S F' L with
          | false => rfl
          | true =>
            rw [om, la.mpr z] at e
            cases e
        rw [this]
        exact decide_eq_false (by simp)
    obtain ⟨O, hO⟩ : ∃ O, ownMiss S F' L = O := ⟨_, rfl⟩
    obtain ⟨A0, hA⟩ : ∃ A0, always S F' L = A0 := ⟨_, rfl⟩
    rw [hO] at hv bound fd
    rw [hA] at isn
    refine ⟨_, rfl, _, rfl, _, rfl, ?_⟩
    unfold tNil tCalX
    dsimp only
    refine ask_missed S4 SF lim fun H5 u s5 hu => ?_
    refine ⟨_, rfl, _, rfl, _, rfl, rfl, ?_⟩
    dsimp only [List.nil_append]
    refine ask_missed S4 SF lim fun H6 u2 s6 hu2 => ⟨ok2, fun p hp => ?_⟩
    have sp := same_new (o := .lst [u, u2]) hp
    refine ⟨_, rfl, _, rfl, _, rfl, ?_⟩
    dsimp only
    refine ask_always SF (by omega) (by omega) ?_
    refine ⟨_, rfl, _, rfl, _, rfl, rfl, ?_⟩
    dsimp only [List.nil_append]
    refine ask_always SF (by omega) (by omega) ⟨ok2, fun q hq => ?_⟩
    have sq := same_new (o := .lst [V.bl (always S F' L), .bl (always S F' L)]) hq
    rw [hA] at sq ⊢
    rw [hO] at hu hu2
    refine ⟨_, rfl, ?_⟩
    refine shows (.inl (.inl (sq _ _ (upd_same ..)))) (.cons (hu.same (s6.trans (sp.trans sq))).dp (.cons (hu2.same (sp.trans sq)).dp .nil)) fd (by show 2 ≤ 100; decide) ?_
    refine ⟨_, rfl, _, rfl, ok2, fun q2 hq2 => ?_⟩
    have sq2 := same_new (o := .lst [v, v]) hq2
    have hv2 : DueAt K _ v O := hv.same (s5.trans (s6.trans (sp.trans (sq.trans sq2))))
    refine shows (.inl (.inl (upd_same ..))) (.cons hv2.dp (.cons hv2.dp .nil)) fd (by show 2 ≤ 100; decide) ⟨rfl, true, congrArg V.bl (decide_eq_true rfl), iteT ?_⟩
    refine ⟨_, rfl, ?_⟩
    have bb : ∀ H, DpAll K H [V.bl A0, .bl A0] [PyData.bool A0, .bool A0] := fun H => .cons (.bl A0) (.cons (.bl A0) .nil)
    refine shows (.inl (.inl (sq2 _ _ (upd_same ..)))) (bb _) (fb A0) (by show 2 ≤ 100; decide) ?_
    refine ⟨_, rfl, ?_⟩
    dsimp only
    rw [isn]
    refine ⟨ok1, fun q3 hq3 => ⟨_, 2, _, rfl, rfl, upd_same .., by decide, by decide, sl_le (by show 1 * 2 ≤ 100000; decide), fun q4 hq4 => ?_⟩⟩
    refine shows (.inl (.inl (upd_same ..))) (bb _) (fb A0) (by show 2 ≤ 100; decide) ⟨rfl, ?_⟩
    rw [decide_eq_true rfl]
    have all : Same H3 _ := s4.trans (s5.trans (s6.trans (sp.trans (sq.trans (sq2.trans ((same_new (o := .lst [V.bl A0]) hq3).trans (same_new (o := .lst (List.replicate (Int.toNat 2) [V.bl A0]).flatten) hq4)))))))
    exact k _ (c13.trans (Chg.of all)) (j3.same all)
end
end K1
namespace K1
open PySem PySem.Spec L2 Z K5
section
variable {P : Program} {w : World} {K : PySem.W.Frag} {mg : Str → Option Value} {base : Heap} {C CA : Addr}
theorem ok_law_shared (T : Txt K mg C CA)  : Pr P w K mg base "_law_shared" s_law_shared 1 ["_law_first", "_law_second"] q_shared := by
  obtain ⟨f, fd, F, gl, bd⟩ := T.d__law_shared
  refine ⟨f, fd, F, gl, bd, F.ok sc_law_shared (fun vs H Q E h => ?_) (fun cdv A outer s H vs Q E hr h => ?_)⟩
  · obtain ⟨N, M, rfl, _⟩ := h
    rfl
  · obtain ⟨N, M, rfl, n0, n1, m0, m1, k⟩ := h
    have hu := hu_of hr
    refine ⟨_, (pss_cons (ps_asg (pe_tup (pa_cons (pv 0) (pa_cons (pv 1) (pa_cons pe_int (pa_cons pe_int pa_nil))))) (pg_tup rfl (pgs_cons (pg_name (i := 2) sc_law_shared.nd rfl (Or.inl rfl)) (pgs_cons (pg_name (i := 3) sc_law_shared.nd rfl (Or.inl rfl)) (pgs_cons (pg_name (i := 4) sc_law_shared.nd rfl (Or.inl rfl)) (pgs_cons (pg_name (i := 5) sc_law_shared.nd rfl (Or.inl rfl)) pgs_nil))))))
      (pss_cons (ps_while PassesOwn.never (pt_cmpR op_gt (pv 3) pe_int (nomark _)) (pss_cons (ps_set (i := 6) sc_law_shared.nd rfl (Or.inl rfl) (pe_op op_fdivW (pv 2) (pv 3)))
      (pss_one (ps_asg (pe_tup (pa_cons (pv 3) (pa_cons (pe_op op_sub (pv 2) (pe_op op_mulW (pv 6) (pv 3))) (pa_cons (pv 5) (pa_cons (pe_op op_sub (pv 4) (pe_op op_mulW (pv 6) (pv 5))) pa_nil))))) (pg_tup rfl (pgs_cons (pg_name (i := 2) sc_law_shared.nd rfl (Or.inl rfl)) (pgs_cons (pg_name (i := 3) sc_law_shared.nd rfl (Or.inl rfl)) (pgs_cons (pg_name (i := 4) sc_law_shared.nd rfl (Or.inl rfl)) (pgs_cons (pg_name (i := 5) sc_law_shared.nd rfl (Or.inl rfl)) pgs_nil)))))))))
      (pss_one (ps_ret (pe_lst (pa_cons (pv 2) (pa_cons (pv 4) pa_nil))))))), ?_⟩
    refine ⟨_, rfl, _, rfl, by show 4 ≤ sizeLine; exact sl_le (by decide), fun t ht => ⟨t, _, rfl, .inl (.inl upd_same), rfl, _, _, rfl, _, _, rfl, _, _, rfl, _, _, rfl, rfl, ?_⟩⟩
    have s1 : Same H (upd H t (.tup [V.int N, V.int M, V.int 1, V.int 0])) := same_new ht
    generalize upd H t (.tup [V.int N, V.int M, V.int 1, V.int 0]) = H1 at s1 ⊢
    refine ⟨fun μ σ H' => Same H H' ∧ ∃ (x y p q : Int) (x6 : Option V), σ = [some (.int N), some (.int M), some (.int x), some (.int y), some (.int p), some (.int q), x6] ∧ μ = y.toNat ∧ Eu N M x y p q ∧ x ≤ 1000000000000000000000000000000 ∧ y ≤ 1000000000000000000000000000000,
      ⟨_, s1, N, M, 1, 0, _, rfl, rfl, Eu.both n0 m0, n1, m1⟩, ?_⟩
    rintro μ σ H' ⟨s2, x, y, p, q, x6, rfl, rfl, E, xb, yb⟩
    refine ⟨_, rfl, _, _, rfl, rfl, _, rfl, ?_⟩
    have hp := E.pM
    have hq := E.qM
    have x0 := E.x0
    by_cases c : 0 < y
    · refine ifT (decide_eq_true c) ⟨_, fun _ _ h => h, ?_⟩
      obtain ⟨E', hl⟩ := E.step c
      have t0 : 0 ≤ x / y := Int.ediv_nonneg E.x0 (by omega)
      have t1 : x / y ≤ x := Int.ediv_le_self _ E.x0
      have e0 := E'.y0
      have ep := E'.pM
      have eq2 := E'.qM
      refine ⟨_, rfl, _, rfl, _, _, rfl, rfl, wide_div c (bits100 (by omega) yb) (by decide) (by decide), ?_⟩
      refine ⟨_, rfl, _, rfl, _, rfl, _, rfl, _, _, rfl, rfl, wide_mul (bits100 (by omega) (by omega)) (bits100 (by omega) yb) (by decide) (by decide) (by decide), _, _, rfl, rfl, _, rfl, ?_⟩
      refine ⟨_, rfl, _, rfl, _, rfl, _, _, rfl, rfl, wide_mul (bits100 (by omega) (by omega)) (bits100 (by omega) (by omega)) (by decide) (by decide) (by decide), _, _, rfl, rfl, ?_⟩
      refine ⟨by show 4 ≤ sizeLine; exact sl_le (by decide), fun t ht => ⟨t, _, rfl, .inl (.inl upd_same), rfl, _, _, rfl, _, _, rfl, _, _, rfl, _, _, rfl, rfl, ?_⟩⟩
      exact ⟨(x - x / y * y).toNat, by omega, s2.trans (same_new ht), y, _, q, _, _, rfl, rfl, E', yb, by omega⟩
    · refine ifF (decide_eq_false c) ?_
      have y0 := E.y0
      obtain rfl : y = 0 := by omega
      obtain ⟨h1, h2⟩ := E.done
      rw [← h1] at h2
      refine ⟨_, rfl, _, rfl, by show 2 ≤ sizeLine; exact sl_le (by decide), fun l hl => ?_⟩
      exact k _ l p (s2.trans (same_new hl)) (none_of s2 hl) (by rw [upd_same, h1]) h2 hp.1 hp.2
end
end K1
namespace K1
open PySem PySem.Spec L2 Z K5
section
variable {P : Program} {w : World} {K : PySem.W.Frag} {mg : Str → Option Value} {base : Heap} {C CA : Addr}
theorem ok_law_far_meeting (T : Txt K mg C CA) (G__law_shared : Pr P w K mg base "_law_shared" s_law_shared 1 ["_law_first", "_law_second"] q_shared) : Pr P w K mg base "_law_far_meeting" s_law_far_meeting 2 ["_law_tail_here", "_law_round_here", "_law_calm", "_law_quick", "_law_gap"] q_far_meeting := by
  obtain ⟨f, fd, F, gl, bd⟩ := T.d__law_far_meeting
  refine ⟨f, fd, F, gl, bd, F.ok sc_law_far_meeting (fun vs H Q E h => ?_) (fun cdv A outer s H vs Q E hr h => ?_)⟩
  · obtain ⟨t, r, s, f, l, rfl, _⟩ := h
    rfl
  · obtain ⟨t, r, s, f, l, rfl, t0, t1, r0, r1, s0, f0, f1, l0, l1, k⟩ := h
    have hu := hu_of hr
    refine ⟨_, (pss_cons (ps_set (i := 5) sc_law_far_meeting.nd rfl (Or.inl rfl) (pe_op op_sub (pv 3) (pv 2)))
      (pss_cons (ps_if (PW.pt (pw_and (pt_cmpR op_eq (pv 5) pe_int (nomark _)) (pw_and1 (pt_cmpR op_eq (pv 4) pe_int (nomark _))))) (pss_one (ps_ret pe_int)) pss_nil)
      (pss_cons (ps_if (PW.pt (pw_and (pt_cmpR op_eq (pv 2) pe_int (nomark _)) (pw_and1 (pt_cmpR op_gt (pv 0) pe_int (nomark _))))) (pss_one (ps_ret pe_non)) pss_nil)
      (pss_cons (ps_asg (pcall G__law_shared (hr.mono (by decide)) (pa_cons (pv 5) (pa_cons (pv 1) pa_nil))) (pg_lst rfl (pgs_cons (pg_name (i := 6) sc_law_far_meeting.nd rfl (Or.inl rfl)) (pgs_cons (pg_name (i := 7) sc_law_far_meeting.nd rfl (Or.inl rfl)) pgs_nil))))
      (pss_cons (ps_if (pt_cmpR op_ne (pe_op op_modN (pe_callTy call_int1 (by rfl) T.b_int (by decide +kernel) (pa_cons (pv 4) pa_nil)) (pv 6)) pe_int (nomark _)) (pss_one (ps_ret pe_non)) pss_nil)
      (pss_cons (ps_set (i := 8) sc_law_far_meeting.nd rfl (Or.inl rfl) (pe_op op_fdivW (pv 1) (pv 6)))
      (pss_cons (ps_set (i := 9) sc_law_far_meeting.nd rfl (Or.inl rfl) (pe_op op_modN (pe_callTy call_int1 (by rfl) T.b_int (by decide +kernel) (pa_cons (pe_op op_sub pe_int (pe_op op_mulW (pe_op op_fdivW (pv 4) (pv 6)) (pv 7))) pa_nil)) (pv 8)))
      (pss_cons (ps_set (i := 10) sc_law_far_meeting.nd rfl (Or.inl rfl) (pe_ifExp (pt_cmpR op_eq (pv 2) pe_int (nomark _)) pe_int (pe_callB (call_max2 rfl) (by rfl) T.b_max (by decide +kernel) (pa_cons pe_int (pa_cons (pe_op op_fdivW (pe_op op_sub (pe_op op_add (pv 0) (pv 2)) pe_int) (pv 2)) pa_nil)))))
      (pss_one (ps_ret (pe_op op_add (pv 10) (pe_op op_modN (pe_callTy call_int1 (by rfl) T.b_int (by decide +kernel) (pa_cons (pe_op op_sub (pv 9) (pv 10)) pa_nil)) (pv 8))))))))))))), ?_⟩
    refine ⟨_, rfl, _, rfl, _, _, rfl, rfl, ?_⟩
    refine ⟨_, rfl, rfl, _, rfl, ?_⟩
    by_cases hn : l = 0 ∧ f = s
    · refine ifT (by rw [eqII]; exact decide_eq_true (by omega)) ⟨_, rfl, rfl, _, rfl, ?_⟩
      refine ifT (by rw [eqII]; exact decide_eq_true (by omega)) ?_
      exact k (some 1) H (fun _ _ h => h) (least_now hn.1 hn.2)
    by_cases c1 : f - s = 0
    case' pos => refine ifT (by rw [eqII]; exact decide_eq_true c1) ⟨_, rfl, rfl, _, rfl, ifF (by rw [eqII]; exact decide_eq_false (by omega)) ?_⟩
    case' neg => refine ifF (by rw [eqII]; exact decide_eq_false c1) ?_
    all_goals
      obtain ⟨g, a', m, e1, g0, ea, em, e2, e3, e4, m1⟩ := parts_gcd (a := f - s) r0
      have dg : g ∣ f - s := ⟨a', ea⟩
      have dr : g ∣ r := ⟨m, em⟩
      have dl : g ∣ l ↔ l % g = 0 := ⟨fun z => Int.emod_eq_zero_of_dvd z, fun z => Int.dvd_of_emod_eq_zero z⟩
      have gr : g ≤ r := by
        have := Int.mul_le_mul (Int.le_refl g) m1 (by omega) (by omega)
        omega
      refine ⟨_, rfl, rfl, _, rfl, ?_⟩
      rw [eqII]
      by_cases d2 : s = 0 ∧ 0 < t
      · refine ifT (decide_eq_true d2.1) ⟨_, rfl, _, _, rfl, rfl, _, rfl, ?_⟩
        refine ifT (decide_eq_true d2.2) ?_
        exact k none H (fun _ _ h => h) (least_none r0 t0 s0 f0 l0 hn dg dr (.inr d2))
      by_cases d3 : s = 0
      case' pos => refine ifT (decide_eq_true d3) ⟨_, rfl, _, _, rfl, rfl, _, rfl, ifF (decide_eq_false (fun z => d2 ⟨d3, z⟩)) ?_⟩
      case' neg => refine ifF (decide_eq_false d3) ?_
      all_goals
        refine ⟨_, rfl, _, rfl, f - s, r, rfl, by omega, by omega, r0, r1, fun H1 sh v s1 hsh hk hv v0 v1 => ?_⟩
        have hk2 := s1
        refine ⟨sh, _, rfl, .inl (.inl hk), rfl, _, _, rfl, _, _, rfl, rfl, ?_⟩
        rw [← e1] at hk hv ⊢
        refine ⟨_, rfl, .inl ⟨_, rfl, _, rfl, _, _, rfl, rfl, by show g ≠ 0; omega, rfl, _, rfl, ?_⟩⟩
        have ev : ∀ b : Bool, decide (l % g ≠ 0) = b → (!decide (V.int (l.fmod g) = V.int 0)) = b := fun b hb => by
          rw [fmod_pos g0, eqII, ← hb]
          simp
        by_cases d1 : l % g = 0
        case neg => exact ifT (ev true (decide_eq_true d1)) (k none H1 s1 (least_none r0 t0 s0 f0 l0 hn dg dr (.inl fun z => d1 (dl.mp z))))
        refine ifF (ev false (decide_eq_false (Classical.not_not.mpr d1))) ?_
        have q0 : 0 ≤ l / g := Int.ediv_nonneg l0 (by omega)
        have q1 : l / g ≤ l := Int.ediv_le_self _ l0
        refine ⟨_, rfl, _, rfl, _, _, rfl, rfl, wide_div g0 (bits100 (by omega) (by omega)) (by decide) (by decide), ?_⟩
        refine ⟨_, rfl, _, rfl, _, _, rfl, rfl, wide_div g0 (bits100 (by omega) (by omega)) (by decide) (by decide), _, rfl, _, _, rfl, rfl, wide_mul (bits100 (by omega) (by omega)) (bits100 (by omega) (by omega)) (by decide) (by decide) (by decide), _, _, rfl, rfl, .inl ⟨_, rfl, _, rfl, _, _, rfl, rfl, by show r / g ≠ 0; omega, ?_⟩⟩
        refine set_int (T := fun z => gName 9 z _ _ _) (fmod_pos (show (0 : Int) < r / g by omega)) ?_
        have fin := law_road r0 t0 s0 f0 l0 hn e1 d1 d2 hv rfl
        refine ⟨_, rfl, rfl, _, rfl, ?_⟩
        rw [eqII]
        by_cases d4 : s = 0
        case' pos =>
          rw [if_pos d4] at fin
          refine ifT (decide_eq_true d4) ?_
        case' neg =>
          rw [if_neg d4] at fin
          refine ifF (decide_eq_false d4) ⟨_, rfl, _, rfl, _, _, rfl, rfl, _, _, rfl, rfl, _, rfl, _, _, rfl, rfl, wide_div (show (0 : Int) < s by omega) (bits100 (by omega) (by omega)) (by decide) (by decide), _, _, rfl, ?_⟩
        all_goals
          refine ⟨_, rfl, _, rfl, _, rfl, _, _, rfl, rfl, .inl ⟨_, rfl, _, rfl, _, _, rfl, rfl, by show r / g ≠ 0; omega, _, _, rfl, rfl, ?_⟩⟩
          rw [fmod_pos (show (0 : Int) < r / g by omega)]
          exact k _ H1 s1 fin
end
end K1
namespace K1
open PySem PySem.Spec L2 Z K5
section
variable {P : Program} {w : World} {K : PySem.W.Frag} {mg : Str → Option Value} {base : Heap} {C CA : Addr}
theorem ok_law_great_number (T : Txt K mg C CA) (G__law_take : Pr P w K mg base "_law_take" s_law_take 1 ["_law_well_here", "_law_limit"] q_law_take) : Pr P w K mg base "_law_great_number" s_law_great_number 2 ["_law_well_here"] q_great_number := by
  obtain ⟨f, fd, F, gl, bd⟩ := T.d__law_great_number
  refine ⟨f, fd, F, gl, bd, F.ok sc_law_great_number (fun vs H Q E h => ?_) (fun cdv A outer s H vs Q E hr h => ?_)⟩
  · obtain ⟨j, rfl, _⟩ := h
    rfl
  · obtain ⟨j, rfl, hj, k⟩ := h
    have hu := hu_of hr
    refine ⟨_, (pss_cons (ps_set (i := 1) sc_law_great_number.nd rfl (Or.inl rfl) (pcall G__law_take (hr.mono (by decide)) (pa_cons (pv 0) (pa_cons pe_int pa_nil))))
      (pss_cons (ps_if (pt_cmpR op_lt (pv 1) pe_int (nomark _)) (pss_one (ps_ret (pcall G__law_take (hr.mono (by decide)) (pa_cons (pv 0) (pa_cons pe_int pa_nil))))) pss_nil)
      (pss_cons (ps_if (pt_cmpR op_eq (pv 1) pe_int (nomark _)) (pss_one (ps_ret (pe_op op_sub (pe_op op_pow pe_int pe_int) (pcall G__law_take (hr.mono (by decide)) (pa_cons (pv 0) (pa_cons pe_int pa_nil)))))) pss_nil)
      (pss_cons (ps_set (i := 2) sc_law_great_number.nd rfl (Or.inl rfl) (pe_op op_add (pe_op op_add (pe_op op_mulW (pcall G__law_take (hr.mono (by decide)) (pa_cons (pv 0) (pa_cons (pe_op op_pow pe_int pe_int) pa_nil))) (pe_op op_pow pe_int pe_int)) (pe_op op_mulW (pcall G__law_take (hr.mono (by decide)) (pa_cons (pv 0) (pa_cons (pe_op op_pow pe_int pe_int) pa_nil))) (pe_op op_pow pe_int pe_int))) (pcall G__law_take (hr.mono (by decide)) (pa_cons (pv 0) (pa_cons (pe_op op_pow pe_int pe_int) pa_nil)))))
      (pss_one (ps_ret (pe_ifExp (pt_cmpR op_lt (pv 1) pe_int (nomark _)) (pv 2) (pe_op op_modN (pe_callTy call_int1 (by rfl) T.b_int (by decide +kernel) (pa_cons (pv 2) pa_nil)) (pe_op op_pow pe_int pe_int))))))))), ?_⟩
    refine ⟨_, rfl, j, _, rfl, hj, by decide, by decide, fun H1 b c1 j1 b0 b1 => ?_⟩
    refine ⟨_, rfl, _, _, rfl, rfl, _, rfl, ?_⟩
    by_cases d1 : b < 2
    · refine ifT (decide_eq_true d1) ⟨_, rfl, j, _, rfl, j1, by decide, by decide, fun H2 v c2 j2 v0 v1 => ?_⟩
      exact k H2 v (c1.trans c2) j2 v0 (by omega)
    refine ifF (decide_eq_false d1) ⟨_, rfl, rfl, _, rfl, ?_⟩
    rw [eqII]
    by_cases d2 : b = 2
    · refine ifT (decide_eq_true d2) ⟨_, _, rfl, rfl, ⟨by decide, by decide, by decide⟩, _, rfl, j, _, rfl, j1, by decide, by decide, fun H2 v c2 j2 v0 v1 => ?_⟩
      refine ⟨_, _, rfl, rfl, ?_⟩
      have e : (10 : Int) ^ (30 : Int).toNat = 1000000000000000000000000000000 := by decide +kernel
      rw [e]
      exact k H2 _ (c1.trans c2) j2 (by omega) (by omega)
    refine ifF (decide_eq_false d2) ?_
    have e6 : (10 : Int) ^ (6 : Int).toNat = 1000000 := by decide +kernel
    have e12 : (10 : Int) ^ (12 : Int).toNat = 1000000000000 := by decide +kernel
    have e24 : (10 : Int) ^ (24 : Int).toNat = 1000000000000000000000000 := by decide +kernel
    have e9 : (10 : Int) ^ (9 : Int).toNat = 1000000000 := by decide +kernel
    refine ⟨_, rfl, _, _, rfl, rfl, ⟨by decide, by decide, by decide⟩, j, _, rfl, j1, by rw [e6]; decide, by rw [e6]; decide, fun H2 u c2 j2 u0 u1 => ?_⟩
    refine ⟨_, _, rfl, rfl, ⟨by decide, by decide, by decide⟩, _, _, rfl, rfl, wide_mul (a := 110) (b := 110) (bits100 (by omega) (by omega)) (by rw [e24]; decide) (by decide) (by decide) (by decide), ?_⟩
    refine ⟨_, rfl, _, _, rfl, rfl, ⟨by decide, by decide, by decide⟩, j, _, rfl, j2, by rw [e6]; decide, by rw [e6]; decide, fun H3 v c3 j3 v0 v1 => ?_⟩
    refine ⟨_, _, rfl, rfl, ⟨by decide, by decide, by decide⟩, _, _, rfl, rfl, wide_mul (a := 110) (b := 110) (bits100 (by omega) (by omega)) (by rw [e12]; decide) (by decide) (by decide) (by decide), _, _, rfl, rfl, ?_⟩
    refine ⟨_, rfl, _, _, rfl, rfl, ⟨by decide, by decide, by decide⟩, j, _, rfl, j3, by rw [e6]; decide, by rw [e6]; decide, fun H4 w c4 j4 w0 w1 => ⟨_, _, rfl, rfl, ?_⟩⟩
    rw [e12, e24]
    have c14 := ((c1.trans c2).trans c3).trans c4
    obtain ⟨N, hN⟩ : ∃ N, u * 1000000000000000000000000 + v * 1000000000000 + w = N := ⟨_, rfl⟩
    have n0 : 0 ≤ N := by omega
    have n1 : N ≤ 1000000000000000000000000000000 := by omega
    refine set_int (T := fun z => gName 2 z _ _ _) hN ?_
    refine ⟨_, rfl, _, _, rfl, rfl, _, rfl, ?_⟩
    by_cases d3 : b < 5
    · exact ifT (decide_eq_true d3) ⟨_, rfl, k H4 N c14 j4 n0 n1⟩
    · refine ifF (decide_eq_false d3) ⟨_, rfl, .inl ⟨_, rfl, _, _, rfl, rfl, ⟨by decide, by decide, by decide⟩, _, _, rfl, rfl, by show (10 : Int) ^ (9 : Int).toNat ≠ 0; rw [e9]; decide, ?_⟩⟩
      rw [e9]
      show Q (.int (N.fmod 1000000000)) H4
      rw [fmod_pos (by decide)]
      exact k H4 _ c14 j4 (Int.emod_nonneg _ (by decide)) (by have := Int.emod_lt_of_pos N (show (0 : Int) < 1000000000 by decide); omega)
end
end K1
namespace K1
open PySem PySem.Spec L2 Z K5
section
variable {P : Program} {w : World} {K : PySem.W.Frag} {mg : Str → Option Value} {base : Heap} {C CA : Addr}
theorem ok_law_is_great_right (T : Txt K mg C CA) (G__law_far_meeting : Pr P w K mg base "_law_far_meeting" s_law_far_meeting 2 ["_law_tail_here", "_law_round_here", "_law_calm", "_law_quick", "_law_gap"] q_far_meeting) (G__law_great_number : Pr P w K mg base "_law_great_number" s_law_great_number 2 ["_law_well_here"] q_great_number) (G_stop_at : PrX P w K mg base "stop_at" s_stop_at 5 ["tail", "ring", "steps"] (q_stop_at K C)) (G__law_stop : Pr P w K mg base "_law_stop" s_law_stop 1 ["_law_tail_here", "_law_round_here", "_law_paces"] q_stop) (G_meets_always : PrX P w K mg base "meets_always" s_meets_always 5 ["slow", "fast", "lead"] (q_meets_always K C)) (G_meet : PrX P w K mg base "meet" s_meet 5 ["tail", "ring", "slow", "fast", "lead"] (q_meet K C)) : PrG P w K mg base "_law_is_great_right" s_law_is_great_right 6 ["_law_well_here"] q_turn := by
  obtain ⟨f, fd, F, gl, bd⟩ := T.d__law_is_great_right
  refine ⟨f, fd, F, gl, bd, okG F sc_law_is_great_right (fun vs H Q E h => ?_) (fun cdv A outer s H vs Q E hr hgd h => ?_)⟩
  · obtain ⟨j, rfl, _⟩ := h
    rfl
  · obtain ⟨j, rfl, hj, k⟩ := h
    have hu := hu_of hr
    refine ⟨_, (pss_cons (ps_par3 (i := 1) (j := 2) (l := 3) rfl sc_law_is_great_right.nd rfl rfl rfl (by decide) (by decide) (by decide) rfl rfl rfl (pa_cons (pcall G__law_great_number (hr.mono (by decide)) (pa_cons (pv 0) pa_nil)) (pa_cons (pe_callB (call_max2 rfl) (by rfl) T.b_max (by decide +kernel) (pa_cons pe_int (pa_cons (pcall G__law_great_number (hr.mono (by decide)) (pa_cons (pv 0) pa_nil)) pa_nil))) (pa_cons (pcall G__law_great_number (hr.mono (by decide)) (pa_cons (pv 0) pa_nil)) pa_nil))) (by rfl))
      (pss_cons (ps_par3 (i := 4) (j := 5) (l := 6) rfl sc_law_is_great_right.nd rfl rfl rfl (by decide) (by decide) (by decide) rfl rfl rfl (pa_cons (pe_callB (call_max2 rfl) (by rfl) T.b_max (by decide +kernel) (pa_cons (pv 3) (pa_cons (pcall G__law_great_number (hr.mono (by decide)) (pa_cons (pv 0) pa_nil)) pa_nil))) (pa_cons (pcall G__law_great_number (hr.mono (by decide)) (pa_cons (pv 0) pa_nil)) (pa_cons (pcall G__law_great_number (hr.mono (by decide)) (pa_cons (pv 0) pa_nil)) pa_nil))) (by rfl))
      (pss_cons (ps_if (pt_cmpR op_ne (pcallX E0 G_stop_at (hr.mono (by decide)) passL (pa_cons (pv 1) (pa_cons (pv 2) (pa_cons (pv 6) pa_nil)))) (pcall G__law_stop (hr.mono (by decide)) (pa_cons (pv 1) (pa_cons (pv 2) (pa_cons (pv 6) pa_nil)))) (nomark _)) (pss_one (ps_ret pe_bl)) pss_nil)
      (pss_cons (ps_set (i := 7) sc_law_is_great_right.nd rfl (Or.inl rfl) (pcall G__law_far_meeting (hr.mono (by decide)) (pa_cons (pv 1) (pa_cons (pv 2) (pa_cons (pv 3) (pa_cons (pv 4) (pa_cons (pv 5) pa_nil)))))))
      (pss_cons (ps_if (pt_cmpR op_ne (pe_callB (call_show hgd hr.units) (by rfl) T.b_repr (by decide +kernel) (pa_cons (pcallX E0 G_meet (hr.mono (by decide)) passL (pa_cons (pv 1) (pa_cons (pv 2) (pa_cons (pv 3) (pa_cons (pv 4) (pa_cons (pv 5) pa_nil)))))) pa_nil)) (pe_callB (call_show hgd hr.units) (by rfl) T.b_repr (by decide +kernel) (pa_cons (pv 7) pa_nil)) (nomark _)) (pss_one (ps_ret pe_bl)) pss_nil)
      (pss_cons (ps_set (i := 8) sc_law_is_great_right.nd rfl (Or.inl rfl) (pe_op op_sub (pv 4) (pv 3)))
      (pss_cons (ps_set (i := 9) sc_law_is_great_right.nd rfl (Or.inl rfl) (pe_or (pe_and (pe_cmpR op_eq (pv 8) pe_int (nomark _)) (pe_one (pe_cmpR op_eq (pv 5) pe_int (nomark _)))) (pe_one (pe_and (pe_cmpR op_gt (pv 3) pe_int (nomark _)) (pe_and (pe_cmpR op_gt (pv 8) pe_int (nomark _)) (pe_one (pe_cmpR op_eq (pe_op op_modN (pe_callTy call_int1 (by rfl) T.b_int (by decide +kernel) (pa_cons (pv 5) pa_nil)) (pe_callB (call_max2 rfl) (by rfl) T.b_max (by decide +kernel) (pa_cons (pv 8) (pa_cons pe_int pa_nil)))) pe_int (nomark _))))))))
      (pss_one (ps_ret (pe_cmpR op_eq (pcallX E0 G_meets_always (hr.mono (by decide)) passL (pa_cons (pv 3) (pa_cons (pv 4) (pa_cons (pv 5) pa_nil)))) (pv 9) (nomark _))))))))))), ?_⟩
    refine ⟨_, rfl, j, rfl, hj, fun H1 t c1 j1 t0 t1 => ?_⟩
    refine ⟨_, rfl, j, rfl, j1, fun H2 r' c2 j2 r0' r1' => ⟨_, _, rfl, ?_⟩⟩
    refine ⟨_, rfl, j, rfl, j2, fun H3 s c3 j3 s0 s1 => ⟨_, _, _, rfl, ?_⟩⟩
    obtain ⟨r, hr2⟩ : ∃ r, (if r' > 1 then r' else 1) = r := ⟨_, rfl⟩
    have r0 : 1 ≤ r := by rw [← hr2]; split <;> omega
    have r1 : r ≤ 1000000000000000000000000000000 := by rw [← hr2]; split <;> omega
    rw [hr2]
    refine ⟨_, rfl, _, rfl, j, rfl, j3, fun H4 f' c4 j4 f0' f1' => ⟨_, _, rfl, ?_⟩⟩
    refine ⟨_, rfl, j, rfl, j4, fun H5 l c5 j5 l0 l1 => ?_⟩
    refine ⟨_, rfl, j, rfl, j5, fun H6 n c6 j6 n0 n1 => ⟨_, _, _, rfl, ?_⟩⟩
    obtain ⟨f, hf⟩ : ∃ f, (if f' > s then f' else s) = f := ⟨_, rfl⟩
    have f0 : s ≤ f := by rw [← hf]; split <;> omega
    have f1 : f ≤ 1000000000000000000000000000000 := by rw [← hf]; split <;> omega
    rw [hf]
    have c16 := (((((c1.trans c2).trans c3).trans c4).trans c5).trans c6)
    refine ⟨_, rfl, _, rfl, _, rfl, ?_⟩
    unfold tNil tCalX
    dsimp only
    refine ⟨_, _, _, rfl, need_ok rfl rfl t0 t1 r0 r1 (.inr ⟨_, _, _, rfl, rfl, rfl, n0, n1, ?_⟩)⟩
    refine ⟨_, rfl, _, rfl, _, rfl, t, r, n, rfl, r0, ?_⟩
    refine ⟨rfl, _, rfl, ifF (by simp) ?_⟩
    obtain ⟨o, ho⟩ := least_all t r s f l
    refine ⟨_, rfl, _, rfl, _, rfl, _, rfl, _, rfl, t, r, s, f, l, rfl, t0, t1, r0, r1, s0, f0, f1, l0, l1, fun o' HB sB ho' => ?_⟩
    obtain rfl := ho'.uniq ho
    have ob : ∀ n, o' = some n → n.natAbs < 2 ^ 1900 := fun n e => by
      subst e
      have h1 := least_early r0 t0 s0 f0 l0 ho
      have h2 := (ho.2 n rfl).1.1
      exact small4 (by omega) (by omega)
    refine ⟨_, rfl, _, rfl, _, rfl, _, rfl, _, rfl, _, _, _, _, _, rfl, need_ok rfl rfl t0 t1 r0 r1 (walk_ok s0 f0 f1 l0 l1 ⟨_, _, _, _, _, rfl, rfl, rfl, rfl, rfl, fun o2 HC sC ho2 => ?_⟩)⟩
    obtain rfl := ho2.uniq ho
    refine shows_opt ob ⟨_, rfl, shows_opt ob ⟨rfl, _, rfl, ifF (by simp) ?_⟩⟩
    have sBC := sB.trans sC
    obtain ⟨S, rfl⟩ : ∃ S : Nat, s = (S : Int) := ⟨s.toNat, by omega⟩
    obtain ⟨F', rfl⟩ : ∃ F' : Nat, f = (F' : Int) := ⟨f.toNat, by omega⟩
    obtain ⟨L, rfl⟩ : ∃ L : Nat, l = (L : Int) := ⟨l.toNat, by omega⟩
    refine ⟨_, rfl, _, rfl, _, _, rfl, rfl, ?_⟩
    have av : always S F' L = (decide (L = 0 ∧ F' = S) || decide (0 < S ∧ S < F' ∧ L % (F' - S) = 0)) := rfl
    refine ⟨_, rfl, rfl, _, rfl, ?_⟩
    rw [eqII]
    by_cases e1 : F' = S
    · refine ifT (decide_eq_true (by omega)) ⟨_, rfl, rfl, _, rfl, ?_⟩
      rw [eqII]
      by_cases e2 : L = 0
      · refine ifT (decide_eq_true (by omega)) ?_
        have hb : always S F' L = true := by rw [av, decide_eq_true (show L = 0 ∧ F' = S from ⟨e2, e1⟩)]; rfl
        refine ⟨_, rfl, _, rfl, _, rfl, _, _, _, rfl, walk_ok s0 f0 f1 l0 l1 ⟨S, F', L, rfl, rfl, rfl, _, rfl, rfl, ?_⟩⟩
        rw [hb, eqBB, decide_eq_true rfl]
        exact k _ (c16.trans (Chg.of sBC)) (j6.same sBC)
      · refine ifF (decide_eq_false (by omega)) ⟨_, rfl, _, _, rfl, rfl, _, rfl, ?_⟩
        by_cases e3 : 0 < S
        · refine ifT (decide_eq_true (by omega)) ⟨_, rfl, _, _, rfl, rfl, _, rfl, ifF (decide_eq_false (by omega)) ?_⟩
          have hb : always S F' L = false := by rw [av, decide_eq_false (by omega), decide_eq_false (by omega)]; rfl
          refine ⟨_, rfl, _, rfl, _, rfl, _, _, _, rfl, walk_ok s0 f0 f1 l0 l1 ⟨S, F', L, rfl, rfl, rfl, _, rfl, rfl, ?_⟩⟩
          rw [hb, eqBB, decide_eq_true rfl]
          exact k _ (c16.trans (Chg.of sBC)) (j6.same sBC)
        · refine ifF (decide_eq_false (by omega)) ?_
          have hb : always S F' L = false := by rw [av, decide_eq_false (by omega), decide_eq_false (by omega)]; rfl
          refine ⟨_, rfl, _, rfl, _, rfl, _, _, _, rfl, walk_ok s0 f0 f1 l0 l1 ⟨S, F', L, rfl, rfl, rfl, _, rfl, rfl, ?_⟩⟩
          rw [hb, eqBB, decide_eq_true rfl]
          exact k _ (c16.trans (Chg.of sBC)) (j6.same sBC)
    · refine ifF (decide_eq_false (by omega)) ?_
      refine ⟨_, rfl, ifF rfl ⟨_, rfl, _, _, rfl, rfl, _, rfl, ?_⟩⟩
      by_cases e3 : 0 < S
      · refine ifT (decide_eq_true (by omega)) ⟨_, rfl, _, _, rfl, rfl, _, rfl, ifT (decide_eq_true (by omega)) ?_⟩
        refine ⟨_, rfl, .inl ⟨_, rfl, _, rfl, _, _, rfl, ?_⟩⟩
        rw [show (if (1 : Int) > (F' : Int) - S then (1 : Int) else (F' : Int) - S) = ((F' - S : Nat) : Int) by rw [if_neg (by omega)]; omega]
        refine ⟨_, _, rfl, rfl, by show ((F' - S : Nat) : Int) ≠ 0; omega, rfl, ?_⟩
        show gName 9 (V.bl (decide (V.int (Int.fmod (L : Int) ((F' - S : Nat) : Int)) = V.int 0))) _ _ _
        rw [fmod_pos (show (0 : Int) < ((F' - S : Nat) : Int) by omega), eqII, ← Int.natCast_emod]
        by_cases e4 : L % (F' - S) = 0
        · rw [decide_eq_true (show ((L % (F' - S) : Nat) : Int) = 0 by omega)]
          have hb : always S F' L = true := by rw [av, decide_eq_true (show 0 < S ∧ S < F' ∧ L % (F' - S) = 0 from ⟨e3, by omega, e4⟩), Bool.or_true]
          refine ⟨_, rfl, _, rfl, _, rfl, _, _, _, rfl, walk_ok s0 f0 f1 l0 l1 ⟨S, F', L, rfl, rfl, rfl, _, rfl, rfl, ?_⟩⟩
          rw [hb, eqBB, decide_eq_true rfl]
          exact k _ (c16.trans (Chg.of sBC)) (j6.same sBC)
        · rw [decide_eq_false (show ¬ ((L % (F' - S) : Nat) : Int) = 0 by omega)]
          have hb : always S F' L = false := by rw [av, decide_eq_false (fun z => e1 z.2), decide_eq_false (fun z => e4 z.2.2)]; rfl
          refine ⟨_, rfl, _, rfl, _, rfl, _, _, _, rfl, walk_ok s0 f0 f1 l0 l1 ⟨S, F', L, rfl, rfl, rfl, _, rfl, rfl, ?_⟩⟩
          rw [hb, eqBB, decide_eq_true rfl]
          exact k _ (c16.trans (Chg.of sBC)) (j6.same sBC)
      · refine ifF (decide_eq_false (by omega)) ?_
        have hb : always S F' L = false := by rw [av, decide_eq_false (fun z => e1 z.2), decide_eq_false (fun z => e3 z.1)]; rfl
        refine ⟨_, rfl, _, rfl, _, rfl, _, _, _, rfl, walk_ok s0 f0 f1 l0 l1 ⟨S, F', L, rfl, rfl, rfl, _, rfl, rfl, ?_⟩⟩
        rw [hb, eqBB, decide_eq_true rfl]
        exact k _ (c16.trans (Chg.of sBC)) (j6.same sBC)
end
end K1
namespace K1
open PySem PySem.Spec L2 Z K5
section
variable {P : Program} {w : World} {K : PySem.W.Frag} {mg : Str → Option Value} {base : Heap} {C CA : Addr}
theorem ok_law_right (T : Txt K mg C CA) (G__law_are_refused : PrG P w K mg base "_law_are_refused" s_law_are_refused 7 ["_law_well_here"] q_turn) (G__law_is_small_right : PrG P w K mg base "_law_is_small_right" s_law_is_small_right 6 ["_law_well_here"] q_turn) (G__law_is_missed_right : PrG P w K mg base "_law_is_missed_right" s_law_is_missed_right 6 ["_law_well_here"] q_turn) (G__law_is_great_right : PrG P w K mg base "_law_is_great_right" s_law_is_great_right 6 ["_law_well_here"] q_turn) : PrG P w K mg base "_law_right" s_law_right 8 ["_law_well_here"] q_law_right := by
  obtain ⟨f, fd, F, gl, bd⟩ := T.d__law_right
  refine ⟨f, fd, F, gl, bd, okG F sc_law_right (fun vs H Q E h => ?_) (fun cdv A outer s H vs Q E hr hgd h => ?_)⟩
  · obtain ⟨j, rfl, _⟩ := h
    rfl
  · obtain ⟨j, rfl, hj, k⟩ := h
    have hu := hu_of hr
    refine ⟨_, (pss_cons (ps_if (PW.pt (pw_or (pt_not (pt_val (pcallG G__law_is_small_right (hr.mono (by decide)) hgd (pa_cons (pv 0) pa_nil)))) (pw_or (pt_not (pt_val (pcallG G__law_is_missed_right (hr.mono (by decide)) hgd (pa_cons (pv 0) pa_nil)))) (pw_or1 (pt_not (pt_val (pcallG G__law_is_great_right (hr.mono (by decide)) hgd (pa_cons (pv 0) pa_nil)))))))) (pss_one (ps_ret pe_bl)) pss_nil)
      (pss_one (ps_ret (pcallG G__law_are_refused (hr.mono (by decide)) hgd (pa_cons (pv 0) pa_nil))))), ?_⟩
    refine ⟨_, rfl, j, rfl, hj, fun H1 c1 j1 => ⟨true, rfl, ifF rfl ?_⟩⟩
    refine ⟨_, rfl, j, rfl, j1, fun H2 c2 j2 => ⟨true, rfl, ifF rfl ?_⟩⟩
    refine ⟨_, rfl, j, rfl, j2, fun H3 c3 j3 => ⟨true, rfl, ifF rfl ?_⟩⟩
    exact ⟨_, rfl, j, rfl, j3, fun H4 c4 j4 => k H4 (((c1.trans c2).trans c3).trans c4)⟩
end
end K1
namespace K1
open PySem PySem.Spec L2 Z K5
section
variable {P : Program} {w : World} {K : PySem.W.Frag} {mg : Str → Option Value} {base : Heap} {C CA : Addr}
theorem ok_law_well (T : Txt K mg C CA)  : Pr P w K mg base "_law_well" s_law_well 1 ["_law_script", "_law_turn"] (q_law_well K) := by
  obtain ⟨f, fd, F, gl, bd⟩ := T.d__law_well
  refine ⟨f, fd, F, gl, bd, F.ok sc_law_well (fun vs H Q E h => ?_) (fun cdv A outer s H vs Q E hr h => ?_)⟩
  · obtain ⟨a, ns, t, rfl, _⟩ := h
    rfl
  · obtain ⟨a, ns, t, rfl, hs, h1, h2, hz, k⟩ := h
    have hu := hu_of hr
    refine ⟨_, (pss_cons (ps_set (i := 2) sc_law_well.nd rfl (Or.inl rfl) (pe_ifExp (pt_cmpR op_lt (pv 1) (pe_callB call_len_seq (by rfl) T.b_len (by decide +kernel) (pa_cons (pv 0) pa_nil)) (nomark _)) (pe_callTy call_int1 (by rfl) T.b_int (by decide +kernel) (pa_cons (pe_ix ix_list (pv 0) (pv 1) (fun _ _ => rfl)) pa_nil)) (pe_op op_add (pe_op op_mul pe_int (pv 1)) pe_int)))
      (pss_cons (ps_set (i := 3) sc_law_well.nd rfl (Or.inl rfl) (pe_op op_add pe_int (pe_op op_mul pe_int (pv 1))))
      (pss_cons (ps_for PassesOwn.never rfl (pi_list (pe_slice sl_list (pv 0) po_none (po_some pe_int))) (pg_name (i := 4) sc_law_well.nd rfl (Or.inl rfl))
      (pss_one (ps_set (i := 3) sc_law_well.nd rfl (Or.inl rfl) (pe_op op_modN (pe_callTy call_int1 (by rfl) T.b_int (by decide +kernel) (pa_cons (pe_op op_add (pe_op op_add (pe_op op_mul (pv 3) pe_int) (pe_op op_modN (pe_callTy call_int1 (by rfl) T.b_int (by decide +kernel) (pa_cons (pv 4) pa_nil)) pe_int)) pe_int) pa_nil)) pe_int))))
      (pss_cons (ps_set (i := 3) sc_law_well.nd rfl (Or.inl rfl) (pe_op op_modN (pe_callTy call_int1 (by rfl) T.b_int (by decide +kernel) (pa_cons (pe_op op_add (pe_op op_mul (pv 3) pe_int) (pe_op op_mul (pe_op op_modN (pe_callTy call_int1 (by rfl) T.b_int (by decide +kernel) (pa_cons (pv 2) pa_nil)) pe_int) pe_int)) pa_nil)) pe_int))
      (pss_one (ps_ret (pe_lst (pa_cons (pe_ifExp (PW.pt (pw_or (pt_cmpR op_lt (pv 2) pe_int (nomark _)) (pw_or1 (pt_cmpR op_ge (pv 2) (pe_op op_pow pe_int pe_int) (nomark _))))) (pe_callB call_abs (by rfl) T.b_abs (by decide +kernel) (pa_cons (pv 2) pa_nil)) pe_int) (pa_cons (pv 3) (pa_cons pe_int pa_nil)))))))))), ?_⟩
    have nz1 : (2147483563 : Int) ≠ 0 := by decide
    have nz2 : (2147483629 : Int) ≠ 0 := by decide
    by_cases ht : t < (ns.length : Int)
    case' pos =>
      obtain ⟨y, hy, hat⟩ := at_of (xs := ns.map V.int) h1 (by rw [List.length_map]; exact ht)
      obtain ⟨own, _, rfl⟩ := List.mem_map.mp hy
      refine ⟨_, rfl, _, rfl, a, _, rfl, .inl hs, _, _, rfl, rfl, true, congrArg V.bl (decide_eq_true (by rw [List.length_map]; exact ht)), iteT ?_⟩
      refine ⟨_, rfl, _, rfl, a, _, t, _, rfl, rfl, hs, hat, .inl ⟨_, rfl, ?_⟩⟩
    case' neg =>
      refine ⟨_, rfl, _, rfl, a, _, rfl, .inl hs, _, _, rfl, rfl, false, congrArg V.bl (decide_eq_false (by rw [List.length_map]; exact ht)), iteF ?_⟩
      refine ⟨_, rfl, _, _, rfl, rfl, .inl ⟨by decide, by decide⟩, _, _, rfl, rfl, ?_⟩
      obtain ⟨own, ho⟩ : ∃ own : Int, 1013 * t + 29 = own := ⟨_, rfl⟩
      refine set_int (T := fun z => gName 2 z _ _ _) ho ?_
    all_goals
      refine ⟨_, rfl, _, _, rfl, rfl, .inl ⟨by decide, by decide⟩, _, _, rfl, rfl, ?_⟩
      refine ⟨_, rfl, _, rfl, a, _, rfl, hs, fun l hl => ?_⟩
      have s1 : Same H (upd H l (.lst (cutV (ns.map V.int) none (some 9)))) := same_new hl
      have l1 : upd H l (.lst (cutV (ns.map V.int) none (some 9))) l = some (.lst (cutV (ns.map V.int) none (some 9))) := upd_same
      generalize upd H l (.lst (cutV (ns.map V.int) none (some 9))) = H1 at s1 l1 ⊢
      refine ⟨l, rfl, ⟨_, .inl (.inl l1)⟩, ?_⟩
      refine for_list (xs := cutV (ns.map V.int) none (some 9)) (fun i σ H' => H' = H1 ∧ ∃ sd : Int, ∃ x, σ = [some (.ref a), some (.int t), some (.int own), some (.int sd), x] ∧ -(2 ^ 64) < sd ∧ sd < 2 ^ 64) ⟨rfl, _, _, rfl, by omega, by omega⟩ (fun i σ H' _ h => .inl (.inl (by rw [h.1]; exact l1))) ?_ ?_
      · rintro i x σ H' hx ⟨rfl, sd, x0, rfl, b1, b2⟩
        obtain ⟨z, hz, rfl⟩ := List.mem_map.mp (cut_mem (List.mem_of_getElem? hx))
        refine ⟨_, rfl, _, _, rfl, rfl, .inr ⟨by decide, by decide⟩, _, rfl, .inl ⟨_, rfl, _, _, rfl, rfl, nz1, _, _, rfl, rfl, _, _, rfl, rfl, .inl ⟨_, rfl, _, _, rfl, rfl, nz2, rfl, _, _, rfl, ?_, ?_⟩⟩⟩
        · exact Int.lt_of_lt_of_le (by decide) (fm_range (by decide)).1
        · exact Int.lt_trans (fm_range (by decide)).2 (by decide)
      rintro σ H' ⟨rfl, sd, x0, rfl, b1, b2⟩
      refine ⟨_, rfl, _, _, rfl, rfl, .inr ⟨by decide, by decide⟩, _, rfl, .inl ⟨_, rfl, _, _, rfl, rfl, nz1, _, _, rfl, rfl, .inr ⟨by decide, by decide⟩, _, _, rfl, rfl, .inl ⟨_, rfl, _, _, rfl, rfl, nz2, ?_⟩⟩⟩
      have fr := fm_range (i := sd * 31 + Int.fmod own 2147483563 * 10007) (m := 2147483629) (by decide)
      have fin : ∀ g : Int, ∀ q, H' q = none → Q (.ref q) (upd H' q (.lst [.int g, .int (Int.fmod (sd * 31 + Int.fmod own 2147483563 * 10007) 2147483629), .int 0])) := fun g q hq =>
        k _ q (s1.trans (same_new hq)) (none_of s1 hq) ⟨_, _, _, upd_same, Int.lt_of_lt_of_le (by decide) fr.1, Int.lt_trans fr.2 (by decide)⟩
      refine ⟨_, rfl, _, _, rfl, rfl, _, rfl, ?_⟩
      by_cases d1 : own < 0
      · refine ifT (decide_eq_true d1) (ifT rfl ⟨_, rfl, _, rfl, ?_⟩)
        exact ⟨_, rfl, by show 3 ≤ sizeLine; exact sl_le (by decide), fun q hq => fin _ q hq⟩
      · refine ifF (decide_eq_false d1) ⟨_, rfl, _, _, rfl, rfl, ⟨by decide, by decide, by decide⟩, _, _, rfl, rfl, _, rfl, ?_⟩
        by_cases d2 : (10 : Int) ^ (18 : Int).toNat ≤ own
        · refine ifT (decide_eq_true d2) ⟨_, rfl, _, rfl, ?_⟩
          exact ⟨_, rfl, by show 3 ≤ sizeLine; exact sl_le (by decide), fun q hq => fin _ q hq⟩
        · refine ifF (decide_eq_false d2) ?_
          exact ⟨_, rfl, by show 3 ≤ sizeLine; exact sl_le (by decide), fun q hq => fin _ q hq⟩
end
end K1
namespace K1
open PySem PySem.Spec L2 Z K5
section
variable {P : Program} {w : World} {K : PySem.W.Frag} {mg : Str → Option Value} {base : Heap} {C CA : Addr}
theorem ok_law (T : Txt K mg C CA) (G__law_right : PrG P w K mg base "_law_right" s_law_right 8 ["_law_well_here"] q_law_right) (G__law_well : Pr P w K mg base "_law_well" s_law_well 1 ["_law_script", "_law_turn"] (q_law_well K)) : PrG P w K mg base "law" s_law 9 ["_law_script"] (sp_law K) := by
  obtain ⟨f, fd, F, gl, bd⟩ := T.d_law
  refine ⟨f, fd, F, gl, bd, okG F sc_law (fun vs H Q E h => ?_) (fun cdv A outer s H vs Q E hr hgd h => ?_)⟩
  · obtain ⟨a, ns, rfl, _⟩ := h
    rfl
  · obtain ⟨a, ns, rfl, hs, hz, k⟩ := h
    have hu := hu_of hr
    refine ⟨_, (pss_one (ps_ret (pe_callB (cr_all rfl) (by rfl) T.b_all (by decide +kernel) (pa_cons (pe_lc (own := [("_law_turn", 1)]) (g := gName 1) (tt := tYes) rfl sc_law.nd (pi_range1 rfl T.b_range (pa_cons (pe_callB (call_max2 rfl) (by rfl) T.b_max (by decide +kernel) (pa_cons pe_int (pa_cons (pe_callB (call_min2 rfl) (by rfl) T.b_min (by decide +kernel) (pa_cons (pe_callB call_len_seq (by rfl) T.b_len (by decide +kernel) (pa_cons (pv 0) pa_nil)) (pa_cons pe_int pa_nil))) pa_nil))) pa_nil)) (blkOk_by (own := [("_law_turn", 1)]) (N := N_law) (sc := defScope s_law) (by decide +kernel)) (fun _ _ _ _ _ => (pg_name (i := 1) sc_law.nd rfl (Or.inl rfl))) (fun _ _ _ _ _ => pts_nil) (fun _ _ _ _ _ => (pcallG G__law_right (hr.mono (by decide)) hgd (pa_cons (pcall G__law_well (hr.mono (by decide)) (pa_cons (pv 0) (pa_cons (pv 1) pa_nil))) pa_nil)))) pa_nil)))), ?_⟩
    obtain ⟨n, hn, hn2, hn3⟩ : ∃ n : Int, n = (if (if (3 : Int) < ((ns.map V.int).length : Int) then (3 : Int) else ((ns.map V.int).length : Int)) > 2 then (if (3 : Int) < ((ns.map V.int).length : Int) then (3 : Int) else ((ns.map V.int).length : Int)) else 2) ∧ 2 ≤ n ∧ n ≤ 3 := ⟨_, rfl, by split <;> omega, by split <;> split <;> omega⟩
    refine ⟨_, rfl, a, _, rfl, .inl hs, _, _, rfl, _, _, rfl, ?_⟩
    refine ⟨n, congrArg (fun z => [V.int z]) hn.symm, by omega, by omega, fun D hD => ?_⟩
    have key : a ≠ D ∨ ∀ H', SqL K H' a (ns.map V.int) := by
      rcases hs with (q | ⟨o, q⟩) | q
      · exact .inl (ne_of_none q hD)
      · exact .inl (ne_of_none q hD)
      · exact .inr fun _ => .inr q
    refine lc_it (n := n.toNat) (fun i H' => SqL K H' a (ns.map V.int) ∧ H' D = some (.lst ((List.replicate i true).map V.bl))) ⟨SqL_same (same_new hD) hs, upd_same⟩ (fun i H' hi _ => hi) (fun H' _ => Nat.le_refl _) (fun i y H' H2 hi h yl => ?_) (fun H' h => ?_)
    · obtain ⟨hs', hk⟩ := h
      obtain ⟨rfl, rfl⟩ := yl
      refine ⟨rfl, _, rfl, _, rfl, a, ns, _, rfl, hs', by omega, by omega, hz, fun H3 j s3 hj jug => ⟨j, rfl, jug, fun H4 c4 => ?_⟩⟩
      have nD : D ≠ j := ne_of_none hk hj
      have k4 := c4 _ _ (s3 _ _ hk) nD
      have q4 : SqL K H4 a (ns.map V.int) := by
        rcases hs' with (q | ⟨o, q⟩) | q
        · exact .inl (.inl (c4 _ _ (s3 _ _ q) (ne_of_none q hj)))
        · exact .inl (.inr ⟨o, c4 _ _ (s3 _ _ q) (ne_of_none q hj)⟩)
        · exact .inr q
      refine ⟨_, k4, by rw [List.length_map, List.length_replicate]; exact Nat.lt_of_lt_of_le (show i < 100 by omega) (sl_le (by decide)), ?_, by rw [upd_same, List.replicate_succ', List.map_append]; rfl⟩
      rcases key with nk | nk
      · exact SqL.chg Chg.upd nk q4
      · exact nk _
    obtain ⟨hs', hk⟩ := h
    refine ⟨D, List.replicate n.toNat true, rfl, .inl (.inl hk), ?_⟩
    have e : (List.replicate n.toNat true).all id = true := by
      rw [List.all_eq_true]
      intro b hb
      exact (List.mem_replicate.mp hb).2
    rw [e]
    exact k H'
end
end K1
/-! What the top has left, and the end. -/
namespace K1
open PySem PySem.Spec L2 Z K5
theorem kit_sub {K : PySem.W.Frag} {C D : Addr} {b : Bool} (icl : PySem.W.isClsIn K D = true) (tcl : PySem.W.typeIn K (.ref D) = some (.type "type")) (n : PySem.W.subIn K (.ref C) (.ref D) = some true) : PySem.W.kitOne K (.ref C) (.ref D) = some true := by
  have e1 : ((PySem.W.clsIn K D).isSome && PySem.W.typeIn K (.ref D) == some (.type "type")) = true := by
    rw [tcl]
    unfold PySem.W.isClsIn at icl
    rw [icl]
    rfl
  have e : PySem.W.kitCls K (.ref C) (.ref D) = some true := (if_pos e1).trans n
  unfold PySem.W.kitOne
  split
  · rfl
  · exact e
theorem all_mk {l : PySem.W.OpenLaw} {w : World} {K : PySem.W.Frag} {h : Heap} {mg : Str → Option Value} {nmC qC : Str} {NC : Addr} {bsC : List Value} {snC : List Str} {subC : List Value} {abC : Bool} {colC : Option Bool} {ddC : Option Addr} {m0 m1 m2 m3 m5 : Option Value} {odI anI : Option Addr} {slI : Array (Option Value)} {ocI kVI dcI pmI cdI ctI : Value} {fa C CA fI f0 f1 f2 f3 f4 f5 f6 f7 f8 f9 f10 f11 f12 f13 f14 f15 f16 f17 f18 f19 f20 f21 f22 f23 f24 f25 f26 f27 : Addr} {t_MOST_NUMBER t_MOST_MISSED : Tok} (X : K.In h) (G : h.Ns mainGlobals mg) (hfa : mg "law" = some (.ref fa))
    {od0 an0 od1 an1 od2 an2 od3 an3 od4 an4 od5 an5 od6 an6 od7 an7 od8 an8 od9 an9 od10 an10 od11 an11 od12 an12 od13 an13 od14 an14 od15 an15 od16 an16 od17 an17 od18 an18 od19 an19 od20 an20 od21 an21 od22 an22 od23 an23 od24 an24 od25 an25 od26 an26 od27 an27 : Option Addr} {sl0 sl1 sl2 sl3 sl4 sl5 sl6 sl7 sl8 sl9 sl10 sl11 sl12 sl13 sl14 sl15 sl16 sl17 sl18 sl19 sl20 sl21 sl22 sl23 sl24 sl25 sl26 sl27 : Array (Option Value)} {oc0 kV0 dc0 pm0 cd0 ct0 oc1 kV1 dc1 pm1 cd1 ct1 oc2 kV2 dc2 pm2 cd2 ct2 oc3 kV3 dc3 pm3 cd3 ct3 oc4 kV4 dc4 pm4 cd4 ct4 oc5 kV5 dc5 pm5 cd5 ct5 oc6 kV6 dc6 pm6 cd6 ct6 oc7 kV7 dc7 pm7 cd7 ct7 oc8 kV8 dc8 pm8 cd8 ct8 oc9 kV9 dc9 pm9 cd9 ct9 oc10 kV10 dc10 pm10 cd10 ct10 oc11 kV11 dc11 pm11 cd11 ct11 oc12 kV12 dc12 pm12 cd12 ct12 oc13 kV13 dc13 pm13 cd13 ct13 oc14 kV14 dc14 pm14 cd14 ct14 oc15 kV15 dc15 pm15 cd15 ct15 oc16 kV16 dc16 pm16 cd16 ct16 oc17 kV17 dc17 pm17 cd17 ct17 oc18 kV18 dc18 pm18 cd18 ct18 oc19 kV19 dc19 pm19 cd19 ct19 oc20 kV20 dc20 pm20 cd20 ct20 oc21 kV21 dc21 pm21 cd21 ct21 oc22 kV22 dc22 pm22 cd22 ct22 oc23 kV23 dc23 pm23 cd23 ct23 oc24 kV24 dc24 pm24 cd24 ct24 oc25 kV25 dc25 pm25 cd25 ct25 oc26 kV26 dc26 pm26 cd26 ct26 oc27 kV27 dc27 pm27 cd27 ct27 : Value}
    (aC : PySem.W.nsIn K mainGlobals "InvalidNumber" = some (some (.ref C)))
    (aCA : PySem.W.nsIn K mainGlobals "ArrowError" = some (some (.ref CA)))
    (xL : K.lookup C = some (excClassObj nmC qC C NC bsC [.ref CA, .type "ValueError", .type "Exception", .type "BaseException", .type "object"] true snC subC abC colC ddC m0 m1 m2 m3 m5 "ValueError.__new__"))
    (sa : PySem.W.findIn K (.ref C) "__setattr__" = some (some (.builtin "object.__setattr__")))
    (ga : PySem.W.findIn K (.ref C) "__getattribute__" = some (some (.builtin "BaseException.__getattribute__")))
    (gg : PySem.W.findIn K (.ref C) "__getattr__" = some none)
    (nf : PySem.W.findIn K (.ref C) "given" = some none)
    (iI : PySem.W.findIn K (.ref C) "__init__" = some (some (.ref fI)))
    (tI : PySem.W.typeIn K (.ref fI) = some (.type "function"))
    (lI : K.lookup fI = some ⟨ocI, odI, .func (PySem.W.fnOf "__init__" "InvalidNumber.__init__" (defArgs s_err_InvalidNumber) (defBody s_err_InvalidNumber) (defScope s_err_InvalidNumber) .none kVI dcI pmI anI cdI ctI), slI⟩)
    (cI : PySem.W.codeIn K cdI "InvalidNumber.__init__" = true)
    (kI : PySem.W.keepIn K (.ref fI) = true)
    (kC : PySem.W.keepIn K (.ref C) = true)
    (eC : PySem.W.subIn K (.ref C) (.type "BaseException") = some true)
    (tC : PySem.W.typeIn K (.ref C) = some (.type "type"))
    (hC : PySem.W.hasDictIn K C = true)
    (iC : PySem.W.isClsIn K C = true)
    (sC : PySem.W.subIn K (.ref C) (.ref C) = some true)
    (isC : PySem.W.findIn K (.ref C) "__class__" = some (some (.builtin "object.__class__")))
    (isG : PySem.W.specialIn K (.builtin "object.__class__") "__get__" = some (some (.builtin "getset_descriptor.__get__")))
    (isT : PySem.W.takesIn K (.builtin "object.__class__") = some true)
    (isM : PySem.W.mroIn K C (.type "object") = some true)
    (iCA : PySem.W.isClsIn K CA = true)
    (tCA : PySem.W.typeIn K (.ref CA) = some (.type "type"))
    (sCA : PySem.W.subIn K (.ref C) (.ref CA) = some true)
    (a0 : PySem.W.nsIn K mainGlobals "_law_take" = some (some (.ref f0)))
    (l0 : K.lookup f0 = some ⟨oc0, od0, .func (PySem.W.fnOf "_law_take" "_law_take" (defArgs s_law_take) (defBody s_law_take) (defScope s_law_take) .none kV0 dc0 pm0 an0 cd0 ct0), sl0⟩)
    (c0 : PySem.W.codeIn K cd0 "_law_take" = true)
    (k0 : PySem.W.keepIn K (.ref f0) = true)
    (a1 : PySem.W.nsIn K mainGlobals "_law_pick" = some (some (.ref f1)))
    (l1 : K.lookup f1 = some ⟨oc1, od1, .func (PySem.W.fnOf "_law_pick" "_law_pick" (defArgs s_law_pick) (defBody s_law_pick) (defScope s_law_pick) .none kV1 dc1 pm1 an1 cd1 ct1), sl1⟩)
    (c1 : PySem.W.codeIn K cd1 "_law_pick" = true)
    (k1 : PySem.W.keepIn K (.ref f1) = true)
    (a2 : PySem.W.nsIn K mainGlobals "is_number" = some (some (.ref f2)))
    (l2 : K.lookup f2 = some ⟨oc2, od2, .func (PySem.W.fnOf "is_number" "is_number" (defArgs s_is_number) (defBody s_is_number) (defScope s_is_number) .none kV2 dc2 pm2 an2 cd2 ct2), sl2⟩)
    (c2 : PySem.W.codeIn K cd2 "is_number" = true)
    (k2 : PySem.W.keepIn K (.ref f2) = true)
    (a3 : PySem.W.nsIn K mainGlobals "is_whole" = some (some (.ref f3)))
    (l3 : K.lookup f3 = some ⟨oc3, od3, .func (PySem.W.fnOf "is_whole" "is_whole" (defArgs s_is_whole) (defBody s_is_whole) (defScope s_is_whole) .none kV3 dc3 pm3 an3 cd3 ct3), sl3⟩)
    (c3 : PySem.W.codeIn K cd3 "is_whole" = true)
    (k3 : PySem.W.keepIn K (.ref f3) = true)
    (a4 : PySem.W.nsIn K mainGlobals "_need_number" = some (some (.ref f4)))
    (l4 : K.lookup f4 = some ⟨oc4, od4, .func (PySem.W.fnOf "_need_number" "_need_number" (defArgs s_need_number) (defBody s_need_number) (defScope s_need_number) .none kV4 dc4 pm4 an4 cd4 ct4), sl4⟩)
    (c4 : PySem.W.codeIn K cd4 "_need_number" = true)
    (k4 : PySem.W.keepIn K (.ref f4) = true)
    (a5 : PySem.W.nsIn K mainGlobals "_need_track" = some (some (.ref f5)))
    (l5 : K.lookup f5 = some ⟨oc5, od5, .func (PySem.W.fnOf "_need_track" "_need_track" (defArgs s_need_track) (defBody s_need_track) (defScope s_need_track) .none kV5 dc5 pm5 an5 cd5 ct5), sl5⟩)
    (c5 : PySem.W.codeIn K cd5 "_need_track" = true)
    (k5 : PySem.W.keepIn K (.ref f5) = true)
    (a6 : PySem.W.nsIn K mainGlobals "_stop" = some (some (.ref f6)))
    (l6 : K.lookup f6 = some ⟨oc6, od6, .func (PySem.W.fnOf "_stop" "_stop" (defArgs s_stop) (defBody s_stop) (defScope s_stop) .none kV6 dc6 pm6 an6 cd6 ct6), sl6⟩)
    (c6 : PySem.W.codeIn K cd6 "_stop" = true)
    (k6 : PySem.W.keepIn K (.ref f6) = true)
    (a7 : PySem.W.nsIn K mainGlobals "stop_at" = some (some (.ref f7)))
    (l7 : K.lookup f7 = some ⟨oc7, od7, .func (PySem.W.fnOf "stop_at" "stop_at" (defArgs s_stop_at) (defBody s_stop_at) (defScope s_stop_at) .none kV7 dc7 pm7 an7 cd7 ct7), sl7⟩)
    (c7 : PySem.W.codeIn K cd7 "stop_at" = true)
    (k7 : PySem.W.keepIn K (.ref f7) = true)
    (a8 : PySem.W.nsIn K mainGlobals "_need_walkers" = some (some (.ref f8)))
    (l8 : K.lookup f8 = some ⟨oc8, od8, .func (PySem.W.fnOf "_need_walkers" "_need_walkers" (defArgs s_need_walkers) (defBody s_need_walkers) (defScope s_need_walkers) .none kV8 dc8 pm8 an8 cd8 ct8), sl8⟩)
    (c8 : PySem.W.codeIn K cd8 "_need_walkers" = true)
    (k8 : PySem.W.keepIn K (.ref f8) = true)
    (a9 : PySem.W.nsIn K mainGlobals "_inverse" = some (some (.ref f9)))
    (l9 : K.lookup f9 = some ⟨oc9, od9, .func (PySem.W.fnOf "_inverse" "_inverse" (defArgs s_inverse) (defBody s_inverse) (defScope s_inverse) .none kV9 dc9 pm9 an9 cd9 ct9), sl9⟩)
    (c9 : PySem.W.codeIn K cd9 "_inverse" = true)
    (k9 : PySem.W.keepIn K (.ref f9) = true)
    (a10 : PySem.W.nsIn K mainGlobals "_least_turn" = some (some (.ref f10)))
    (l10 : K.lookup f10 = some ⟨oc10, od10, .func (PySem.W.fnOf "_least_turn" "_least_turn" (defArgs s_least_turn) (defBody s_least_turn) (defScope s_least_turn) .none kV10 dc10 pm10 an10 cd10 ct10), sl10⟩)
    (c10 : PySem.W.codeIn K cd10 "_least_turn" = true)
    (k10 : PySem.W.keepIn K (.ref f10) = true)
    (a11 : PySem.W.nsIn K mainGlobals "meet" = some (some (.ref f11)))
    (l11 : K.lookup f11 = some ⟨oc11, od11, .func (PySem.W.fnOf "meet" "meet" (defArgs s_meet) (defBody s_meet) (defScope s_meet) .none kV11 dc11 pm11 an11 cd11 ct11), sl11⟩)
    (c11 : PySem.W.codeIn K cd11 "meet" = true)
    (k11 : PySem.W.keepIn K (.ref f11) = true)
    (a12 : PySem.W.nsIn K mainGlobals "_meets_always" = some (some (.ref f12)))
    (l12 : K.lookup f12 = some ⟨oc12, od12, .func (PySem.W.fnOf "_meets_always" "_meets_always" (defArgs s_u_meets_always) (defBody s_u_meets_always) (defScope s_u_meets_always) .none kV12 dc12 pm12 an12 cd12 ct12), sl12⟩)
    (c12 : PySem.W.codeIn K cd12 "_meets_always" = true)
    (k12 : PySem.W.keepIn K (.ref f12) = true)
    (a13 : PySem.W.nsIn K mainGlobals "meets_always" = some (some (.ref f13)))
    (l13 : K.lookup f13 = some ⟨oc13, od13, .func (PySem.W.fnOf "meets_always" "meets_always" (defArgs s_meets_always) (defBody s_meets_always) (defScope s_meets_always) .none kV13 dc13 pm13 an13 cd13 ct13), sl13⟩)
    (c13 : PySem.W.codeIn K cd13 "meets_always" = true)
    (k13 : PySem.W.keepIn K (.ref f13) = true)
    (a14 : PySem.W.nsIn K mainGlobals "missed_track" = some (some (.ref f14)))
    (l14 : K.lookup f14 = some ⟨oc14, od14, .func (PySem.W.fnOf "missed_track" "missed_track" (defArgs s_missed_track) (defBody s_missed_track) (defScope s_missed_track) .none kV14 dc14 pm14 an14 cd14 ct14), sl14⟩)
    (c14 : PySem.W.codeIn K cd14 "missed_track" = true)
    (k14 : PySem.W.keepIn K (.ref f14) = true)
    (a15 : PySem.W.nsIn K mainGlobals "_law_error" = some (some (.ref f15)))
    (l15 : K.lookup f15 = some ⟨oc15, od15, .func (PySem.W.fnOf "_law_error" "_law_error" (defArgs s_law_error) (defBody s_law_error) (defScope s_law_error) .none kV15 dc15 pm15 an15 cd15 ct15), sl15⟩)
    (c15 : PySem.W.codeIn K cd15 "_law_error" = true)
    (k15 : PySem.W.keepIn K (.ref f15) = true)
    (a16 : PySem.W.nsIn K mainGlobals "_law_are_refused" = some (some (.ref f16)))
    (l16 : K.lookup f16 = some ⟨oc16, od16, .func (PySem.W.fnOf "_law_are_refused" "_law_are_refused" (defArgs s_law_are_refused) (defBody s_law_are_refused) (defScope s_law_are_refused) .none kV16 dc16 pm16 an16 cd16 ct16), sl16⟩)
    (c16 : PySem.W.codeIn K cd16 "_law_are_refused" = true)
    (k16 : PySem.W.keepIn K (.ref f16) = true)
    (a17 : PySem.W.nsIn K mainGlobals "_law_stop" = some (some (.ref f17)))
    (l17 : K.lookup f17 = some ⟨oc17, od17, .func (PySem.W.fnOf "_law_stop" "_law_stop" (defArgs s_law_stop) (defBody s_law_stop) (defScope s_law_stop) .none kV17 dc17 pm17 an17 cd17 ct17), sl17⟩)
    (c17 : PySem.W.codeIn K cd17 "_law_stop" = true)
    (k17 : PySem.W.keepIn K (.ref f17) = true)
    (a18 : PySem.W.nsIn K mainGlobals "_law_first_meeting" = some (some (.ref f18)))
    (l18 : K.lookup f18 = some ⟨oc18, od18, .func (PySem.W.fnOf "_law_first_meeting" "_law_first_meeting" (defArgs s_law_first_meeting) (defBody s_law_first_meeting) (defScope s_law_first_meeting) .none kV18 dc18 pm18 an18 cd18 ct18), sl18⟩)
    (c18 : PySem.W.codeIn K cd18 "_law_first_meeting" = true)
    (k18 : PySem.W.keepIn K (.ref f18) = true)
    (a19 : PySem.W.nsIn K mainGlobals "_law_is_small_right" = some (some (.ref f19)))
    (l19 : K.lookup f19 = some ⟨oc19, od19, .func (PySem.W.fnOf "_law_is_small_right" "_law_is_small_right" (defArgs s_law_is_small_right) (defBody s_law_is_small_right) (defScope s_law_is_small_right) .none kV19 dc19 pm19 an19 cd19 ct19), sl19⟩)
    (c19 : PySem.W.codeIn K cd19 "_law_is_small_right" = true)
    (k19 : PySem.W.keepIn K (.ref f19) = true)
    (a20 : PySem.W.nsIn K mainGlobals "_law_is_missed_right" = some (some (.ref f20)))
    (l20 : K.lookup f20 = some ⟨oc20, od20, .func (PySem.W.fnOf "_law_is_missed_right" "_law_is_missed_right" (defArgs s_law_is_missed_right) (defBody s_law_is_missed_right) (defScope s_law_is_missed_right) .none kV20 dc20 pm20 an20 cd20 ct20), sl20⟩)
    (c20 : PySem.W.codeIn K cd20 "_law_is_missed_right" = true)
    (k20 : PySem.W.keepIn K (.ref f20) = true)
    (a21 : PySem.W.nsIn K mainGlobals "_law_shared" = some (some (.ref f21)))
    (l21 : K.lookup f21 = some ⟨oc21, od21, .func (PySem.W.fnOf "_law_shared" "_law_shared" (defArgs s_law_shared) (defBody s_law_shared) (defScope s_law_shared) .none kV21 dc21 pm21 an21 cd21 ct21), sl21⟩)
    (c21 : PySem.W.codeIn K cd21 "_law_shared" = true)
    (k21 : PySem.W.keepIn K (.ref f21) = true)
    (a22 : PySem.W.nsIn K mainGlobals "_law_far_meeting" = some (some (.ref f22)))
    (l22 : K.lookup f22 = some ⟨oc22, od22, .func (PySem.W.fnOf "_law_far_meeting" "_law_far_meeting" (defArgs s_law_far_meeting) (defBody s_law_far_meeting) (defScope s_law_far_meeting) .none kV22 dc22 pm22 an22 cd22 ct22), sl22⟩)
    (c22 : PySem.W.codeIn K cd22 "_law_far_meeting" = true)
    (k22 : PySem.W.keepIn K (.ref f22) = true)
    (a23 : PySem.W.nsIn K mainGlobals "_law_great_number" = some (some (.ref f23)))
    (l23 : K.lookup f23 = some ⟨oc23, od23, .func (PySem.W.fnOf "_law_great_number" "_law_great_number" (defArgs s_law_great_number) (defBody s_law_great_number) (defScope s_law_great_number) .none kV23 dc23 pm23 an23 cd23 ct23), sl23⟩)
    (c23 : PySem.W.codeIn K cd23 "_law_great_number" = true)
    (k23 : PySem.W.keepIn K (.ref f23) = true)
    (a24 : PySem.W.nsIn K mainGlobals "_law_is_great_right" = some (some (.ref f24)))
    (l24 : K.lookup f24 = some ⟨oc24, od24, .func (PySem.W.fnOf "_law_is_great_right" "_law_is_great_right" (defArgs s_law_is_great_right) (defBody s_law_is_great_right) (defScope s_law_is_great_right) .none kV24 dc24 pm24 an24 cd24 ct24), sl24⟩)
    (c24 : PySem.W.codeIn K cd24 "_law_is_great_right" = true)
    (k24 : PySem.W.keepIn K (.ref f24) = true)
    (a25 : PySem.W.nsIn K mainGlobals "_law_right" = some (some (.ref f25)))
    (l25 : K.lookup f25 = some ⟨oc25, od25, .func (PySem.W.fnOf "_law_right" "_law_right" (defArgs s_law_right) (defBody s_law_right) (defScope s_law_right) .none kV25 dc25 pm25 an25 cd25 ct25), sl25⟩)
    (c25 : PySem.W.codeIn K cd25 "_law_right" = true)
    (k25 : PySem.W.keepIn K (.ref f25) = true)
    (a26 : PySem.W.nsIn K mainGlobals "_law_well" = some (some (.ref f26)))
    (l26 : K.lookup f26 = some ⟨oc26, od26, .func (PySem.W.fnOf "_law_well" "_law_well" (defArgs s_law_well) (defBody s_law_well) (defScope s_law_well) .none kV26 dc26 pm26 an26 cd26 ct26), sl26⟩)
    (c26 : PySem.W.codeIn K cd26 "_law_well" = true)
    (k26 : PySem.W.keepIn K (.ref f26) = true)
    (a27 : PySem.W.nsIn K mainGlobals "law" = some (some (.ref f27)))
    (l27 : K.lookup f27 = some ⟨oc27, od27, .func (PySem.W.fnOf "law" "law" (defArgs s_law) (defBody s_law) (defScope s_law) .none kV27 dc27 pm27 an27 cd27 ct27), sl27⟩)
    (c27 : PySem.W.codeIn K cd27 "law" = true)
    (k27 : PySem.W.keepIn K (.ref f27) = true)
    (z_isinstance : PySem.W.nsIn K mainGlobals "isinstance" = some none)
    (z_int : PySem.W.nsIn K mainGlobals "int" = some none)
    (z_bool : PySem.W.nsIn K mainGlobals "bool" = some none)
    (z_len : PySem.W.nsIn K mainGlobals "len" = some none)
    (z_list : PySem.W.nsIn K mainGlobals "list" = some none)
    (z_range : PySem.W.nsIn K mainGlobals "range" = some none)
    (z_divmod : PySem.W.nsIn K mainGlobals "divmod" = some none)
    (z_abs : PySem.W.nsIn K mainGlobals "abs" = some none)
    (z_repr : PySem.W.nsIn K mainGlobals "repr" = some none)
    (z_all : PySem.W.nsIn K mainGlobals "all" = some none)
    (z_max : PySem.W.nsIn K mainGlobals "max" = some none)
    (z_min : PySem.W.nsIn K mainGlobals "min" = some none)
    (g_MOST_NUMBER : PySem.W.nsIn K mainGlobals "MOST_NUMBER" = some (some (.int 1000000000000000000000000000000 t_MOST_NUMBER)))
    (g_MOST_MISSED : PySem.W.nsIn K mainGlobals "MOST_MISSED" = some (some (.int 1000 t_MOST_MISSED)))
    (q_gcd : PySem.W.nsIn K mainGlobals "gcd" = some (some (.builtin "math.gcd"))) :
    ∃ fd : FuncData, (∀ (s : Shared) (v : Value), BindsTo s fd ⟨[v], []⟩ [("_law_script", v)]) ∧ ∀ base : Heap, K.In base → base.Ns mainGlobals mg → FnG l.prog w K mg base 9 fa fd ["_law_script"] (sp_law K) := by
  have e := hfa.symm.trans (PySem.W.mg_of X G a27)
  cases e
  have F0 := fun_mk (st := s_law_take) l0 c0 k0
  have b0 := F0.binds (ps := ["_law_well_here", "_law_limit"]) fun _ _ _ _ _ _ us hl => match us, hl with | [_, _], _ => rfl
  have F1 := fun_mk (st := s_law_pick) l1 c1 k1
  have b1 := F1.binds (ps := ["_law_well_here", "_law_some"]) fun _ _ _ _ _ _ us hl => match us, hl with | [_, _], _ => rfl
  have F2 := fun_mk (st := s_is_number) l2 c2 k2
  have b2 := F2.binds (ps := ["value"]) fun _ _ _ _ _ _ us hl => match us, hl with | [_], _ => rfl
  have F3 := fun_mk (st := s_is_whole) l3 c3 k3
  have b3 := F3.binds (ps := ["value", "low", "high"]) fun _ _ _ _ _ _ us hl => match us, hl with | [_, _, _], _ => rfl
  have F4 := fun_mk (st := s_need_number) l4 c4 k4
  have b4 := F4.binds (ps := ["value", "low", "high"]) fun _ _ _ _ _ _ us hl => match us, hl with | [_, _, _], _ => rfl
  have F5 := fun_mk (st := s_need_track) l5 c5 k5
  have b5 := F5.binds (ps := ["tail", "ring"]) fun _ _ _ _ _ _ us hl => match us, hl with | [_, _], _ => rfl
  have F6 := fun_mk (st := s_stop) l6 c6 k6
  have b6 := F6.binds (ps := ["tail", "ring", "steps"]) fun _ _ _ _ _ _ us hl => match us, hl with | [_, _, _], _ => rfl
  have F7 := fun_mk (st := s_stop_at) l7 c7 k7
  have b7 := F7.binds (ps := ["tail", "ring", "steps"]) fun _ _ _ _ _ _ us hl => match us, hl with | [_, _, _], _ => rfl
  have F8 := fun_mk (st := s_need_walkers) l8 c8 k8
  have b8 := F8.binds (ps := ["slow", "fast", "lead", "high"]) fun _ _ _ _ _ _ us hl => match us, hl with | [_, _, _, _], _ => rfl
  have F9 := fun_mk (st := s_inverse) l9 c9 k9
  have b9 := F9.binds (ps := ["number", "ring"]) fun _ _ _ _ _ _ us hl => match us, hl with | [_, _], _ => rfl
  have F10 := fun_mk (st := s_least_turn) l10 c10 k10
  have b10 := F10.binds (ps := ["tail", "ring", "slow", "fast", "lead"]) fun _ _ _ _ _ _ us hl => match us, hl with | [_, _, _, _, _], _ => rfl
  have F11 := fun_mk (st := s_meet) l11 c11 k11
  have b11 := F11.binds (ps := ["tail", "ring", "slow", "fast", "lead"]) fun _ _ _ _ _ _ us hl => match us, hl with | [_, _, _, _, _], _ => rfl
  have F12 := fun_mk (st := s_u_meets_always) l12 c12 k12
  have b12 := F12.binds (ps := ["slow", "fast", "lead"]) fun _ _ _ _ _ _ us hl => match us, hl with | [_, _, _], _ => rfl
  have F13 := fun_mk (st := s_meets_always) l13 c13 k13
  have b13 := F13.binds (ps := ["slow", "fast", "lead"]) fun _ _ _ _ _ _ us hl => match us, hl with | [_, _, _], _ => rfl
  have F14 := fun_mk (st := s_missed_track) l14 c14 k14
  have b14 := F14.binds (ps := ["slow", "fast", "lead"]) fun _ _ _ _ _ _ us hl => match us, hl with | [_, _, _], _ => rfl
  have F15 := fun_mk (st := s_law_error) l15 c15 k15
  have b15 := F15.binds (ps := ["_law_branch", "_law_some"]) fun _ _ _ _ _ _ us hl => match us, hl with | [_, _], _ => rfl
  have F16 := fun_mk (st := s_law_are_refused) l16 c16 k16
  have b16 := F16.binds (ps := ["_law_well_here"]) fun _ _ _ _ _ _ us hl => match us, hl with | [_], _ => rfl
  have F17 := fun_mk (st := s_law_stop) l17 c17 k17
  have b17 := F17.binds (ps := ["_law_tail_here", "_law_round_here", "_law_paces"]) fun _ _ _ _ _ _ us hl => match us, hl with | [_, _, _], _ => rfl
  have F18 := fun_mk (st := s_law_first_meeting) l18 c18 k18
  have b18 := F18.binds (ps := ["_law_tail_here", "_law_round_here", "_law_calm", "_law_quick", "_law_gap"]) fun _ _ _ _ _ _ us hl => match us, hl with | [_, _, _, _, _], _ => rfl
  have F19 := fun_mk (st := s_law_is_small_right) l19 c19 k19
  have b19 := F19.binds (ps := ["_law_well_here"]) fun _ _ _ _ _ _ us hl => match us, hl with | [_], _ => rfl
  have F20 := fun_mk (st := s_law_is_missed_right) l20 c20 k20
  have b20 := F20.binds (ps := ["_law_well_here"]) fun _ _ _ _ _ _ us hl => match us, hl with | [_], _ => rfl
  have F21 := fun_mk (st := s_law_shared) l21 c21 k21
  have b21 := F21.binds (ps := ["_law_first", "_law_second"]) fun _ _ _ _ _ _ us hl => match us, hl with | [_, _], _ => rfl
  have F22 := fun_mk (st := s_law_far_meeting) l22 c22 k22
  have b22 := F22.binds (ps := ["_law_tail_here", "_law_round_here", "_law_calm", "_law_quick", "_law_gap"]) fun _ _ _ _ _ _ us hl => match us, hl with | [_, _, _, _, _], _ => rfl
  have F23 := fun_mk (st := s_law_great_number) l23 c23 k23
  have b23 := F23.binds (ps := ["_law_well_here"]) fun _ _ _ _ _ _ us hl => match us, hl with | [_], _ => rfl
  have F24 := fun_mk (st := s_law_is_great_right) l24 c24 k24
  have b24 := F24.binds (ps := ["_law_well_here"]) fun _ _ _ _ _ _ us hl => match us, hl with | [_], _ => rfl
  have F25 := fun_mk (st := s_law_right) l25 c25 k25
  have b25 := F25.binds (ps := ["_law_well_here"]) fun _ _ _ _ _ _ us hl => match us, hl with | [_], _ => rfl
  have F26 := fun_mk (st := s_law_well) l26 c26 k26
  have b26 := F26.binds (ps := ["_law_script", "_law_turn"]) fun _ _ _ _ _ _ us hl => match us, hl with | [_, _], _ => rfl
  have F27 := fun_mk (st := s_law) l27 c27 k27
  have b27 := F27.binds (ps := ["_law_script"]) fun _ _ _ _ _ _ us hl => match us, hl with | [_], _ => rfl
  have FI := fun_mk (st := s_err_InvalidNumber) lI cI kI
  have bI := FI.binds (ps := ["self", "given"]) fun _ _ _ _ _ _ us hl => match us, hl with | [_, _], _ => rfl
  have T : Txt K mg C CA := {
    b_isinstance := PySem.W.mg_none_of X G z_isinstance
    b_int := PySem.W.mg_none_of X G z_int
    b_bool := PySem.W.mg_none_of X G z_bool
    b_len := PySem.W.mg_none_of X G z_len
    b_list := PySem.W.mg_none_of X G z_list
    b_range := PySem.W.mg_none_of X G z_range
    b_divmod := PySem.W.mg_none_of X G z_divmod
    b_abs := PySem.W.mg_none_of X G z_abs
    b_repr := PySem.W.mg_none_of X G z_repr
    b_all := PySem.W.mg_none_of X G z_all
    b_max := PySem.W.mg_none_of X G z_max
    b_min := PySem.W.mg_none_of X G z_min
    c_MOST_NUMBER := ⟨_, PySem.W.mg_of X G g_MOST_NUMBER⟩
    c_MOST_MISSED := ⟨_, PySem.W.mg_of X G g_MOST_MISSED⟩
    g_gcd := PySem.W.mg_of X G q_gcd
    mgC := PySem.W.mg_of X G aC
    mgCA := PySem.W.mg_of X G aCA
    x_InvalidNumber := ⟨PySem.W.mg_of X G aC, ⟨⟨_, _, _, _, _, _, _, _, _, _, _, _, _, _, _, xL, rfl⟩, sa, eC, tC, kC⟩, ⟨ga, gg, eC, hC⟩, nf, PySem.W.exm_ref eC hC tC sC, ⟨fI, _, FI, iI, tI, bI⟩⟩
    i_InvalidNumber := ⟨iC, ⟨ga, gg, eC, hC⟩, isC, isG, isT, isM⟩
    k_InvalidNumber_ArrowError := kit_sub (b := true) iCA tCA sCA
    d__law_take := ⟨_, _, F0, PySem.W.mg_of X G a0, b0⟩
    d__law_pick := ⟨_, _, F1, PySem.W.mg_of X G a1, b1⟩
    d_is_number := ⟨_, _, F2, PySem.W.mg_of X G a2, b2⟩
    d_is_whole := ⟨_, _, F3, PySem.W.mg_of X G a3, b3⟩
    d__need_number := ⟨_, _, F4, PySem.W.mg_of X G a4, b4⟩
    d__need_track := ⟨_, _, F5, PySem.W.mg_of X G a5, b5⟩
    d__stop := ⟨_, _, F6, PySem.W.mg_of X G a6, b6⟩
    d_stop_at := ⟨_, _, F7, PySem.W.mg_of X G a7, b7⟩
    d__need_walkers := ⟨_, _, F8, PySem.W.mg_of X G a8, b8⟩
    d__inverse := ⟨_, _, F9, PySem.W.mg_of X G a9, b9⟩
    d__least_turn := ⟨_, _, F10, PySem.W.mg_of X G a10, b10⟩
    d_meet := ⟨_, _, F11, PySem.W.mg_of X G a11, b11⟩
    d__meets_always := ⟨_, _, F12, PySem.W.mg_of X G a12, b12⟩
    d_meets_always := ⟨_, _, F13, PySem.W.mg_of X G a13, b13⟩
    d_missed_track := ⟨_, _, F14, PySem.W.mg_of X G a14, b14⟩
    d__law_error := ⟨_, _, F15, PySem.W.mg_of X G a15, b15⟩
    d__law_are_refused := ⟨_, _, F16, PySem.W.mg_of X G a16, b16⟩
    d__law_stop := ⟨_, _, F17, PySem.W.mg_of X G a17, b17⟩
    d__law_first_meeting := ⟨_, _, F18, PySem.W.mg_of X G a18, b18⟩
    d__law_is_small_right := ⟨_, _, F19, PySem.W.mg_of X G a19, b19⟩
    d__law_is_missed_right := ⟨_, _, F20, PySem.W.mg_of X G a20, b20⟩
    d__law_shared := ⟨_, _, F21, PySem.W.mg_of X G a21, b21⟩
    d__law_far_meeting := ⟨_, _, F22, PySem.W.mg_of X G a22, b22⟩
    d__law_great_number := ⟨_, _, F23, PySem.W.mg_of X G a23, b23⟩
    d__law_is_great_right := ⟨_, _, F24, PySem.W.mg_of X G a24, b24⟩
    d__law_right := ⟨_, _, F25, PySem.W.mg_of X G a25, b25⟩
    d__law_well := ⟨_, _, F26, PySem.W.mg_of X G a26, b26⟩
    d_law := ⟨_, _, F27, PySem.W.mg_of X G a27, b27⟩
  }
  refine ⟨PySem.W.fnOf "law" "law" (defArgs s_law) (defBody s_law) (defScope s_law) .none kV27 dc27 pm27 an27 cd27 ct27, fun s v => .of_eq rfl, fun base _ _ => ?_⟩
  have G__law_take : Pr l.prog w K mg base "_law_take" s_law_take 1 ["_law_well_here", "_law_limit"] q_law_take := ok_law_take T 
  have G__law_pick : Pr l.prog w K mg base "_law_pick" s_law_pick 2 ["_law_well_here", "_law_some"] (q_law_pick K) := ok_law_pick T G__law_take
  have G_is_number : Pr l.prog w K mg base "is_number" s_is_number 1 ["value"] (q_is_number K) := ok_is_number T 
  have G_is_whole : Pr l.prog w K mg base "is_whole" s_is_whole 2 ["value", "low", "high"] (q_is_whole K) := ok_is_whole T G_is_number
  have G__need_number : PrX l.prog w K mg base "_need_number" s_need_number 3 ["value", "low", "high"] (q_need_number K C) := ok_need_number T G_is_whole
  have G__need_track : PrX l.prog w K mg base "_need_track" s_need_track 4 ["tail", "ring"] (q_need_track K C) := ok_need_track T G__need_number
  have G__stop : Pr l.prog w K mg base "_stop" s_stop 1 ["tail", "ring", "steps"] q_stop := ok_stop T 
  have G_stop_at : PrX l.prog w K mg base "stop_at" s_stop_at 5 ["tail", "ring", "steps"] (q_stop_at K C) := ok_stop_at T G__need_track G__need_number G__stop
  have G__need_walkers : PrX l.prog w K mg base "_need_walkers" s_need_walkers 4 ["slow", "fast", "lead", "high"] (q_need_walkers K C) := ok_need_walkers T G__need_number
  have G__inverse : Pr l.prog w K mg base "_inverse" s_inverse 1 ["number", "ring"] q_inverse := ok_inverse T 
  have G__least_turn : Pr l.prog w K mg base "_least_turn" s_least_turn 2 ["tail", "ring", "slow", "fast", "lead"] q_least_turn := ok_least_turn T G__inverse
  have G_meet : PrX l.prog w K mg base "meet" s_meet 5 ["tail", "ring", "slow", "fast", "lead"] (q_meet K C) := ok_meet T G__need_track G__need_walkers G__least_turn
  have G__meets_always : Pr l.prog w K mg base "_meets_always" s_u_meets_always 1 ["slow", "fast", "lead"] q_meets_always0 := ok_u_meets_always T 
  have G_meets_always : PrX l.prog w K mg base "meets_always" s_meets_always 5 ["slow", "fast", "lead"] (q_meets_always K C) := ok_meets_always T G__need_walkers G__meets_always
  have G_missed_track : PrX l.prog w K mg base "missed_track" s_missed_track 5 ["slow", "fast", "lead"] (q_missed_track K C) := ok_missed_track T G__need_walkers G__meets_always G__least_turn
  have G__law_error : Pr l.prog w K mg base "_law_error" s_law_error 6 ["_law_branch", "_law_some"] (q_law_error K C) := ok_law_error T G_stop_at G_meet G_meets_always G_missed_track
  have G__law_are_refused : PrG l.prog w K mg base "_law_are_refused" s_law_are_refused 7 ["_law_well_here"] q_turn := ok_law_are_refused T G__law_pick G__law_take G__law_error
  have G__law_stop : Pr l.prog w K mg base "_law_stop" s_law_stop 1 ["_law_tail_here", "_law_round_here", "_law_paces"] q_stop := ok_law_stop T 
  have G__law_first_meeting : Pr l.prog w K mg base "_law_first_meeting" s_law_first_meeting 2 ["_law_tail_here", "_law_round_here", "_law_calm", "_law_quick", "_law_gap"] q_first_meeting := ok_law_first_meeting T G__law_stop
  have G__law_is_small_right : PrG l.prog w K mg base "_law_is_small_right" s_law_is_small_right 6 ["_law_well_here"] q_turn := ok_law_is_small_right T G__law_first_meeting G__law_take G_meet G_stop_at
  have G__law_is_missed_right : PrG l.prog w K mg base "_law_is_missed_right" s_law_is_missed_right 6 ["_law_well_here"] q_turn := ok_law_is_missed_right T G__law_take G_missed_track G_meets_always G__law_first_meeting
  have G__law_shared : Pr l.prog w K mg base "_law_shared" s_law_shared 1 ["_law_first", "_law_second"] q_shared := ok_law_shared T 
  have G__law_far_meeting : Pr l.prog w K mg base "_law_far_meeting" s_law_far_meeting 2 ["_law_tail_here", "_law_round_here", "_law_calm", "_law_quick", "_law_gap"] q_far_meeting := ok_law_far_meeting T G__law_shared
  have G__law_great_number : Pr l.prog w K mg base "_law_great_number" s_law_great_number 2 ["_law_well_here"] q_great_number := ok_law_great_number T G__law_take
  have G__law_is_great_right : PrG l.prog w K mg base "_law_is_great_right" s_law_is_great_right 6 ["_law_well_here"] q_turn := ok_law_is_great_right T G__law_far_meeting G__law_great_number G_stop_at G__law_stop G_meets_always G_meet
  have G__law_right : PrG l.prog w K mg base "_law_right" s_law_right 8 ["_law_well_here"] q_law_right := ok_law_right T G__law_are_refused G__law_is_small_right G__law_is_missed_right G__law_is_great_right
  have G__law_well : Pr l.prog w K mg base "_law_well" s_law_well 1 ["_law_script", "_law_turn"] (q_law_well K) := ok_law_well T 
  have G_law : PrG l.prog w K mg base "law" s_law 9 ["_law_script"] (sp_law K) := ok_law T G__law_right G__law_well
  obtain ⟨f, fd, F, gl, bd, R⟩ := G_law
  have e1 := gl.symm.trans (PySem.W.mg_of X G a27)
  cases e1
  obtain ⟨x1, x2, x3, x4, x5, x6, x7, x8, x9, e2, lk, _⟩ := F.ex
  rw [l27] at lk
  injection lk with lk
  injection lk with _ _ l3 _
  injection l3 with l4
  first | rw [← l4] at R | rw [l4] at R | rw [e2, ← l4] at R
  exact R
theorem walk {l : PySem.W.OpenLaw} {q : Program} {loose : List Str} {XP : (Str → Option Value) → Heap → Prop} {YP : World → Heap → Prop} {d : DefRec} {K : Params → PySem.W.Frag} (hn : l.most = some 63) (hdf : d.params.defaults = [])
    (hY : ∀ (w : World) (h : Heap), YP w h → (K w.params).In h)
    (F : ∀ (w : World) (mg : Str → Option Value) (fa : Addr) (h : Heap), (K w.params).In h → h.Ns mainGlobals mg → mg d.name = some (.ref fa) →
      ∃ fd : FuncData, (∀ (s : Shared) (u : Value), BindsTo s fd ⟨[u], []⟩ [("_law_script", u)]) ∧ ∀ base : Heap, (K w.params).In base → base.Ns mainGlobals mg → FnG l.prog w (K w.params) mg base 9 fa fd ["_law_script"] (sp_law (K w.params))) :
    PySem.W.WalkO q loose XP YP l.row.toRowW d [] (fun f vs => PySem.call f vs) :=
  walkG (n := 63) (k := 9) (x := "_law_script") (sp := fun w => sp_law (K w.params)) hn (by decide) hdf ⟨rfl, by decide, by decide⟩ hY F fun w H a ns hl _ hS => ⟨a, ns, rfl, hS, hl, fun _ => rfl⟩
end K1
open PySem PySem.W PyProof.Rows
set_option maxRecDepth 100000 in
set_option maxHeartbeats 0 in
theorem PySem.Challenge.cw_arrowcells_k65_walkers_step_by_step_holds : PySem.Challenge.rw_arrowcells_k65_walkers_step_by_step.Holds := by
  w_on; o_law; k_head; (case hw => w_witness2)
  k_fill
  refine K1.walk (l := PySem.Challenge.rw_arrowcells_k65_walkers_step_by_step) rfl rfl (fun w h Y => PySem.W.kIn_of Y) ?F
  case F =>
    intro w mg fa h KX G hmg
    refine' K1.all_mk KX G hmg ?aC ?aCA ?xL ?sa ?ga ?gg ?nf ?iI ?tI ?lI ?cI ?kI ?kC ?eC ?tC ?hC ?iC ?sC ?isC ?isG ?isT ?isM ?iCA ?tCA ?sCA ?a0 ?l0 ?c0 ?k0 ?a1 ?l1 ?c1 ?k1 ?a2 ?l2 ?c2 ?k2 ?a3 ?l3 ?c3 ?k3 ?a4 ?l4 ?c4 ?k4 ?a5 ?l5 ?c5 ?k5 ?a6 ?l6 ?c6 ?k6 ?a7 ?l7 ?c7 ?k7 ?a8 ?l8 ?c8 ?k8 ?a9 ?l9 ?c9 ?k9 ?a10 ?l10 ?c10 ?k10 ?a11 ?l11 ?c11 ?k11 ?a12 ?l12 ?c12 ?k12 ?a13 ?l13 ?c13 ?k13 ?a14 ?l14 ?c14 ?k14 ?a15 ?l15 ?c15 ?k15 ?a16 ?l16 ?c16 ?k16 ?a17 ?l17 ?c17 ?k17 ?a18 ?l18 ?c18 ?k18 ?a19 ?l19 ?c19 ?k19 ?a20 ?l20 ?c20 ?k20 ?a21 ?l21 ?c21 ?k21 ?a22 ?l22 ?c22 ?k22 ?a23 ?l23 ?c23 ?k23 ?a24 ?l24 ?c24 ?k24 ?a25 ?l25 ?c25 ?k25 ?a26 ?l26 ?c26 ?k26 ?a27 ?l27 ?c27 ?k27 ?z_isinstance ?z_int ?z_bool ?z_len ?z_list ?z_range ?z_divmod ?z_abs ?z_repr ?z_all ?z_max ?z_min ?g_MOST_NUMBER ?g_MOST_MISSED ?q_gcd
    (case aC => k_is)
    (case aCA => k_is)
    (case xL => k_is)
    (case sa => k_is)
    (case ga => k_is)
    (case gg => k_is)
    (case nf => k_is)
    (case iI => k_is)
    (case tI => k_is)
    (case lI => k_is)
    (case cI => k_is)
    (case kI => k_is)
    (case kC => k_is)
    (case eC => k_is)
    (case tC => k_is)
    (case hC => k_is)
    (case iC => k_is)
    (case sC => k_is)
    (case isC => k_is)
    (case isG => k_is)
    (case isT => k_is)
    (case isM => k_is)
    (case iCA => k_is)
    (case tCA => k_is)
    (case sCA => k_is)
    (case a0 => k_is)
    (case l0 => k_is)
    (case c0 => k_is)
    (case k0 => k_is)
    (case a1 => k_is)
    (case l1 => k_is)
    (case c1 => k_is)
    (case k1 => k_is)
    (case a2 => k_is)
    (case l2 => k_is)
    (case c2 => k_is)
    (case k2 => k_is)
    (case a3 => k_is)
    (case l3 => k_is)
    (case c3 => k_is)
    (case k3 => k_is)
    (case a4 => k_is)
    (case l4 => k_is)
    (case c4 => k_is)
    (case k4 => k_is)
    (case a5 => k_is)
    (case l5 => k_is)
    (case c5 => k_is)
    (case k5 => k_is)
    (case a6 => k_is)
    (case l6 => k_is)
    (case c6 => k_is)
    (case k6 => k_is)
    (case a7 => k_is)
    (case l7 => k_is)
    (case c7 => k_is)
    (case k7 => k_is)
    (case a8 => k_is)
    (case l8 => k_is)
    (case c8 => k_is)
    (case k8 => k_is)
    (case a9 => k_is)
    (case l9 => k_is)
    (case c9 => k_is)
    (case k9 => k_is)
    (case a10 => k_is)
    (case l10 => k_is)
    (case c10 => k_is)
    (case k10 => k_is)
    (case a11 => k_is)
    (case l11 => k_is)
    (case c11 => k_is)
    (case k11 => k_is)
    (case a12 => k_is)
    (case l12 => k_is)
    (case c12 => k_is)
    (case k12 => k_is)
    (case a13 => k_is)
    (case l13 => k_is)
    (case c13 => k_is)
    (case k13 => k_is)
    (case a14 => k_is)
    (case l14 => k_is)
    (case c14 => k_is)
    (case k14 => k_is)
    (case a15 => k_is)
    (case l15 => k_is)
    (case c15 => k_is)
    (case k15 => k_is)
    (case a16 => k_is)
    (case l16 => k_is)
    (case c16 => k_is)
    (case k16 => k_is)
    (case a17 => k_is)
    (case l17 => k_is)
    (case c17 => k_is)
    (case k17 => k_is)
    (case a18 => k_is)
    (case l18 => k_is)
    (case c18 => k_is)
    (case k18 => k_is)
    (case a19 => k_is)
    (case l19 => k_is)
    (case c19 => k_is)
    (case k19 => k_is)
    (case a20 => k_is)
    (case l20 => k_is)
    (case c20 => k_is)
    (case k20 => k_is)
    (case a21 => k_is)
    (case l21 => k_is)
    (case c21 => k_is)
    (case k21 => k_is)
    (case a22 => k_is)
    (case l22 => k_is)
    (case c22 => k_is)
    (case k22 => k_is)
    (case a23 => k_is)
    (case l23 => k_is)
    (case c23 => k_is)
    (case k23 => k_is)
    (case a24 => k_is)
    (case l24 => k_is)
    (case c24 => k_is)
    (case k24 => k_is)
    (case a25 => k_is)
    (case l25 => k_is)
    (case c25 => k_is)
    (case k25 => k_is)
    (case a26 => k_is)
    (case l26 => k_is)
    (case c26 => k_is)
    (case k26 => k_is)
    (case a27 => k_is)
    (case l27 => k_is)
    (case c27 => k_is)
    (case k27 => k_is)
    (case z_isinstance => k_is)
    (case z_int => k_is)
    (case z_bool => k_is)
    (case z_len => k_is)
    (case z_list => k_is)
    (case z_range => k_is)
    (case z_divmod => k_is)
    (case z_abs => k_is)
    (case z_repr => k_is)
    (case z_all => k_is)
    (case z_max => k_is)
    (case z_min => k_is)
    (case g_MOST_NUMBER => k_is)
    (case g_MOST_MISSED => k_is)
    (case q_gcd => k_is)
