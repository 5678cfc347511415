import PyProof.Rows.All
import Wide.All
import OpenK.AllK
import Wide.FinOn
import PyProof.ReprRoads
import KE.KDictPairs
import KE.GoesMore
import HandS.Base
import HandS.Call
import HandS.List
import HandS.Comp
import HandS.Ends
import HandS.Dict
import HandS.Iter
import HandS.Text
import HandS.Words
import HandS.WordsList
import HandS.WordsDict
import HandS.FStr
import HandS.IsInst
import HandS.TupAny
import HandS.DictComp
import HandS.Defaults
import HandS.MakeKwOnly
import HandS.OwnEq
import KE.DatumOrd
import KE.KMathG
import OpenK.KMeth
import HandS.WideBits
import HandS.Gcd
import HandS.Deep
import KE.KExcIs
import HandS.Lambda
import HandS.ExcInit
import HandS.ExcField
import HandS.ExcOwn
import HandS.TryMany
import HandS.ExcIs
import HandS.WordsExc
import PyProof.CallFns
import HandS.SortRule
import HandS.SortInts
import HandS.SortKw
import HandS.Keys
import HandS.More
import HandS.SetFor
import HandS.Strs
import HandS.EndTab
import HandS.Flow
import HandS.Style
import HandS.Wide
import PyProof.FactsAll.dict
import PySem.Challenge.RW_arrowcells_k13_members_and_counts
set_option Elab.async false
set_option linter.all false
set_option maxRecDepth 100000
set_option maxHeartbeats 16000000
/-! Own rules over the hand layer: tuples without a dict of their own, dict(tuple), enumerate(tuple), repr, keywords. -/
namespace Z
open PySem PySem.Spec PyProof.Rows L2

/-! ### tuples whose object is known to have no dict -/
def PObj (o : Obj) : Prop := o.cls = .type "tuple" ∧ o.dict = none ∧ ∃ (its : Array Value) (n : Nat), o.data = .seq its n
def PT (H : Hp) (a : Addr) (xs : List V) : Prop := ∃ o : Obj, H a = some (.frz o (.tup xs)) ∧ PObj o
def newT (H : Hp) (xs : List V) (Q : VK) : Prop := ∀ (p : Addr) (o : Obj), H p = none → PObj o → Q (.ref p) (upd H p (.frz o (.tup xs)))
theorem PT.sq {K : PySem.W.Frag} {H : Hp} {a : Addr} {xs : List V} (h : PT H a xs) : SqT K H a xs := by
  obtain ⟨o, e, _⟩ := h
  exact .inl (.inr ⟨o, e⟩)
theorem PT.new {H : Hp} {p : Addr} {o : Obj} {xs : List V} (ho : PObj o) : PT (upd H p (.frz o (.tup xs))) p xs := ⟨o, upd_same, ho⟩
theorem PT.same {H H' : Hp} {a : Addr} {xs : List V} (e : Same H H') (h : PT H a xs) : PT H' a xs := by
  obtain ⟨o, q, ho⟩ := h
  exact ⟨o, e _ _ q, ho⟩
section
variable {X : Cx} {pins : List (Addr × Obj)} {σ : L2.St} {H : Hp} {s : Shared}
theorem lay_tup {xs : List V} {its : List Value} {Q : VK} {t : Nat} (I : Inv X pins σ H s) (r : Vals xs its) (hz : xs.length ≤ sizeLine) (q : newT H xs Q) :
    EP X pins σ Q (.ref s.heap.objs.size) { s with heap := s.heap.push { cls := .type "tuple", data := .seq its.toArray }, toks := t } := by
  have hn := I.hok.fresh (Nat.le_refl _)
  have hp : PObj { cls := .type "tuple", data := .seq its.toArray } := ⟨rfl, rfl, _, _, rfl⟩
  refine ⟨.ref s.heap.objs.size, _, I.laid (t' := t) (o := .frz { cls := .type "tuple", data := .seq its.toArray } (.tup xs)) (fun b u e => Heap.get?_push_of_some _ e) (Nat.le_refl _) ?_, rfl, q _ _ hn hp⟩
  exact ⟨Heap.get?_push_size _ rfl, hz, its, r, _, Heap.get?_push_size _ rfl, rfl, _, rfl⟩
end
section
variable {X : Cx} {es : List Expr} {t : TA} {pos : Pos}
/-- (a, b): a tuple known to be plain -/
def tTupP (t : TA) : TE := fun σ H Q => t σ H fun xs H1 => xs.length ≤ sizeLine ∧ newT H1 xs Q
theorem pe_tupP {x1} (h : PA X es t) : PE X (.Tuple es x1 pos) (tTupP t) := by
  constructor
  intro pins s σ H Q I hq
  refine wpAny_Tuple_spliced (thn (h.run pos pins s σ H _ I hq) fun us s1 hv => ?_)
  obtain ⟨xs, H1, I1, r, z, q⟩ := hv
  exact ⟨by rw [← r.length]; exact z, lay_tup (t := s1.toks) I1 r z q⟩
/-- tuple(list) -/
def rTupP (K : PySem.W.Frag) : List V → Hp → VK → Prop := fun xs H Q => ∃ p ys, xs = [.ref p] ∧ SqL K H p ys ∧ newT H ys Q
theorem call_tupP : CallR X (.type "tuple") (rTupP X.K) := by
  intro pins s σ H xs us Q I r h
  obtain ⟨p, ys, rfl, hq, q⟩ := h
  obtain ⟨u, rfl, rx⟩ := vals1 r
  cases rx
  obtain ⟨its, r', pl, hz⟩ := I.list hq
  have hlen := r'.length
  refine call_tuple_list pl.isList (fun h' kp => ?_) (by rw [List.size_toArray]; omega)
  exact lay_tup (s := { s with heap := h' }) (t := s.toks) (I.kept (t' := s.toks) kp) r' hz q
/-- t + u -/
def rCatP (K : PySem.W.Frag) : R2 := fun x y H Q => ∃ a b xs ys, x = .ref a ∧ y = .ref b ∧ SqT K H a xs ∧ SqT K H b ys ∧ xs.length + ys.length ≤ sizeLine ∧
  (xs = [] → Q (.ref b) H) ∧ (xs ≠ [] → ys = [] → Q (.ref a) H) ∧ (xs ≠ [] → ys ≠ [] → newT H (xs ++ ys) Q)
theorem op_catP : OpR X (binaryOp .Add) (rCatP X.K) := by
  intro pins s σ H x y v u Q I rx ry h
  obtain ⟨a, b, xs, ys, ex, ey, ha, hb, hz, q0, q1, q2⟩ := h
  by_cases hx : xs = []
  · exact op_catA pins s σ H x y v u Q I rx ry ⟨a, b, xs, ys, ex, ey, ha, hb, hz, q0, q1, fun z => absurd hx z⟩
  · subst ex ey
    cases rx
    cases ry
    obtain ⟨its, r1, p1, _⟩ := I.tuple ha
    obtain ⟨its2, r2, p2, _⟩ := I.tuple hb
    have n1 : its ≠ [] := fun z => hx (r1.nil_iff.mp z)
    refine HT.cat_tup p1 p2 n1 (fun z => ?_) (fun z => ?_) ?_
    · exact ⟨.ref a, H, I, rfl, q1 hx (r2.nil_iff.mp z)⟩
    · have := lay_tup (t := s.toks) I (r1.append r2) (by rw [List.length_append]; exact hz) (q2 hx fun w => z (r2.nil_iff.mpr w))
      exact this
    · rw [← r1.length, ← r2.length]
      exact hz
/-- t[lo:hi] -/
def rSlP (K : PySem.W.Frag) : V → Option Int → Option Int → Hp → VK → Prop := fun x lo hi H Q => ∃ a xs, x = .ref a ∧ SqT K H a xs ∧
  (HT.sIx xs.length 0 lo = 0 ∧ HT.sIx xs.length xs.length hi = xs.length → Q (.ref a) H) ∧ (¬ (HT.sIx xs.length 0 lo = 0 ∧ HT.sIx xs.length xs.length hi = xs.length) → newT H (cutV xs lo hi) Q)
theorem sl_tupP : SlR X (rSlP X.K) := by
  intro pins s σ H x v vl vu lo hi sl Q I rx hs pl pu h
  obtain ⟨a, xs, ex, hx, q1, q2⟩ := h
  by_cases hw : HT.sIx xs.length 0 lo = 0 ∧ HT.sIx xs.length xs.length hi = xs.length
  · exact sl_tupA pins s σ H x v vl vu lo hi sl Q I rx hs pl pu ⟨a, xs, ex, hx, q1, fun z => absurd hw z⟩
  · subst ex
    cases rx
    obtain ⟨its, r, ht, hz⟩ := I.tuple hx
    have hlen : its.toArray.size = xs.length := (List.size_toArray ..).trans r.length.symm
    refine ⟨"tuple", _, PyProof.Rows.slot_tuple_getitem.lookup, ht.typeIs, HT.getItem_tuple_cut ht hs pl pu ?_ ?_ ?_⟩
    · rw [hlen]; exact hw
    · rw [hlen]
      have rr := (r.drop (HT.sIx xs.length 0 lo)).take (HT.sIx xs.length xs.length hi - HT.sIx xs.length 0 lo)
      exact lay_tup (xs := cutV xs lo hi) (t := s.toks) I rr (Nat.le_trans (cutV_length xs lo hi) hz) (q2 hw)
    · rw [hlen]; exact hz
end
end Z
namespace Z
open PySem PySem.Spec PyProof.Rows L2
/-! ### dict(t), t a tuple of pairs -/
section
variable {X : Cx} {pins : List (Addr × Obj)} {σ : L2.St} {H : Hp} {s : Shared}
theorem key_is {k : Key} {u : Value} (r : RelV (kV k) u) : keyIs k u = true := by
  cases k with
  | inl i => obtain ⟨t, rfl⟩ := (show ∃ t, u = Value.int i t from r); exact keyIs_int i t
  | inr x => obtain ⟨t, rfl⟩ := (show ∃ t, u = Value.str x t from r); exact keyIs_str x t
theorem pairs2 (I : Inv X pins σ H s) : ∀ {ps : List Addr} {kvs : List (Key × V)}, Paired (fun p kv => SqT X.K H p [kV kv.1, kv.2]) ps kvs →
    ∃ (ws : List (Value × Value)) (vs : List (Key × Value)), KV kvs vs ∧ ws.length = ps.length ∧ vs.length = ps.length ∧
      ∀ (j : Nat) (a b : Value), ws[j]? = some (a, b) → (∃ T, ps[j]? = some T ∧ s.heap.IsTuple T #[a, b]) ∧ ∃ k, vs[j]? = some (k, b) ∧ keyIs k a = true
  | _, _, .nil => ⟨[], [], .nil, rfl, rfl, fun j a b e => by simp at e⟩
  | _, _, .cons (a := p) (b := kv) h t => by
    obtain ⟨ws, vs, r, l1, l2, hp⟩ := pairs2 I t
    obtain ⟨its, rv, ht, _⟩ := I.tuple h
    obtain ⟨u, y, ei, ru, ry⟩ := vals2 rv
    subst ei
    refine ⟨(u, y) :: ws, (kv.1, y) :: vs, .cons ⟨rfl, ry⟩ r, by simp [l1], by simp [l2], fun j a b e => ?_⟩
    cases j with
    | zero =>
      have e' : (u, y) = (a, b) := Option.some.inj e
      cases e'
      exact ⟨⟨p, rfl, ht⟩, kv.1, rfl, key_is ru⟩
    | succ j => simpa using hp j a b (by simpa using e)
end
section
variable {X : Cx}
def rDictT (K : PySem.W.Frag) : List V → Hp → VK → Prop := fun xs H Q => ∃ (a : Addr) (ps : List Addr) (kvs : List (Key × V)), xs = [.ref a] ∧ PT H a (ps.map V.ref) ∧ Paired (fun p kv => SqT K H p [kV kv.1, kv.2]) ps kvs ∧
  ∀ p, H p = none → Q (.ref p) (upd H p (.dK (mergeK [] kvs)))
theorem call_dictT (hcalm : X.calm = true) : CallR X (.type "dict") (rDictT X.K) := by
  intro pins s σ H xs us Q I r q
  obtain ⟨a, ps, kvs, ex, hq, hp, q⟩ := q
  subst ex
  obtain ⟨u, eu, rx⟩ := vals1 r
  subst eu
  cases rx
  obtain ⟨its, rv, _, hz⟩ := I.tuple (hq.sq (K := X.K))
  have ei := refs_at rv
  subst ei
  rw [List.length_map] at hz
  obtain ⟨ws, vs, rel, l1, l2, hpr⟩ := pairs2 I hp
  obtain ⟨o, ho, hc, hd, its2, n, hdat⟩ := hq
  obtain ⟨hget, _, its3, rv3, o3, ho3, hc3, n3, hd3⟩ := (show ObjOk X.prog X.w H s.heap a (.frz o (.tup (ps.map V.ref))) from I.hok a _ ho)
  rw [hget] at ho3
  cases ho3
  have e3 := refs_at rv3
  subst e3
  have pl : PlainSeq "tuple" s.heap a (ps.map Value.ref).toArray := ⟨o, n3, hget, hc, hd, hd3⟩
  have pi : PairItems s.heap (ps.map Value.ref).toArray (fun j => ps.getD j 0) ws := by
    refine ⟨by simp [l1], fun j k v e => ?_⟩
    obtain ⟨⟨T, e1, e2⟩, _⟩ := hpr j k v e
    have e4 : ps.getD j 0 = T := by rw [List.getD_eq_getElem?_getD, e1]; rfl
    refine ⟨?_, .inl ?_⟩
    · simp [e1]
    · show s.heap.IsTuple (ps.getD j 0) #[k, v]
      rw [e4]; exact e2
  have hv : PairsHave (mixKind X.prog X.w) ws.length (PairRel ws) vs := by
    refine ⟨by rw [l1, l2], fun i key v e => ?_⟩
    obtain ⟨_, k, e1, e2⟩ := hpr i key v e
    exact ⟨k, e1, e2⟩
  refine PySem.call_dict_pairs (PairArg.tuple a (ps.map Value.ref).toArray (fun j => ps.getD j 0) ws) (I.ok.hd hcalm) ⟨pl, pi⟩ hv (by rw [l1]; exact hz) fun h' tk hd' k => ?_
  have hm : (s.heap.objs.size == sysModules) = false := beq_eq_false_iff_ne.mpr (Nat.ne_of_gt I.big)
  have hlen : (mergeK [] kvs).length ≤ sizeLine := by
    refine Nat.le_trans (length_mergeK kvs []) ?_
    rw [List.length_nil, Nat.zero_add, rel.length, l2]
    exact hz
  refine ⟨.ref s.heap.objs.size, upd H s.heap.objs.size (.dK (mergeK [] kvs)), ?_, rfl, q _ (I.hok.fresh (Nat.le_refl _))⟩
  refine I.laid (t' := tk) (fun b u e => k b u (by simp) e) (Nat.le_refl _) ?_
  exact ⟨hlen, hm, merged [] vs, KV.merge rel .nil, hd'⟩
end

/-! ### enumerate(t), t a tuple -/
open PySem.Builtin in
theorem meets_enum1 {v : Value} {o : Obj} {H : Heap → Prop} (B : Begins v o H) :
    Meets (Builtin.«enumerate.__new__» ⟨[.type "enumerate", v], []⟩) (fun _ R s => H s.heap ∧
      R (.ok (.ret (.ref (s.heap.push o).objs.size)))
        { s with heap := (s.heap.push o).push { cls := .type "enumerate", data := .fields #[.none, .bool false, .ref s.heap.objs.size, rawInt 0, .none, .none] } }) := by
  refine .of_wp fun prog w A R s h => ?_
  obtain ⟨hp, g, d, tk, os⟩ := s
  obtain ⟨h1, h⟩ := h
  have subE := sub_enumerate
  have q1 : ∀ {A' : Around} {E Q : Value → Shared → Prop}, Q (.ref hp.objs.size) ⟨hp.push o, g, d, tk, os⟩ → wpAny (model prog w) A' (pyIter v) Q E ⟨hp, g, d, tk, os⟩ := fun q => B.iter prog w _ _ ⟨hp, g, d, tk, os⟩ _ h1 q
  wp_walk using q1
  refine wpAny_stack_any fun st => wpAny_pure ?_
  split
  · rename_i c _ _ _ _ _
    cases (c == Value.type "enumerate") <;> (wp_walk using q1; exact ⟨_, rfl, h⟩)
  · wp_walk using q1
    exact ⟨_, rfl, h⟩
theorem call_enum_tuple {prog : Program} {w : World} {A : Around} {E : Value → Shared → Prop} {s : Shared} {t : Addr} {items : Array Value} {Q : Value → Shared → Prop} (hL : s.heap.IsTuple t items)
    (h : ∀ h', IsEnum h' (s.heap.objs.size + 1) s.heap.objs.size 0 .none → h'.IsTupleIter s.heap.objs.size t 0 → h'.objs.size = s.heap.objs.size + 2 →
      (∀ b o, s.heap.get? b = some o → h'.get? b = some o) → Q (.ref (s.heap.objs.size + 1)) { s with heap := h' }) :
    wpAny (model prog w) A (call (.type "enumerate") [.ref t]) Q E s := by
  refine callType_new F.called_enumerate (by decide) (F.typeCall_enumerate_1 _) (F.newCall_enumerate_1 _) (fun obj => F.args_object_init_2 obj _) F.entry_enumerate_new
    (meets_enum1 (begins_tuple t items)) ⟨hL, ?_⟩
  have hz : (s.heap.push { cls := .type "tuple_iterator", data := .fields #[.ref t, .int 0 0] }).objs.size = s.heap.objs.size + 1 := Heap.size_push ..
  show _ ∧ _
  rw [hz]
  have he : IsEnum ((s.heap.push { cls := .type "tuple_iterator", data := .fields #[.ref t, .int 0 0] }).push
      { cls := .type "enumerate", data := .fields #[.none, .bool false, .ref s.heap.objs.size, rawInt 0, .none, .none] }) (s.heap.objs.size + 1) s.heap.objs.size 0 .none := by
    have q := Heap.get?_push_size (s.heap.push { cls := .type "tuple_iterator", data := .fields #[.ref t, .int 0 0] })
      (o := { cls := .type "enumerate", data := .fields #[.none, .bool false, .ref s.heap.objs.size, rawInt 0, .none, .none] }) rfl
    rw [hz] at q
    exact q
  exact ⟨⟨_, he, rfl⟩, h _ he ⟨_, Heap.get?_push_of_some _ (Heap.get?_push_size _ rfl), rfl, rfl⟩ (by rw [Heap.size_push, hz]) fun b o x => Heap.get?_push_of_some _ (Heap.get?_push_of_some _ x)⟩
section
/-- the tuple at a, each item in a new pair with its place -/
def IteT (K : PySem.W.Frag) (a : Addr) : It :=
  ⟨fun i H => ∃ (xs : List V) (x : V), SqT K H a xs ∧ xs[i]? = some x,
   fun i H v H' => ∃ T x, v = .ref T ∧ H T = none ∧ H' = upd H T (.tup [.int (i : Nat), x]) ∧ ∀ xs, SqT K H a xs → xs[i]? = some x,
   fun i H => ∃ xs : List V, SqT K H a xs ∧ xs.length = i⟩
theorem turn_enumT {P : Program} {w : World} {K : PySem.W.Frag} {elts : List Expr} {kk : Nat} {tpos : Pos} (a e it : Addr) :
    Turn P w K (.Tuple elts kk tpos) (IteT K a) [e, it] e (fun i h => (∃ old, IsEnum h e it ((i : Nat) : Int) old) ∧ h.IsTupleIter it a i ∧ e ≠ it ∧ a ≠ it ∧ a ≠ e) := by
  refine ⟨by simp, fun i h st b hb => ?_, fun i h h' st k => ?_, ?_, ?_, ?_⟩
  · obtain ⟨⟨old, he⟩, ⟨o, ho, hc, hd⟩, _⟩ := st
    rcases (by simpa using hb : b = e ∨ b = it) with z | z
    · subst z; exact ⟨_, he, fun v q => nomatch q⟩
    · subst z; exact ⟨o, ho, fun v q => by rw [hd] at q; cases q⟩
  · obtain ⟨⟨old, he⟩, hi, hne⟩ := st
    exact ⟨⟨old, k e (by simp) _ he⟩, hi.at fun o q => k it (by simp) o q, hne⟩
  · intro X hP hw hK hc i pins s σ H E I hf st hg
    subst hP hw hK
    obtain ⟨⟨old, he⟩, hit, hne, hai, hae⟩ := st
    obtain ⟨xs, x, hq, hx⟩ := hg
    obtain ⟨its, rv, p, hz⟩ := I.tuple hq
    obtain ⟨u, hu, ru⟩ := rv.get hx
    have hel : e < s.heap.objs.size := Heap.lt_size he
    have hil : it < s.heap.objs.size := by obtain ⟨_, q, _⟩ := hit; exact Heap.lt_size q
    have D := Draws.tuple (prog := X.prog) (w := X.w) (A := X.A.in1) (I.ok.hd hc) it a hai its.toArray
    have hlt : i < its.toArray.size := by
      have := (List.getElem?_eq_some_iff.mp hu).1
      simpa using this
    refine wpAny_pyNext_enum_itemD D he ⟨hit, p⟩ hlt hne (by simp [hne, Ne.symm hae]) fun x' h' tk hP ho hst hT hsz hk => ?_
    have ex : x' = u := by
      have q : its.toArray[i]? = some x' := hP
      have q2 : its.toArray[i]? = some u := by simpa using hu
      rw [q2] at q
      exact (Option.some.inj q).symm
    subst ex
    refine ⟨_, rfl, wpAny_letOwnedTupleGo_enum (s := { s with heap := h', toks := tk + 1 }) ho fun h'' he' sb => ?_⟩
    have hT2 : h''.get? s.heap.objs.size = some { cls := .type "tuple", data := .seq #[.int i tk, x'] } := (sb.2 _ (Nat.ne_of_gt hel)).trans hT
    have new : ObjOk X.prog X.w (upd H s.heap.objs.size (.tup [.int (i : Nat), x])) h'' s.heap.objs.size (.tup [.int (i : Nat), x]) := by
      refine ⟨by show 2 ≤ sizeLine; decide, [.int i tk, x'], .cons ⟨_, rfl⟩ (.cons ru .nil), ?_⟩
      exact ⟨_, hT2, rfl, _, rfl⟩
    have I1 : Inv X pins σ (upd H s.heap.objs.size (.tup [.int (i : Nat), x])) { s with heap := h'', toks := tk + 1 } := by
      refine I.turnedNew (ch := [e, it]) (fun b ob hb q => ?_) hf (Nat.le_refl _) new
      have nb : b ≠ e := fun z => hb (by simp [z])
      exact (sb.2 b nb).trans (hk b ob nb (fun z => hb (by simp [z])) q)
    refine ⟨.ref s.heap.objs.size, _, I1, rfl, ⟨_, x, rfl, I.hok.fresh (Nat.le_refl _), rfl, fun ys hy => by rw [I.tuple_inj hy hq]; exact hx⟩, ⟨⟨x', ?_⟩, hst.1.at fun o q => (sb.2 it (Ne.symm hne)).trans q, hne, hai, hae⟩, fun b hb => ?_⟩
    · have e1 : ((i + 1 : Nat) : Int) = (i : Int) + 1 := by omega
      rw [e1]
      exact he'
    · have hb' : b < s.heap.objs.size := by
        rcases (by simpa using hb : b = e ∨ b = it) with z | z
        · exact z ▸ hel
        · exact z ▸ hil
      rw [upd_ne (Nat.ne_of_lt hb')]
      exact (hf b hb).1
  · intro X hP hw hK hc i pins s σ H E I hf st hg
    subst hP hw hK
    obtain ⟨⟨old, he⟩, hit, hne, hai, hae⟩ := st
    obtain ⟨xs, hq, hx⟩ := hg
    obtain ⟨its, rv, p, hz⟩ := I.tuple hq
    obtain ⟨f0, f1, f2, f3, f4, f5⟩ := hf it (by simp)
    have hl := rv.length
    have D := Draws.tuple (prog := X.prog) (w := X.w) (A := X.A.in1) (I.ok.hd hc) it a hai its.toArray
    have ei : its.toArray.size = i := by rw [List.size_toArray, ← hl]; exact hx
    exact wpAny_pyNext_enum_endD D he ⟨by rw [ei]; exact hit, p⟩ fun h' eb => ⟨rfl, I.turned (t' := s.toks) (fun b o hb q => eb b o hb q) f0 f1 f3 f4 f5⟩
  · intro A i s Q E st h
    obtain ⟨⟨_, he⟩, _⟩ := st
    exact wpAny_pyIter_enum he h
def iEnumT (K : PySem.W.Frag) (ta : TA) : TI := fun σ H R => ta σ H fun vs H1 => ∃ a xs, vs = [.ref a] ∧ SqT K H1 a xs ∧ R (IteT K a) H1
theorem pi_enumT {X : Cx} {e : Expr} {ta : TA} {p pos tpos : Pos} {elts : List Expr} {kk : Nat} (hg : Gl X "enumerate") (hm : X.mg "enumerate" = none) (ha : PA X [e] ta)
    (hs : starEach [e] X.env = [(false, eval e X.env)] := by rfl) : PI X (.Tuple elts kk tpos) (.Call (.Name "enumerate" p) [e] [] pos) (iEnumT X.K ta) := by
  constructor
  intro pins s σ H R I h
  refine Call_ (ld_blt I hg hm boot_enumerate (PyProof.Rows.callWith_type1 (thn (ha.run pos pins s σ H _ I h) fun us s1 hv => ?_) hs rfl))
  obtain ⟨vs, H1, I1, r1, a, xs, ex, hq, q⟩ := hv
  subst ex
  obtain ⟨u, eu, rx⟩ := vals1 r1
  subst eu
  cases rx
  obtain ⟨its, rv, p', hz⟩ := I1.tuple hq
  have hal : a < s1.heap.objs.size := p'.lt
  refine call_enum_tuple (items := its.toArray) p' fun h' he hit hsz hk => wpAny_pyIter_enum he ?_
  have I2 : Inv X pins σ H1 { s1 with heap := h' } := I1.kept (t' := s1.toks) hk
  have na : a ≠ s1.heap.objs.size := Nat.ne_of_lt hal
  have na2 : a ≠ s1.heap.objs.size + 1 := Nat.ne_of_lt (Nat.lt_succ_of_lt hal)
  refine ⟨s1.heap.objs.size + 1, [s1.heap.objs.size + 1, s1.heap.objs.size], _, _, H1, rfl, I2, turn_enumT a (s1.heap.objs.size + 1) s1.heap.objs.size, ⟨⟨.none, he⟩, hit, Nat.succ_ne_self _, na, na2⟩, fun b hb => ?_, q⟩
  have hle : s1.heap.objs.size ≤ b := by
    rcases (by simpa using hb : b = s1.heap.objs.size + 1 ∨ b = s1.heap.objs.size) with z | z
    · exact z ▸ Nat.le_succ _
    · exact z ▸ Nat.le_refl _
  exact I1.fpOk hle (I1.hok.fresh hle)
end
end Z
namespace Z
open PySem PySem.Spec PyProof.Rows L2
/-! ### defs that are called while no repr runs -/
structure FnG (P : Program) (w : World) (K : PySem.W.Frag) (mg : Str → Option Value) (base : Heap) (k : Nat) (f : Addr) (fd : FuncData) (ps : List Str) (sp : Sp) : Prop where
  len : ∀ vs H Q E, sp vs H Q E → vs.length = ps.length
  run : ∀ (A : Around) (outer : List Env) (s : Shared) (H : Hp) (args : Args) (us : List Value) (vs : List V) (Q : VK) (E : XK), Room k A → A.guards = some [] →
    Env0 P w K mg base A outer s H → BindsTo s fd args (ps.zip us) → Vals vs us → sp vs H Q E → codeAny (model P w) A (.call (.ref f) args) (CR CX0 outer P w H s Q E) s
theorem FnG.of {P : Program} {w : World} {K : PySem.W.Frag} {mg : Str → Option Value} {base : Heap} {k : Nat} {f : Addr} {fd : FuncData} {ps : List Str} {sp : Sp}
    (F : FnOk P w K mg base CX0 k f fd ps sp) : FnG P w K mg base k f fd ps sp :=
  ⟨F.len, fun A outer s H args us vs Q E hr _ => F.run A outer s H args us vs Q E hr⟩
section
variable {P : Program} {w : World} {K : PySem.W.Frag} {mg : Str → Option Value} {base : Heap}
theorem okG {x qual : Str} {st : Stmt} {f : Addr} {fd : FuncData} {N ps : List Str} {k : Nat} {sp : Sp} (F : Fun K x qual st f fd) (S : FnScope N ps (defScope st)) (len : ∀ vs H Q E, sp vs H Q E → vs.length = ps.length)
    (hbody : ∀ (cdv : Value) (A : Around) (outer : List Env) (s : Shared) (H : Hp) (vs : List V) (Q : VK) (E : XK), Room k (A.deeper (envOfC qual (defScope st) s.heap.objs.size f cdv)) →
      (A.deeper (envOfC qual (defScope st) s.heap.objs.size f cdv)).guards = some [] → sp vs H Q E →
      ∃ t, PSs (cxOf CX0 P w K mg base N qual (defScope st) f cdv A outer s H E).nox (defBody st) t ∧ t { nx := fun _ H' => Q .non H', rt := Q } (start N vs) H) : FnG P w K mg base (k + 1) f fd ps sp := by
  obtain ⟨oc, od, kV, doc, pm, an, cdv, ct, osl, rfl, lk, hcd⟩ := F.ex
  refine ⟨len, fun A outer s H args us vs Q E hr hgd e0 hb r hsp => ?_⟩
  have keepB : ∀ b o, base.get? b = some o → s.heap.get? b = some o := fun b o e => (e0.bs b o e).1
  have KX : K.In s.heap := e0.mod.kin.keeps keepB
  have lim : s.heap.NoLimit := e0.mod.nolimit.keeps keepB
  refine codeAny_call_function hr.depth (KX _ _ lk) rfl S.co S.gen rfl (PySem.W.codeRec_of KX hcd) (hb _ _ _ _ ?_)
  refine wpAny_newFunctionEnv_cells S.kind (fun y hy => ?_) fun env he s1 x => ?_
  · rcases S.par y.1 (List.of_mem_zip (a := y.1) (b := y.2) hy).1 with q | q
    · exact .inl q
    · exact .inr ⟨q, PySem.W.cellsFrom_some _ _ _ (.inl q)⟩
  subst he
  refine ⟨lim.keeps x.toInCall.keep, codeAny_func ?_⟩
  obtain ⟨t, ht, hq⟩ := hbody cdv A outer s H vs Q E (hr.deeper _) (by simpa [Around.deeper] using hgd) hsp
  have I0 := inv_start (CX := CX0) (E := E) (cd := cdv) (qual := qual) (f := f) (N := N) S hr.hd e0 (len _ _ _ _ hsp) r x
  refine wpAny_mono (ht.nox.run [] s1 (start N vs) H _ I0 hq) (fun fl s' hs => ?_) fun e s' hs => hs
  have fin : ∀ {σ' : L2.St} {H' : Hp} {v : V} {u : Value}, Inv (cxOf CX0 P w K mg base N qual (defScope st) f cdv A outer s H E) [] σ' H' s' → RelV v u → Q v H' → CE outer P w H s Q u s' :=
    fun J rv q => ⟨_, _, J.os, J.bare, J.base, J.hok, rv, q⟩
  match fl, hs with
  | .ret u, ⟨v, σ', H', J, rv, q⟩ => exact fin J rv q
  | .next, ⟨σ', H', J, q⟩ => exact fin (v := V.non) (u := Value.none) J rfl q
  | .brk, ⟨_, _, _, q⟩ => exact q.elim
  | .cont, ⟨_, _, _, q⟩ => exact q.elim
end
section
variable {X : Cx} {k : Nat} {f : Addr} {fd : FuncData} {ps : List Str} {sp : Sp} {E : XK} {x : Str} {p pos : Pos} {e : Expr} {es : List Expr} {t : TA}
theorem run_fnG {pins : List (Addr × Obj)} {σ : L2.St} {H : Hp} {s : Shared} {Q : VK} {us : List Value} {vs : List V} (F : FnG X.prog X.w X.K X.mg X.base k f fd ps sp) (hr : Room k X.A) (hgd : X.A.guards = some []) (hb : Binds X.K fd ps [])
    (I : Inv X pins σ H s) (r : Vals vs us) (h : sp vs H Q E) : wpAny (model X.prog X.w) X.A (call (.ref f) us) (EP X pins σ Q) X.xe s := by
  have hl : (us ++ []).length = ps.length := by rw [List.append_nil, ← r.length]; exact F.len _ _ _ _ h
  have hb' := hb s us I.kIn hl
  rw [List.append_nil] at hb'
  refine wpAny_call (codeAny_mono (F.run X.A X.stack s H ⟨us, []⟩ us vs Q E hr hgd I.env0 hb' r h) fun r s' hq => ?_)
  match r, hq with
  | .error e, hq => exact False.elim hq
  | .ok (.ret u), hq => exact I.after hq
  | .ok .next, hq => exact False.elim hq
  | .ok .brk, hq => exact False.elim hq
  | .ok .cont, hq => exact False.elim hq
/-- f(e, ..) -/
def tCallG (sp : Sp) (E : XK) (t : TA) : TE := fun σ H Q => t σ H fun vs H1 => sp vs H1 Q E
theorem pe_callG (F : FnG X.prog X.w X.K X.mg X.base k f fd ps sp) (hr : Room k X.A) (hgd : X.A.guards = some []) (hg : Gl X x) (hm : X.mg x = some (.ref f)) (hk : PySem.W.keepIn X.K (.ref f) = true) (hb : Binds X.K fd ps [])
    (ha : PA X (e :: es) t) (hdb : (x == ("__debug__" : Str)) = false := by decide) (he : starEach (e :: es) X.env = (false, eval e X.env) :: starEach es X.env := by rfl) (hpl : (backTo pos (starEach es X.env)).any (·.1) = false := by rfl) :
    PE X (.Call (.Name x p) (e :: es) [] pos) (tCallG sp E0 t) := by
  constructor
  intro pins s σ H Q I h
  refine wpAny_Call_Name_kw (ld_glob I hg hm ?_ hdb)
  refine PySem.W.callWith_K (h₀ := X.base) I.ok.mod.kin hk (thn (ha.run pos pins s σ H _ I h) fun us s1 hv => ?_) he hpl
  obtain ⟨vs, H1, I1, r, q⟩ := hv
  exact ⟨I1.kIn, run_fnG F hr hgd hb I1 r q⟩
/-! ### repr of a list or a tuple -/
def rRepr (K : PySem.W.Frag) : List V → Hp → VK → Prop := fun xs H Q => ∃ (a : Addr) (d : PyData), xs = [.ref a] ∧ Dp K H (.ref a) d ∧ d.showable = true ∧ d.hasDict = false ∧ d.depth ≤ 60 ∧ d.shown.length ≤ sizeLine ∧ Q (.str d.shown) H
theorem call_repr (hgd : X.A.guards = some []) (hu : X.A.units + 64 < cLine) : CallR X (.builtin "repr") (rRepr X.K) := by
  intro pins s σ H xs us Q I r h
  obtain ⟨a, d, ex, hd, sh, nd, dep, hz, q⟩ := h
  subst ex
  obtain ⟨u, eu, rx⟩ := vals1 r
  subst eu
  obtain ⟨as, rd⟩ := Dp.reads I d _ _ hd rx
  cases rx
  refine repr_of_reads' rd sh (fun z => by rw [nd] at z; cases z) hgd (by omega) (fun _ _ e => e) (fun h' t tk hk => ?_) hz
  exact ⟨.str d.shown, H, I.kept (t' := tk) hk, ⟨t, rfl⟩, q⟩
end
end Z
namespace Z
open PySem PySem.Spec PyProof.Rows L2
open PySem.W (Frag findIn isFn mroIn notFirst InstAt Looks looks_findIn looks_mroIn looks_subIn ifBound_K)
section
variable {prog : Program} {w : World} {A : Around} {E : Value → Shared → Prop} {s : Shared} {K : Frag} {x C L f : Addr} {h₀ : Heap} {m : Str → Option Value} {ox : Obj} {od : Option Obj} {b tb : Value}
theorem ne_builtin {Q : Fin → Shared → Prop} (hu : A.units < cLine) (X : K.In s.heap) (I : InstAt s.heap x ox C od) (hs : findIn K (.ref C) "__eq__" = some (some (.ref f))) (hf : isFn K (.ref f) = true)
    (h : wpAny (model prog w) A (call (.ref f) [.ref x, b]) (fun v s' => ∃ c, v = .bool c ∧ Q (.done (.ret (.bool (!c)))) s') E s) :
    wpAny (model prog w) A (Builtin.«object.__ne__» ⟨[.ref x, b], []⟩) Q E s := by
  unfold Builtin.«object.__ne__»
  refine wpAny_bind (wpAny_pure ?_)
  refine wpAny_bind (wpAny_cRoomFor hu ?_)
  refine wpAny_bind (m := callSpecialIfBound? (.ref x) (Str.ofString "__eq__") [b]) (ifBound_K X I hs hf (wpAny_mono h (fun r s' hr => ?_) fun _ _ y => y))
  obtain ⟨c, rfl, hq⟩ := hr
  exact wpAny_bind (wpAny_truthy_bool (wpAny_pure hq))
theorem isObj {M : Model} {h : Heap} (X : K.In h) (I : InstAt h x ox C od) (hm : mroIn K C (.type "object") = some true) : Looks M h (isInstance (.ref x) (.type "object")) true := by
  exact (I.type).andThen (looks_mroIn X hm)
theorem try_ne {Q : Option Value → Shared → Prop} (hu : A.units + 1 < cLine) (X : K.In s.heap) (I : InstAt s.heap x ox C od) (hs : findIn K (.ref C) "__eq__" = some (some (.ref f))) (hf : isFn K (.ref f) = true)
    (hne : findIn K (.ref C) "__ne__" = some (some (.builtin "object.__ne__"))) (hm : mroIn K C (.type "object") = some true)
    (h : wpAny (model prog w) A.in1 (call (.ref f) [.ref x, b]) (fun v s' => ∃ c, v = .bool c ∧ Q (some (.bool (!c))) s') E s) :
    wpAny (model prog w) A (tryCompare (.ref x) "__ne__" b) Q E s := by
  have FN : Slot "object" "__ne__" "object.__ne__" := PySem.F.cmp_object.ne
  have goal : wpAny (model prog w) A (call (.builtin "object.__ne__") [.ref x, b]) (fun v s' => ∃ c, v = .bool c ∧ Q (some v) s') E s := by
    refine wpAny_call (codeAny_call_builtin FN.plain PySem.F.cmpEntry_ne (PySem.W.check_slot PySem.F.cmpKind_ne PySem.F.cmpSplit_ne (isObj X I hm) (PySem.F.cmpArgs_ne _ _) ?_))
    refine ne_builtin (A := A.in1) hu X I hs hf (wpAny_mono h (fun v s' hv => ?_) fun _ _ e => e)
    obtain ⟨c, rfl, hq⟩ := hv
    exact ⟨c, rfl, !c, rfl, hq⟩
  have fin : wpAny (model prog w) A (call (.builtin "object.__ne__") ([.ref x] ++ [b]) >>= fun v => pure (some v)) (fun r s' => ∃ c, r = some (.bool c) ∧ Q r s') E s := by
    refine wpAny_bind (wpAny_mono goal (fun v s' hv => ?_) fun _ _ e => e)
    obtain ⟨c, rfl, hq⟩ := hv
    exact wpAny_pure ⟨c, rfl, hq⟩
  have key : wpAny (model prog w) A (callSpecialIfBound? (.ref x) "__ne__" [b]) (fun r s' => ∃ c, r = some (.bool c) ∧ Q r s') E s := by
    simp only [callSpecialIfBound?, bindSpecialIfBound?]
    refine wpAny_holding (wpAny_bind (wpAny_bind (wpAny_bind (I.type.here ((looks_findIn X hne).here ?_)))))
    simp only [FN.bind]
    refine wpAny_bind (wpAny_askSetting (wpAny_ite ?_))
    split
    · exact wpAny_bind (wpAny_pure (wpAny_pure fin))
    · exact wpAny_tryCatch (wpAny_bind (wpAny_pure (wpAny_pure fin)))
  unfold tryCompare
  refine wpAny_bind (wpAny_mono key (fun r s' hr => ?_) fun _ _ e => e)
  obtain ⟨c, rfl, hq⟩ := hr
  exact wpAny_pure hq
theorem rich_ne {Q : Value → Shared → Prop} (hu : A.units + 1 < cLine) (X : K.In s.heap) (I : InstAt s.heap x ox C od) (hb : Looks (model prog w) s.heap (typeOf b) tb) (hn : notFirst K C tb = true)
    (hs : findIn K (.ref C) "__eq__" = some (some (.ref f))) (hf : isFn K (.ref f) = true) (hne : findIn K (.ref C) "__ne__" = some (some (.builtin "object.__ne__"))) (hm : mroIn K C (.type "object") = some true)
    (h : wpAny (model prog w) A.in1 (call (.ref f) [.ref x, b]) (fun v s' => ∃ c, v = .bool c ∧ Q (.bool (!c)) s') E s) : wpAny (model prog w) A (richCompare .NotEq (.ref x) b) Q E s := by
  have one : wpAny (model prog w) A (tryCompare (.ref x) "__ne__" b) (fun r s' => ∃ v, r = some v ∧ Q v s') E s := by
    refine try_ne hu X I hs hf hne hm (wpAny_mono h (fun v s' hv => ?_) fun _ _ e => e)
    obtain ⟨c, rfl, hq⟩ := hv
    exact ⟨c, rfl, _, rfl, hq⟩
  unfold richCompare
  simp only [oneThing_ref, cmpInfo_NotEq]
  refine wpAny_holding (wpAny_bind (wpAny_cRoomFor (by omega) ?_))
  refine wpAny_bind (I.type.here (wpAny_bind (hb.here ?_)))
  by_cases q : (Value.ref C != tb) = true
  · rw [if_pos q]
    have e : PySem.W.subIn K tb (.ref C) = some false := by
      rcases Bool.or_eq_true_iff.mp hn with e | e
      · rw [eq_of_beq e] at q; simp at q
      · exact eq_of_beq e
    refine wpAny_bind ((looks_subIn X e).here ?_)
    simp only [Bool.false_eq_true, if_false]
    refine wpAny_bind (wpAny_mono one (fun r s' z => ?_) fun _ _ e => e)
    obtain ⟨v, rfl, hq⟩ := z
    exact wpAny_pure hq
  · rw [if_neg q]
    refine wpAny_bind (wpAny_pure ?_)
    simp only [Bool.false_eq_true, if_false]
    refine wpAny_bind (wpAny_mono one (fun r s' z => ?_) fun _ _ e => e)
    obtain ⟨v, rfl, hq⟩ := z
    exact wpAny_pure hq
end
/-! ### == and != of an own class with an __eq__ of its own -/
/-- the class's facts -/
structure OwnEq (K : Frag) (C f : Addr) (fd : FuncData) : Prop where
  eq : findIn K (.ref C) "__eq__" = some (some (.ref f))
  fn : isFn K (.ref f) = true
  ne : findIn K (.ref C) "__ne__" = some (some (.builtin "object.__ne__"))
  top : mroIn K C (.type "object") = some true
  bd : Binds K fd ["self", "other"] []
/-- the right side's type, as the comparison asks it -/
inductive RightOf (K : Frag) (C : Addr) (H : Hp) : V → Prop where
  | int (i : Int) (h : notFirst K C (.type "int") = true) : RightOf K C H (.int i)
  | str (x : Str) (h : notFirst K C (.type "str") = true) : RightOf K C H (.str x)
  | tup {a : Addr} {xs : List V} (e : SqT K H a xs) (h : notFirst K C (.type "tuple") = true) : RightOf K C H (.ref a)
  | ins {a dx : Addr} {fs : List (Str × V)} (e : H a = some (.ins C dx fs)) : RightOf K C H (.ref a)
section
variable {X : Cx} {k : Nat} {C f : Addr} {fd : FuncData} {sp : Sp}
theorem RightOf.look {pins : List (Addr × Obj)} {σ : L2.St} {H : Hp} {s : Shared} {v : V} {u : Value} (I : Inv X pins σ H s) (r : RightOf X.K C H v) (ru : RelV v u) :
    ∃ tb, Looks (model X.prog X.w) s.heap (typeOf u) tb ∧ notFirst X.K C tb = true := by
  cases r with
  | int i h => obtain ⟨t, rfl⟩ := (show ∃ t, u = Value.int i t from ru); exact ⟨_, Looks.of_pure rfl, h⟩
  | str x h => obtain ⟨t, rfl⟩ := (show ∃ t, u = Value.str x t from ru); exact ⟨_, Looks.of_pure rfl, h⟩
  | @tup a xs e h =>
    cases (show u = Value.ref a from ru)
    obtain ⟨its, _, ⟨o, ho, hc, _⟩, _⟩ := I.tuple e
    exact ⟨.type "tuple", fun A Q E s' kp q => wpAny_typeOf ⟨o, kp _ _ ho, hc⟩ q, h⟩
  | @ins a dx fs e =>
    cases (show u = Value.ref a from ru)
    obtain ⟨mA, J, _⟩ := ins_get I.hok e
    obtain ⟨od, J, _⟩ := J.look
    exact ⟨.ref C, J.type, by simp [notFirst]⟩
/-- what stands for the comparison's wish: a bool comes -/
def rOwnC (C : Addr) (sp : Sp) (g : Bool → Bool) (K : Frag) : R2 := fun x y H Q => ∃ a dx fs, x = .ref a ∧ H a = some (.ins C dx fs) ∧ RightOf K C H y ∧ sp [x, y] H (fun v H' => ∃ c, v = .bl c ∧ Q (.bl (g c)) H') E0
theorem op_ownEq (F : FnOk X.prog X.w X.K X.mg X.base CX0 k f fd ["self", "other"] sp) (O : OwnEq X.K C f fd) (hr : Room k X.A) : OpR X (compareOp .Eq) (rOwnC C sp id X.K) := by
  intro pins s σ H x y v u Q I rx ry h
  obtain ⟨a, dx, fs, rfl, ha, hy, hsp⟩ := h
  cases rx
  obtain ⟨mA, J, _⟩ := ins_get I.hok ha
  obtain ⟨od, J, _⟩ := J.look
  obtain ⟨tb, hb, hn⟩ := hy.look I ry
  obtain ⟨m, hF⟩ := I.fr
  show wpAny (model X.prog X.w) X.A (richCompare .Eq (.ref a) u) (EP X pins σ Q) X.xe s
  refine PySem.W.cmp_K (op := .Eq) hr.units0 hF I.ok.mod.kin J hb hn O.eq O.fn ?_
  refine wpAny_mono (run_fn (dvs := []) (ds := []) (Q := fun v H' => ∃ c, v = .bl c ∧ Q (.bl (id c)) H') (vs := [.ref a, y]) (us := [.ref a, u]) F hr O.bd .nil pass0 I (.cons rfl (.cons ry .nil)) (by simpa using hsp)) (fun v s' hv => ?_) fun _ _ e => e
  obtain ⟨z, H', I', rz, c, rfl, q⟩ := hv
  cases (show v = Value.bool c from rz)
  exact ⟨.bl c, H', I', rfl, q⟩
theorem run_fn_in1 {pins : List (Addr × Obj)} {σ : L2.St} {H : Hp} {s : Shared} {Q : VK} {us : List Value} {vs : List V} {ps : List Str} (F : FnOk X.prog X.w X.K X.mg X.base CX0 k f fd ps sp) (hr : Room (k + 1) X.A) (hb : Binds X.K fd ps [])
    (I : Inv X pins σ H s) (r : Vals vs us) (h : sp vs H Q E0) : wpAny (model X.prog X.w) X.A.in1 (call (.ref f) us) (EP X pins σ Q) X.xe s := by
  have hl : (us ++ []).length = ps.length := by rw [List.append_nil, ← r.length]; exact F.len _ _ _ _ h
  have hb' := hb s us I.kIn hl
  rw [List.append_nil] at hb'
  refine wpAny_call (codeAny_mono (F.run X.A.in1 X.stack s H ⟨us, []⟩ us vs Q E0 hr.in1 I.env0.in1 hb' r h) fun r s' hq => ?_)
  match r, hq with
  | .error e, hq => exact False.elim hq
  | .ok (.ret u), hq => exact I.after hq
  | .ok .next, hq => exact False.elim hq
  | .ok .brk, hq => exact False.elim hq
  | .ok .cont, hq => exact False.elim hq
theorem op_ownNe (F : FnOk X.prog X.w X.K X.mg X.base CX0 k f fd ["self", "other"] sp) (O : OwnEq X.K C f fd) (hr : Room (k + 1) X.A) : OpR X (compareOp .NotEq) (rOwnC C sp (fun c => !c) X.K) := by
  intro pins s σ H x y v u Q I rx ry h
  obtain ⟨a, dx, fs, rfl, ha, hy, hsp⟩ := h
  cases rx
  obtain ⟨mA, J, _⟩ := ins_get I.hok ha
  obtain ⟨od, J, _⟩ := J.look
  obtain ⟨tb, hb, hn⟩ := hy.look I ry
  show wpAny (model X.prog X.w) X.A (richCompare .NotEq (.ref a) u) (EP X pins σ Q) X.xe s
  refine rich_ne (by have := hr.un; omega) I.kIn J hb hn O.eq O.fn O.ne O.top ?_
  refine wpAny_mono (run_fn_in1 (Q := fun v H' => ∃ c, v = .bl c ∧ Q (.bl (!c)) H') (vs := [.ref a, y]) (us := [.ref a, u]) F hr O.bd I (.cons rfl (.cons ry .nil)) hsp) (fun v s' hv => ?_) fun _ _ e => e
  obtain ⟨z, H', I', rz, c, rfl, q⟩ := hv
  cases (show v = Value.bool c from rz)
  exact ⟨c, rfl, .bl (!c), H', I', rfl, q⟩
end
/-! ### calls by keywords alone -/
theorem kbn_of {K : Frag} {fd : FuncData} {ps ks : List Str} {n : Nat} (g : {α : Type} → List α → List α → List α) (hrel : ∀ {vs zs : List V} {us ws : List Value}, Vals vs us → Vals zs ws → Vals (g vs zs) (g us ws))
    (h : ∀ us ws : List Value, us.length = n → ws.length = ks.length → bindArgs fd ⟨us, ks.zip ws⟩ = pure (ps.zip (g us ws))) : KBn K fd ps n ks (fun us ws => g us ws) (fun vs zs => g vs zs) :=
  ⟨fun _ us ws _ h1 h2 => .of_eq (h us ws h1 h2), hrel⟩
section
variable {X : Cx} {CX : CXT} {k n : Nat} {f C : Addr} {fd : FuncData} {ps ks : List Str} {sp : Sp} {E : XK} {x m : Str} {p pos apos : Pos} {o : Expr} {kws : List Keyword} {ta : TE} {tk : TA} {g : List Value → List Value → List Value} {gV : List V → List V → List V}
/-- f(k = v, ..) -/
theorem pe_callN0 (F : FnOk X.prog X.w X.K X.mg X.base CX k f fd ps sp) (hr : Room k X.A) (hg : Gl X x) (hm : X.mg x = some (.ref f)) (hk : PySem.W.keepIn X.K (.ref f) = true) (hb : KBn X.K fd ps 0 ks g gV) (hx : Passes CX X E) (hkw : PK X kws tk)
    (hall : (backToKw pos (keywordEach kws X.env)).all (·.1.isSome) = true := by rfl) (hks : (backToKw pos (keywordEach kws X.env)).filterMap (·.1) = ks := by rfl)
    (hdb : (x == ("__debug__" : Str)) = false := by decide) (hpl : ((backTo pos (starEach [] X.env)).any (·.1) || (backToKw pos (keywordEach kws X.env)).any (·.1.isNone)) = false := by rfl) :
    PE X (.Call (.Name x p) [] kws pos) (tCallN 0 ks.length sp gV E tNil tk) := by
  constructor
  intro pins s σ H Q I h
  refine wpAny_Call_Name_kw (ld_glob I hg hm ?_ hdb)
  refine PySem.W.callWith_KW0 (h₀ := X.base) I.ok.mod.kin hk hall (thn (hkw.run pos pins s σ H _ I h) fun ws s2 hv => ?_) hpl
  obtain ⟨zs, H2, I2, rz, l1, l2, q2⟩ := hv
  refine ⟨I2.kIn, ?_⟩
  rw [hks]
  exact run_fnN (us := []) (vs := []) F hr hb hx I2 .nil rz rfl l2 q2
/-- o.m(k = v, ..) -/
def tMethN (C : Addr) (m : Str) (n : Nat) (sp : Sp) (gV : List V → List V → List V) (E : XK) (ta : TE) (tk : TA) : TE := fun σ H Q => ta σ H fun x H1 => ∃ a dx fs, x = .ref a ∧ H1 a = some (.ins C dx fs) ∧ fs.lookup m = none ∧
  tk σ H1 fun zs H2 => zs.length = n ∧ sp (gV [x] zs) H2 Q E
theorem pe_methN0 {pl : Sem Bool} (he : PE X o ta) (c : Cls X.K C) (hm : Meth X.K C m f) (F : FnOk X.prog X.w X.K X.mg X.base CX k f fd ps sp) (hr : Room k X.A) (hb : KBn X.K fd ps 1 ks g gV) (hx : Passes CX X E) (hkw : PK X kws tk)
    (hall : (backToKw pos (keywordEach kws X.env)).all (·.1.isSome) = true := by rfl) (hks : (backToKw pos (keywordEach kws X.env)).filterMap (·.1) = ks := by rfl)
    (hpl : ((backTo pos (starEach [] X.env)).any (·.1) || (backToKw pos (keywordEach kws X.env)).any (·.1.isNone)) = false := by rfl)
    (ht : eval (.Call (.Attribute o m apos) [] kws pos) X.env = (do
      let ov ← eval o X.env
      standAt apos.atName
      let (f, first) ← holding [ov] (getMethod ov m pl)
      callWith pos f first (backTo pos (starEach [] X.env)) (backToKw pos (keywordEach kws X.env))) := by rfl) :
    PE X (.Call (.Attribute o m apos) [] kws pos) (tMethN C m ks.length sp gV E ta tk) := by
  constructor
  intro pins s σ H Q I h
  refine PySem.W.methodCall_KW (pl := pl) (thn (he.run pins s σ H _ I h) fun u s1 hv => ?_) ht
  obtain ⟨x, H1, I1, rx, a, dx, fs, ex, ea, l, q⟩ := hv
  subst ex
  obtain rfl : u = Value.ref a := rx
  refine getmeth_ok I1 ea c hm l ?_
  refine PySem.W.callWith_KW0 (first := [.ref a]) (h₀ := X.base) I1.ok.mod.kin hm.kp hall (thn (hkw.run pos pins s1 σ H1 _ I1 q) fun ws s2 hv => ?_) hpl
  obtain ⟨zs, H2, I2, rz, l2, q2⟩ := hv
  refine ⟨I2.kIn, ?_⟩
  rw [hks]
  exact run_fnN (n := 1) (us := [.ref a]) (vs := [.ref a]) F hr hb hx I2 (.cons rfl .nil) rz rfl (by simpa using l2) q2
end
end Z
namespace Z
open PySem PySem.Spec PyProof.Rows L2
/-! ### the law's end, for a law that is called while no repr runs -/
theorem law_callG {P : Program} {w : World} {K : PySem.W.Frag} {mg mb : Str → Option Value} {k : Nat} {fa a : Addr} {fd : FuncData} {x : Str} {sp : Sp} {s₁ : Shared} {vs : List Value} {ns : List Int}
    (KX : K.In s₁.heap) (hns : s₁.heap.Ns mainGlobals mg) (hb : s₁.heap.Ns builtinsNs mb) (hbb : ∀ x : Str, x ≠ "__name__" → mb x = bootBuiltins x) (hlim : s₁.heap.NoLimit) (hg : s₁.gens = #[])
    (ha : s₁.heap.get? a = some { cls := .type "list", data := .seq vs.toArray }) (hi : IntsAre vs ns) (hl : ns.length ≤ sizeLine) (hr : Room k callerA)
    (F : ∀ base : Heap, K.In base → base.Ns mainGlobals mg → FnG P w K mg base k fa fd [x] sp) (hbind : ∀ (s : Shared) (u : Value), BindsTo s fd ⟨[u], []⟩ [(x, u)])
    (hsp : ∀ H : Hp, Only H → SqL K H a (ns.map V.int) → sp [.ref a] H (fun v _ => v = .bl true) fun _ _ _ => False) :
    codeAny (model P w) callerA (.call (.ref fa) ⟨[.ref a], []⟩) (fun r s' => r = .ok (.ret (.bool true)) ∧ OldK s₁.heap s'.heap ∧ s'.os = s₁.os ∧ AllBare s'.gens) s₁ := by
  have rv := vals_ints hi
  have lenV := hi.length
  suffices core : ∀ H : Hp, Only H → SqL K H a (ns.map V.int) → HOk P w H s₁.heap → (∀ b, H b ≠ none → b = a) → (H a ≠ none → K.lookup a = none) →
      codeAny (model P w) callerA (.call (.ref fa) ⟨[.ref a], []⟩) (fun r s' => r = .ok (.ret (.bool true)) ∧ OldK s₁.heap s'.heap ∧ s'.os = s₁.os ∧ AllBare s'.gens) s₁ by
    cases hk : K.lookup a with
    | some o =>
      have e := KX a o hk
      rw [ha] at e
      cases e
      have none0 : ∀ (b : Addr) (u : HO), (fun _ => none : Hp) b = some u → False := fun b u z => by cases (show (none : Option HO) = some u from z)
      refine core (fun _ => none) (fun _ => .inl rfl) (.inr ⟨_, vs.toArray, _, hk, rfl, rfl, rfl, ?_, by simpa using rv⟩) (fun b u z => (none0 b u z).elim) (fun b z => absurd rfl z) fun z => absurd rfl z
      rw [List.size_toArray, lenV]
      exact hl
    | none =>
      let sc : HO := .frz { cls := .type "list", data := .seq vs.toArray } (.lst (ns.map V.int))
      refine core (fun b => if b = a then some sc else none) (fun b => ?_) (.inl (.inr ⟨{ cls := .type "list", data := .seq vs.toArray }, if_pos rfl⟩)) (fun b u z => ?_) (fun b z => ?_) fun _ => hk
      · by_cases e : b = a
        · exact .inr ⟨_, _, if_pos e⟩
        · exact .inl (if_neg e)
      · by_cases e : b = a
        · subst e
          have z' : some sc = some u := (if_pos rfl).symm.trans z
          cases z'
          exact ⟨ha, by rw [List.length_map]; exact hl, vs, _, rv, ha⟩
        · cases (if_neg e).symm.trans z
      · by_cases e : b = a
        · exact e
        · exact absurd (if_neg e) z
  intro H hO hS hok hA hK
  have isA : ∀ {b : Addr}, H b ≠ none → s₁.heap.get? b = some { cls := .type "list", data := .seq vs.toArray } := fun {b} z => by rw [hA b z]; exact ha
  have noD : ∀ {b : Addr} {o : Obj} {es : Array DictEntry} {ep : Nat}, s₁.heap.get? b = some o → o.data = .dict es ep → H b = none := fun {b o es ep} e d => by
    by_cases z : H b = none
    · exact z
    · rw [isA z] at e
      cases e
      cases (show Data.seq vs.toArray _ = Data.dict es ep from d)
  have nsK : ∀ {b : Addr} {m : Str → Option Value}, s₁.heap.Ns b m → (hidT s₁.heap H).Ns b m := fun n => by
    obtain ⟨o, es, ep, e, d, r⟩ := n
    exact ⟨o, es, ep, hidT_get e (noD e d), d, r⟩
  have hKb : K.In (hidT s₁.heap H) := fun b o e => hidT_get (KX b o e) (by
    by_cases z : H b = none
    · exact z
    · have eb := hA b z
      subst eb
      rw [hK z] at e
      cases e)
  have hM : Mod K mg (hidT s₁.heap H) := ⟨hKb, nsK hns, ⟨mb, nsK hb, hbb⟩, let ⟨mc, h1, h2⟩ := hlim; ⟨mc, nsK h1, h2⟩⟩
  have nil0 : ∀ b : Addr, b ∉ ([] : List Addr) := fun b => by simp
  have e0 : Env0 P w K mg (hidT s₁.heap H) callerA [] s₁ H := ⟨rfl, hM, fun b o e => of_hidT e, Nat.le_of_eq (hidT_size _ _), trivial, fun b hb => absurd hb (nil0 b), hok, .of_eq hg⟩
  refine codeAny_mono ((F _ hKb (nsK hns)).run callerA [] s₁ H ⟨[.ref a], []⟩ [.ref a] [.ref a] _ _ hr rfl e0 (hbind s₁ (.ref a)) (.cons rfl .nil) (hsp H hO hS)) fun r s' h => ?_
  match r, h with
  | .error e, h => exact False.elim h
  | .ok .next, h => exact False.elim h
  | .ok .brk, h => exact False.elim h
  | .ok .cont, h => exact False.elim h
  | .ok (.ret u), h =>
    obtain ⟨v, H', os, bare, un, hok', r', q⟩ := h
    cases (show v = .bl true from q)
    cases (show u = Value.bool true from r')
    refine ⟨rfl, OldK.of_keep fun b o e => ?_, os, bare⟩
    by_cases z : H b = none
    · exact un.keep b o e z (nil0 b) (by simp)
    · rcases hO b with y | ⟨ob, xs, y⟩
      · exact absurd y z
      · obtain ⟨e1, _⟩ := hok b _ y
        obtain ⟨e2, _⟩ := hok' b _ (un.frzs b ob _ y)
        rw [e] at e1
        cases e1
        exact e2
/-- the goal that k_head leaves, from the law's promise -/
theorem walkG {l : PySem.W.OpenLaw} {n k : Nat} {q : Program} {loose : List Str} {XP : (Str → Option Value) → Heap → Prop} {YP : World → Heap → Prop} {d : DefRec} {K : Params → PySem.W.Frag} {sp : World → Sp} {x : Str}
    (hn : l.most = some n) (hn2 : n ≤ sizeLine) (hdf : d.params.defaults = []) (hr : Room k callerA) (hY : ∀ (w : World) (h : Heap), YP w h → (K w.params).In h)
    (F : ∀ (w : World) (mg : Str → Option Value) (fa : Addr) (h : Heap), (K w.params).In h → h.Ns mainGlobals mg → mg d.name = some (.ref fa) →
      ∃ fd : FuncData, (∀ (s : Shared) (u : Value), BindsTo s fd ⟨[u], []⟩ [(x, u)]) ∧ ∀ base : Heap, (K w.params).In base → base.Ns mainGlobals mg → FnG l.prog w (K w.params) mg base k fa fd [x] (sp w))
    (hsp : ∀ (w : World) (H : Hp) (a : Addr) (ns : List Int), ns.length ≤ n → Only H → SqL (K w.params) H a (ns.map V.int) → sp w [.ref a] H (fun v _ => v = .bl true) fun _ _ _ => False) :
    PySem.W.WalkO q loose XP YP l.row.toRowW d [] (fun f vs => PySem.call f vs) := by
  refine Att.attach_call hn hdf fun w s₀ s₁ mg mb fa o pm cd doc a vs ns G Y ho hd hcd hmg hobj hints hlen hg => ?_
  have KX := hY w _ Y
  obtain ⟨fd, hb, hF⟩ := F w mg fa _ KX G.T.g hmg
  exact law_callG KX G.T.g G.T.b G.T.builtins G.T.nolimit hg hobj hints (Nat.le_trans hlen hn2) hr hF hb fun H hO hS => hsp w H a ns hlen hO hS
end Z
namespace Z
open PySem PySem.Spec PyProof.Rows L2
/-! ### name = {k: v for ..}: a local is set to a dict comprehension -/
def InBlk (X : Cx) (scope : Scope) (p : Cx → Prop) : Prop := ∀ s H C cl fp, p (X.blk s H scope (compEnvC scope cl C X.env) fp)
theorem sw_dict {k v : Expr} {cs : List Comprehension} {scope : Scope} {pos py : Pos} {y : Str} {l : Nat} {env : Env} (hk : env.scope.kind = .function) (hy : env.scope.names.lookup y = some .local)
    (hl : (py.line == pos.line) = true) (ha : (scope.names.any fun q => q.1 == y && (q.2 == .local || q.2 == .cell)) = false) : swapsWith (.DictComp k v cs scope pos) (some (.Name y py)) l env = pure true := by
  have e1 : env.kindOf y = some .local := hy
  have e2 : env.blockKind = .function := by
    unfold Env.blockKind
    rw [hk]
    rfl
  unfold swapsWith
  simp only [e1, e2, ha, hl, Expr.pos]
  rfl
theorem ps_setDc {X : Cx} {i : Nat} {y : Str} {py pos sp : Pos} {k v tg iter : Expr} {ifs : List Expr} {scope : Scope} {own : List (Str × Nat)} {wi : TI} {g : TG} {tt : TT} {tk tv : TE} (hc : X.calm = true) (hN : X.N.Nodup)
    (hy : X.N[i]? = some y) (yl : X.env.scope.names.lookup y = some .local) (sw : swapsWith (.DictComp k v [⟨tg, iter, ifs, 0⟩] scope pos) (some (.Name y py)) sp.line X.env = pure true) (hi : PI X tg iter wi)
    (ok : BlkOk X.N X.env.scope scope own) (bg : InBlk X scope fun Y => PG Y tg g) (bt : InBlk X scope fun Y => PTs Y ifs tt) (bk : InBlk X scope fun Y => PE Y k tk) (bv : InBlk X scope fun Y => PE Y v tv)
    (hs : ∀ x, foldedSetIterable iter X.env x = pure x := by intro _; rfl) : PS X (.Assign [.Name y py] (.DictComp k v [⟨tg, iter, ifs, 0⟩] scope pos) sp) (tAsg (tDc wi g tt tk tv (own.map (·.2))) (gName i)) := by
  constructor
  intro pins s σ H D I h
  rw [exec_Assign_Name_used _ _ _ _ sw]
  refine wpAny_bind (wpAny_standAt (wpAny_bind ?_))
  have q0 : tDc wi g tt tk tv (own.map (·.2)) σ H (fun z Hz => gName i z σ Hz D.nx) := h
  show wpAny _ X.A (do
    let _ ← comprehension (.DictComp k v [⟨tg, iter, ifs, 0⟩] scope pos) scope X.env (firstIterPos [⟨tg, iter, ifs, 0⟩] pos) newDict false (eval iter X.env) (some (assign (.Name y py) X.env))) _ _ s
  have core := dc_core (Qf := fun _ z => SP X pins D .next z) hc hN I hi ok bg bt bk bv hs q0 (use := some (assign (.Name y py) X.env)) (pos := pos) (pos' := firstIterPos [⟨tg, iter, ifs, 0⟩] pos)
  refine wpAny_bind (thn (core fun L C s' m H' J q hn f => ?_) fun _ _ z => wpAny_pure (wpAny_pure z))
  show wpAny _ _ (assign (.Name y py) X.env (.ref L)) _ _ _
  refine wpAny_assign_Name (store_ok2 (v := V.ref L) J hN hy (.inl yl) rfl (fun s2 J2 hb => ?_) (.inr yl))
  obtain ⟨a, sb, ha⟩ := hb
  obtain ⟨f0, f1, f2, f3, f4, f5⟩ := f
  have nC : C ≠ a := by
    rcases ha with z | z
    · rw [z]
      exact f1
    · exact fun e => f4 y a z e.symm
  exact ⟨m, hn.sameBut sb nC, fun h3 sb3 => ⟨_, H', J2.turned (t' := s2.toks) (fun b o hb e => (sb3.2 b hb).trans e) f0 f1 f3 f4 f5, q⟩⟩
end Z
namespace Z
open PySem PySem.Spec PyProof.Rows L2 PySem.W
/-! ### bits of whole numbers that are not below 0 -/
def blN (b : Nat) : Nat := if b = 0 then 0 else b.log2 + 1
section
variable {X : Cx}
theorem OpR.imp' {op : Value → Value → Sem Value} {r r' : R2} (h : OpR X op r) (k : ∀ x y H Q, r' x y H Q → r x y H Q) : OpR X op r' :=
  fun pins s σ H x y v u Q I rx ry q => h pins s σ H x y v u Q I rx ry (k x y H Q q)
theorem blN_lt (b : Nat) : b < 2 ^ blN b := by
  unfold blN
  split
  · omega
  · exact Nat.lt_log2_self
def rNN (g : Nat → Nat → Nat) : R2 := fun x y H Q => ∃ a b : Nat, x = .int (a : Int) ∧ y = .int (b : Int) ∧ Q (.int ((g a b : Nat) : Int)) H
theorem bitAnd_nat (a b : Nat) : Builtin.bitAnd (a : Int) (b : Int) = ((a &&& b : Nat) : Int) := by
  rw [bitAnd_pp (by omega) (by omega), Int.toNat_natCast, Int.toNat_natCast]
theorem op_andNN : OpR X (binaryOp .BitAnd) (rNN fun a b => a &&& b) := OpR.imp' op_and fun x y H Q ⟨a, b, h1, h2, q⟩ => ⟨a, b, h1, h2, by have e := bitAnd_nat a b; show Q (.int (Builtin.bitAnd (a : Int) (b : Int))) H; rw [e]; exact q⟩
theorem op_orNN : OpR X (binaryOp .BitOr) (rNN fun a b => a ||| b) := OpR.imp' op_or fun x y H Q ⟨a, b, h1, h2, q⟩ => ⟨a, b, h1, h2, by
  show Q (.int (Builtin.bitOr (a : Int) (b : Int))) H
  rw [Bits.bitOr_pp (by omega) (by omega), Int.toNat_natCast, Int.toNat_natCast]; exact q⟩
theorem op_xorNN : OpR X (binaryOp .BitXor) (rNN fun a b => a ^^^ b) := OpR.imp' op_xor fun x y H Q ⟨a, b, h1, h2, q⟩ => ⟨a, b, h1, h2, by
  show Q (.int (Builtin.bitXor (a : Int) (b : Int))) H
  rw [Bits.bitXor_pp (by omega) (by omega), Int.toNat_natCast, Int.toNat_natCast]; exact q⟩
theorem op_shrNN : OpR X (binaryOp .RShift) (rNN fun a b => a >>> b) := OpR.imp' op_shr fun x y H Q ⟨a, b, h1, h2, q⟩ => ⟨a, b, h1, h2, by omega, by
  show Q (.int ((a : Int) / 2 ^ (b : Int).toNat)) H
  rw [Int.toNat_natCast]
  have e : ((a : Int) / 2 ^ b) = ((a >>> b : Nat) : Int) := by rw [Nat.shiftRight_eq_div_pow]; simp
  rw [e]; exact q⟩
theorem op_shlNN : OpR X (binaryOp .LShift) (fun x y H Q => ∃ a b : Nat, x = .int (a : Int) ∧ y = .int (b : Int) ∧ (∃ n, a < 2 ^ n ∧ n + b ≤ 100000000) ∧ Q (.int ((a <<< b : Nat) : Int)) H) :=
  OpR.imp' op_shlW fun x y H Q ⟨a, b, h1, h2, ⟨n, hn, hs⟩, q⟩ => ⟨a, b, h1, h2, shl_ok (n := n) (by simpa using hn) (by omega), by
    show Q (.int ((a : Int) * 2 ^ (b : Int).toNat)) H
    rw [Int.toNat_natCast]
    have e : ((a : Int) * 2 ^ b) = ((a <<< b : Nat) : Int) := by rw [Nat.shiftLeft_eq]; simp
    rw [e]; exact q⟩
/-- a whole number as a truth value -/
theorem intBits_nat (a : Nat) : Builtin.Int.intBits (a : Int) = blN a := by
  unfold Builtin.Int.intBits blN
  simp
def tBitsN (to : TE) : TE := fun σ H Q => to σ H fun x H1 => ∃ a : Nat, x = .int (a : Int) ∧ Q (.int ((blN a : Nat) : Int)) H1
end
section
variable {X : Cx}
def tInt (t : TE) : TT := fun σ H Q => t σ H fun x H1 => ∃ i : Int, x = .int i ∧ Q (i != 0) H1
theorem pt_int {e : Expr} {t : TE} (h : PE X e t) (he : ∀ whole, isTrue e X.env whole = (do let v ← whole; standAt e.pos; holding [v] (truthy v)) := by intro _; rfl) : L2.PT X e (tInt t) := by
  refine ⟨fun pins s σ H Q I hw => ?_⟩
  refine isTrue_plain (thn (h.run pins s σ H _ I hw) fun v s1 hv => ?_) (he _)
  obtain ⟨x, H1, I1, r1, i, rfl, q⟩ := hv
  exact tru_ok pins s1 σ H1 (.int i) v Q I1 r1 ⟨_, rfl, q⟩
end
/-! ### math.lcm -/
section
variable {X : Cx}
def rLcm : List V → Hp → VK → Prop := fun vs H Q => ∃ a b : Nat, vs = [.int (a : Int), .int (b : Int)] ∧ a < 2 ^ 30 ∧ b < 2 ^ 30 ∧ Q (.int ((Nat.lcm a b : Nat) : Int)) H
theorem log2_lt {a n : Nat} (h : a < 2 ^ n) (hn : 0 < n) : a.log2 < n := by
  by_cases e : a = 0
  · subst e; simpa using hn
  · exact (Nat.log2_lt e).mpr h
theorem cr_lcm : CallR X (.builtin "math.lcm") rLcm := by
  intro pins s σ H vs us Q I r h
  obtain ⟨a, b, rfl, ha, hb, q⟩ := h
  obtain ⟨t, u, rfl⟩ := Vals.int2 r
  have le : Nat.lcm a b ≤ a * b := by
    unfold Nat.lcm
    exact Nat.div_le_self _ _
  have lt : a * b < 2 ^ 60 := by
    have := Nat.mul_le_mul (Nat.le_of_lt_succ (show a < (2 ^ 30 - 1) + 1 by omega)) (Nat.le_of_lt_succ (show b < (2 ^ 30 - 1) + 1 by omega))
    omega
  refine PySem.W.mg_lcm_v (c := ((Nat.lcm a b : Nat) : Int)) (by simp; omega) (by simp; omega) (by simp [Nat.lcm]) ?_ ⟨.int _, H, I.tok _, ⟨_, rfl⟩, q⟩
  rw [Int.natAbs_natCast, bitsLine_eq]
  have := log2_lt (a := Nat.lcm a b) (n := 60) (by omega) (by omega)
  omega
end
/-! ### min(t, default = ..), max(l, default = ..) -/
section
variable {X : Cx}
theorem hold_ints {h : Heap} : ∀ {ns : List Int} {its : List Value}, Vals (ns.map V.int) its → HoldAll h its ns
  | [], _, .nil => ⟨[], .nil⟩
  | n :: ns, _, .cons r t => by
    obtain ⟨u, rfl⟩ := (show ∃ t, _ = Value.int n t from r)
    obtain ⟨as, ra⟩ := hold_ints (h := h) t
    exact ⟨[] ++ as, .cons (.int n u) ra⟩
def headMin : List Int → V → V → Prop
  | [], d, v => v = d
  | n :: ns, _, v => v = .int (minOf n ns)
def headMax : List Int → V → V → Prop
  | [], d, v => v = d
  | n :: ns, _, v => v = .int (maxOf n ns)
theorem holds_int {h : Heap} {v : Value} {i : Int} (r : Holds h v i) : RelV (.int i) v := by
  obtain ⟨as, r⟩ := r
  cases r with
  | int i t => exact ⟨t, rfl⟩
/-- min(t, default = d), t a tuple of whole numbers -/
def tMinD (K : PySem.W.Frag) (ta tk : TA) : TE := fun σ H Q => ta σ H fun vs H1 => tk σ H1 fun zs H2 => ∃ (a : Addr) (ns : List Int) (d : V), vs = [.ref a] ∧ zs = [d] ∧ SqT K H2 a (ns.map V.int) ∧ ∀ v, headMin ns d v → Q v H2
theorem pe_minD {e : Expr} {kws : List Keyword} {ta tk : TA} {p pos : Pos} {k : Nat} (hcalm : X.calm = true) (hr : Room k X.A) (hg : Gl X "min") (hm : X.mg "min" = none) (ha : PA X [e] ta) (hkw : PK X kws tk)
    (he : backTo pos (starEach [e] X.env) = (false, eval e X.env) :: backTo pos (starEach [] X.env) := by rfl) (hpl : (backTo pos (starEach [e] X.env)).any (·.1) = false := by rfl)
    (hall : (backToKw pos (keywordEach kws X.env)).all (·.1.isSome) = true := by rfl) (hkn : (backToKw pos (keywordEach kws X.env)).any (·.1.isNone) = false := by rfl)
    (hks : (backToKw pos (keywordEach kws X.env)).filterMap (·.1) = [("default" : Str)] := by rfl) : PE X (.Call (.Name "min" p) [e] kws pos) (tMinD X.K ta tk) := by
  refine ⟨fun pins s σ H Q I h => ?_⟩
  refine wpAny_Call_Name_kw (ld_blt I hg hm (show bootBuiltins "min" = some (.builtin "min") by decide +kernel) ?_ (by decide) (by decide))
  refine callWith_kw (thn (ha.run pos pins s σ H _ I h) fun us s1 hv => ?_) he hpl hall hkn
  obtain ⟨vs, H1, I1, r1, q1⟩ := hv
  refine thn (hkw.run pos pins s1 σ H1 _ I1 q1) fun ws s2 hv2 => ?_
  obtain ⟨zs, H2, I2, r2, a, ns, d, ev, ez, ht, q⟩ := hv2
  subst ev ez
  obtain ⟨u, eu, rx⟩ := vals1 r1
  subst eu
  cases rx
  obtain ⟨z, ez, rz⟩ := vals1 r2
  subst ez
  rw [hks]
  obtain ⟨its, rv, ht', _⟩ := I2.tuple ht
  have hu := hr.un
  refine PySem.W.min_tuple_datum_default (xs := ns) (I2.ok.hd hcalm) ht' (by simpa using hold_ints rv) (by show X.A.units + 1 + 0 < cLine; omega) (fun e0 h' tk hk => ?_) fun y ys i v h' tk e1 hi hh hk => ?_
  · subst e0
    exact ⟨d, H2, I2.kept (t' := tk) hk, rz, q d rfl⟩
  · subst e1
    exact ⟨.int (minOf y ys), H2, I2.kept (t' := tk) hk, holds_int hh, q _ rfl⟩
def tMaxD (K : PySem.W.Frag) (ta tk : TA) : TE := fun σ H Q => ta σ H fun vs H1 => tk σ H1 fun zs H2 => ∃ (a : Addr) (ns : List Int) (d : V), vs = [.ref a] ∧ zs = [d] ∧ SqL K H2 a (ns.map V.int) ∧ ∀ v, headMax ns d v → Q v H2
theorem pe_maxD {e : Expr} {kws : List Keyword} {ta tk : TA} {p pos : Pos} {k : Nat} (hcalm : X.calm = true) (hr : Room k X.A) (hg : Gl X "max") (hm : X.mg "max" = none) (ha : PA X [e] ta) (hkw : PK X kws tk)
    (he : backTo pos (starEach [e] X.env) = (false, eval e X.env) :: backTo pos (starEach [] X.env) := by rfl) (hpl : (backTo pos (starEach [e] X.env)).any (·.1) = false := by rfl)
    (hall : (backToKw pos (keywordEach kws X.env)).all (·.1.isSome) = true := by rfl) (hkn : (backToKw pos (keywordEach kws X.env)).any (·.1.isNone) = false := by rfl)
    (hks : (backToKw pos (keywordEach kws X.env)).filterMap (·.1) = [("default" : Str)] := by rfl) : PE X (.Call (.Name "max" p) [e] kws pos) (tMaxD X.K ta tk) := by
  refine ⟨fun pins s σ H Q I h => ?_⟩
  refine wpAny_Call_Name_kw (ld_blt I hg hm (show bootBuiltins "max" = some (.builtin "max") by decide +kernel) ?_ (by decide) (by decide))
  refine callWith_kw (thn (ha.run pos pins s σ H _ I h) fun us s1 hv => ?_) he hpl hall hkn
  obtain ⟨vs, H1, I1, r1, q1⟩ := hv
  refine thn (hkw.run pos pins s1 σ H1 _ I1 q1) fun ws s2 hv2 => ?_
  obtain ⟨zs, H2, I2, r2, a, ns, d, ev, ez, ht, q⟩ := hv2
  subst ev ez
  obtain ⟨u, eu, rx⟩ := vals1 r1
  subst eu
  cases rx
  obtain ⟨z, ez, rz⟩ := vals1 r2
  subst ez
  rw [hks]
  obtain ⟨its, rv, ht', _⟩ := I2.list ht
  have hu := hr.un
  refine PySem.W.max_list_datum_default (xs := ns) (I2.ok.hd hcalm) ht'.isList (by simpa using hold_ints rv) (by show X.A.units + 1 + 0 < cLine; omega) (fun e0 h' tk hk => ?_) fun y ys i v h' tk e1 hi hh hk => ?_
  · subst e0
    exact ⟨d, H2, I2.kept (t' := tk) hk, rz, q d rfl⟩
  · subst e1
    exact ⟨.int (maxOf y ys), H2, I2.kept (t' := tk) hk, holds_int hh, q _ rfl⟩
end
/-! ### x in c, c an object with a __contains__ of its own -/
section
variable {X : Cx} {k : Nat} {C f : Addr} {fd : FuncData} {sp : Sp}
structure OwnIn (K : PySem.W.Frag) (C f : Addr) (fd : FuncData) (ps : List Str) : Prop where
  at_ : PySem.W.findIn K (.ref C) "__contains__" = some (some (.ref f))
  fn : PySem.W.isFn K (.ref f) = true
  bd : Binds K fd ps []
def rOwnIn (C : Addr) (sp : Sp) : R2 := fun x y H Q => ∃ a dx fs, y = .ref a ∧ H a = some (.ins C dx fs) ∧ sp [y, x] H (fun v H' => ∃ c, v = .bl c ∧ Q (.bl c) H') E0
theorem op_ownIn {ps : List Str} (F : FnOk X.prog X.w X.K X.mg X.base CX0 k f fd ps sp) (O : OwnIn X.K C f fd ps) (hr : Room k X.A) : OpR X (compareOp .In) (rOwnIn C sp) := by
  intro pins s σ H x y v u Q I rx ry h
  obtain ⟨a, dx, fs, rfl, ha, hsp⟩ := h
  cases ry
  obtain ⟨mA, J, _⟩ := ins_get I.hok ha
  obtain ⟨od, J, _⟩ := J.look
  obtain ⟨m, hF⟩ := I.fr
  refine PySem.W.in_K hF I.ok.mod.kin J O.at_ O.fn ?_
  refine wpAny_mono (run_fn (dvs := []) (ds := []) (Q := fun v H' => ∃ c, v = .bl c ∧ Q (.bl c) H') (vs := [.ref a, x]) (us := [.ref a, v]) F hr O.bd .nil pass0 I (.cons rfl (.cons rx .nil)) (by simpa using hsp)) (fun w s' hv => ?_) fun _ _ e => e
  obtain ⟨z, H', I', rz, c, rfl, q⟩ := hv
  cases (show w = Value.bool c from rz)
  exact wpAny_truthy_bool ⟨.bl c, H', I', rfl, q⟩
end
end Z
namespace Z
open PySem PySem.Spec PyProof.Rows L2 PySem.W
theorem and_rest : ∀ (n a b : Nat), a ≤ n → (a ^^^ (a &&& b)) + (a &&& b) = a
  | 0, a, b, h => by
    obtain rfl : a = 0 := by omega
    simp
  | n + 1, a, b, h => by
    by_cases e : a = 0
    · subst e; simp
    have ih := and_rest n (a / 2) (b / 2) (by omega)
    have d1 : (a &&& b) / 2 = (a / 2) &&& (b / 2) := Nat.and_div_two
    have d2 : (a ^^^ (a &&& b)) / 2 = (a / 2) ^^^ ((a &&& b) / 2) := Nat.xor_div_two
    have m1 : (a &&& b) % 2 = (a % 2) &&& (b % 2) := by have := @Nat.and_mod_two_pow a b 1; simpa using this
    have m2 : (a ^^^ (a &&& b)) % 2 = (a % 2) ^^^ ((a &&& b) % 2) := by have := @Nat.xor_mod_two_pow a (a &&& b) 1; simpa using this
    rw [d1] at d2
    rw [m1] at m2
    have ha := Nat.mod_two_eq_zero_or_one a
    have hb := Nat.mod_two_eq_zero_or_one b
    have key : (a ^^^ (a &&& b)) % 2 + (a &&& b) % 2 = a % 2 := by
      rw [m1, m2]
      rcases ha with ha | ha <;> rcases hb with hb | hb <;> rw [ha, hb] <;> rfl
    omega
section
variable {X : Cx}
theorem op_andInv : OpR X (binaryOp .BitAnd) (fun x y H Q => ∃ a b : Nat, x = .int (a : Int) ∧ y = .int (Builtin.bitNot (b : Int)) ∧ Q (.int ((a ^^^ (a &&& b) : Nat) : Int)) H) :=
  OpR.imp' op_and fun x y H Q ⟨a, b, h1, h2, q⟩ => ⟨_, _, h1, h2, by
    have nb : ¬ 0 ≤ Builtin.bitNot (b : Int) := by show ¬ 0 ≤ -(b : Int) - 1; omega
    have nn : Builtin.bitNot (Builtin.bitNot (b : Int)) = (b : Int) := by show -(-(b : Int) - 1) - 1 = _; omega
    show Q (.int (Builtin.bitAnd (a : Int) (Builtin.bitNot (b : Int)))) H
    rw [bitAnd_pn (by omega) nb, nn, Int.toNat_natCast, Int.toNat_natCast]
    have := and_rest a a b (Nat.le_refl _)
    rw [show (a : Int) - ((a &&& b : Nat) : Int) = ((a ^^^ (a &&& b) : Nat) : Int) by omega]
    exact q⟩
theorem op_isB : OpR X (compareOp .Is) (fun x y H Q => ∃ c d, x = .bl c ∧ y = .bl d ∧ Q (.bl (c == d)) H) := by
  intro pins s σ H x y v u Q I rx ry h
  obtain ⟨c, d, rfl, rfl, q⟩ := h
  cases rx
  cases ry
  exact is_bool ⟨.bl _, H, I, rfl, q⟩
end
end Z
namespace Z
open PySem PySem.Spec PyProof.Rows L2
/-! ### a weaker wish, behind arguments -/
def tMono (t : TA) : TA := fun σ H R => ∃ R' : List V → Hp → Prop, t σ H R' ∧ ∀ vs H', R' vs H' → R vs H'
theorem pa_mono {X : Cx} {es : List Expr} {t : TA} (h : PA X es t) : PA X es (tMono t) := ⟨fun pos pins s σ H R I hR => by
  obtain ⟨R', h1, h2⟩ := hR
  exact thn (h.run pos pins s σ H R' I h1) fun us s1 ⟨vs, H1, I1, r, q⟩ => ⟨vs, H1, I1, r, h2 _ _ q⟩⟩
/-! ### own errors with one field -/
/-- what __init__ promises: the field is set, in a new dict -/
def spErr (C : Addr) (f : Str) : Sp := fun vs H Q _ => ∃ (a : Addr) (v : V), vs = [.ref a, v] ∧ H a = some (exo a C none) ∧
  ∀ dx, H dx = none → dx ≠ a → Q .non (upd (upd H dx (exd dx [(f, v)])) a (exo a C (some dx)))
/-- the class as the top has left it; its __init__ at fI -/
structure ErrAt (K : PySem.W.Frag) (mg : Str → Option Value) (x q f : Str) (st : Stmt) (C : Addr) : Prop where
  gC : mg x = some (.ref C)
  ox : OexC K C
  xf : XfC K C
  no : PySem.W.findIn K (.ref C) f = some none
  te : PySem.W.exmOne K (.ref C) (.ref C) = some true
  fn : ∃ (fI : Addr) (fd : FuncData), Fun K "__init__" q st fI fd ∧ PySem.W.findIn K (.ref C) "__init__" = some (some (.ref fI)) ∧ PySem.W.typeIn K (.ref fI) = some (.type "function") ∧ Binds K fd ["self", f] []
/-- the same, with what its __init__ keeps -/
def PrErr (P : Program) (w : World) (K : PySem.W.Frag) (mg : Str → Option Value) (base : Heap) (x f : Str) (C : Addr) : Prop :=
  mg x = some (.ref C) ∧ OexC K C ∧ ∃ (fI : Addr) (fd : FuncData), PySem.W.findIn K (.ref C) "__init__" = some (some (.ref fI)) ∧ PySem.W.typeIn K (.ref fI) = some (.type "function") ∧ Binds K fd ["self", f] [] ∧ FnOk P w K mg base CX0 1 fI fd ["self", f] (spErr C f)
/-- an error of the class at C flies: its own dict, new, holds f = v; all else is as it was -/
def Bad (C : Addr) (f : Str) (v : V) (H : Hp) (E : XK) : Prop := ∀ d H', Same H H' → H d = none → H' d = some (.xd [(f, v)]) → E (.ref C) (some d) H'
theorem Bad.imp {C : Addr} {f : Str} {v : V} {H : Hp} {E E' : XK} (h : Bad C f v H E) (k : ∀ cls d H', E cls d H' → E' cls d H') : Bad C f v H E' := fun d H' s n e => k _ _ _ (h d H' s n e)
theorem Bad.later {C : Addr} {f : Str} {v : V} {H H1 : Hp} {E : XK} (s : Same H H1) (h : Bad C f v H E) : Bad C f v H1 E := fun d H' s1 n e => h d H' (fun b o q => s1 b o (s b o q)) (by
  cases q : H d with
  | none => rfl
  | some o => rw [s _ _ q] at n; cases n) e
def tErr (C : Addr) (f : Str) (ta : TA) : L2.St → Hp → XK → Prop := fun σ H Q => ta σ H fun vs H1 => ∃ v, vs = [v] ∧ Bad C f v H1 Q
section
variable {X : Cx} {C : Addr} {x f : Str} {e : Expr} {es : List Expr} {ta : TA} {p pos pos2 : Pos} {W : WX}
theorem pmk_err (E : PrErr X.prog X.w X.K X.mg X.base x f C) (hr : Room 2 X.A) (ha : PA X (e :: es) ta) (hg : Gl X x := by rfl)
    (hdb : (x == ("__debug__" : Str)) = false := by decide) (he : starEach (e :: es) X.env = (false, eval e X.env) :: starEach es X.env := by rfl) (hpl : (backTo pos (starEach es X.env)).any (·.1) = false := by rfl) :
    PMk X (.Call (.Name x p) (e :: es) [] pos) (tErr C f ta) := by
  obtain ⟨gC, ox, fI, fd, iC, tI, bd, F⟩ := E
  intro pins s σ H Q I h
  refine pmk_oex (k := 1) (dvs := []) (ds := []) ox iC tI F hr bd .nil pass0 hg gC (pa_mono ha) hdb he hpl pins s σ H Q I ⟨_, h, fun vs H1 hv => ?_⟩
  obtain ⟨v, rfl, hb⟩ := hv
  refine ⟨by show 1 ≤ 1000; decide, fun a ha => ⟨a, v, rfl, upd_same, fun dx hdx hne => ⟨rfl, dx, [(f, v)], upd_same, ?_, ?_, ?_⟩⟩⟩
  · rw [upd_ne hne, upd_same]
  · rw [upd_ne hne] at hdx
    exact hdx
  · rw [upd_ne hne] at hdx
    refine hb dx _ (fun b o q => ?_) hdx upd_same
    have n1 : b ≠ dx := ne_of_none q hdx
    have n2 : b ≠ a := ne_of_none q ha
    rw [upd_ne n1, del_ne n2, upd_ne n2, upd_ne n1, upd_ne n2]
    exact q
/-- raise C(e) -/
def tRaise (W : WX) (C : Addr) (f : Str) (ta : TA) : TS := fun _ σ H => tErr C f ta σ H fun cls d H' => W cls d σ H'
theorem ps_raiseE (hc : X.calm = true) (tk : Takes X W) (E : PrErr X.prog X.w X.K X.mg X.base x f C) (hr : Room 2 X.A) (ha : PA X (e :: es) ta) (hg : Gl X x := by rfl)
    (hdb : (x == ("__debug__" : Str)) = false := by decide) (he : starEach (e :: es) X.env = (false, eval e X.env) :: starEach es X.env := by rfl) (hpl : (backTo pos (starEach es X.env)).any (·.1) = false := by rfl) :
    PS X (.Raise (some (.Call (.Name x p) (e :: es) [] pos)) none pos2) (tRaise W C f ta) := ps_raise hc tk (pmk_err E hr ha hg hdb he hpl)
end
/-! ### try, several clauses, each with a name -/
/-- a clause: its class, the slot of its name, its suite -/
abbrev Clause := Value × Nat × (Addr → Value → Option Addr → TS)
def endsAs (D : Ends) (i : Nat) : Ends := { nx := fun σ' H' => D.nx (σ'.set i none) H', rt := D.rt, bk := fun σ' H' => D.bk (σ'.set i none) H', ct := fun σ' H' => D.ct (σ'.set i none) H' }
def wEach (K : PySem.W.Frag) (Wout : WX) (D : Ends) : List Clause → WX
  | [] => Wout
  | c :: r => fun cls d σ H => (PySem.W.exmOne K cls c.1 = some true ∧ ∀ a, H a = none → c.2.2 a cls d (endsAs D c.2.1) (σ.set c.2.1 (some (.ref a))) H) ∨ (PySem.W.exmOne K cls c.1 = some false ∧ wEach K Wout D r cls d σ H)
inductive Each (X : Cx) : List ExceptHandler → List Clause → Prop
  | nil : Each X [] []
  | cons {x n : Str} {c : Value} {i : Nat} {ts : Addr → Value → Option Addr → TS} {b₀ : Stmt} {suite : List Stmt} {np pos' : Pos} {hds : List ExceptHandler} {l : List Clause} (hi : X.N[i]? = some n) (hln : X.env.kindOf n = some .local) (hc : Names X x c)
      (hsu : ∀ (a : Addr) (oe : Obj) (cls : Value) (d : Option Addr) (pn : List (Addr × Obj)), Zc cls d oe → (∃ vs, oe.data = .fields vs) → PSs (X.suite a ((a, oe) :: pn)) (b₀ :: suite) (ts a cls d)) (r : Each X hds l) :
      Each X (.ExceptHandler (some (.Name x np)) (some n) (b₀ :: suite) pos' :: hds) ((c, i, ts) :: l)
section
variable {X : Cx} {pins : List (Addr × Obj)} {σ : L2.St} {H : Hp} {a : Addr} {cls : Value} {d : Option Addr} {B : Heap} {sI : Shared} {Wout : WX} {D : Ends}
/-- the exception, held by the frame that looks at it, is offered to the clauses -/
theorem offered (hs : X.stack = X.env :: X.outer) (hf : X.env.frame = some X.env.locals) (hN : X.N.Nodup) (tk : Takes X Wout) (nb : ∀ b o, sI.heap.get? b = some o → b ∉ frs X.stack → B.get? b = some o) (J : Inv X pins σ H sI) (na : H a = none) :
    ∀ {hds : List ExceptHandler} {l : List Clause} {s : Shared}, Each X hds l → HandSPX.FlyingZ B (X.env :: X.outer) a (Zc cls d) s.heap → sI.heap.UpToSlots s.heap → s.os = sI.os → AllBare s.gens → wEach X.K Wout D l cls d σ H →
      wpAny (model X.prog X.w) X.A (handleBy (.ref a) X.env hds) (SP X pins D) X.xe s := by
  intro hds l s hk
  induction hk with
  | nil =>
    intro fl up os ag w
    obtain ⟨_, _, _, oe, vs, T, oT, ts, he, hz, hd, h1, hr⟩ := id fl
    refine wpAny_handleBy_nil ?_
    unfold PySem.passOn
    refine wpAny_bind (wpAny_field he hd h1 ?_)
    rw [if_neg (by simp : ¬ ((Value.ref T == Value.none) = true))]
    have out : wpAny (model X.prog X.w) X.A (setFlight (.ref a) X.env.frame) (fun _ s2 => wpAny (model X.prog X.w) X.A (throw (.ref a) : Sem Flow) (SP X pins D) X.xe s2) X.xe s := by
      rw [hf]
      obtain ⟨hp, g, dr, t, o⟩ := s
      refine HandSPX.setFlight_upZ fl fun h4 hh up4 => wpAny_throw (tk _ _ ⟨a, B, sI, pins, σ, H, cls, d, rfl, J, nb, up.trans up4, .inr (.inr (by rw [hs]; exact hh)), na, os, ag, w⟩)
    first
      | exact wpAny_bind (wpAny_pure (wpAny_bind out))
      | exact wpAny_bind out
  | @cons x n c i ts b₀ suite np pos' hds2 l2 hi hln hc hsu r ih =>
    intro fl up os ag w
    obtain ⟨hp, g, dr, t, o⟩ := s
    have J0 : Inv X pins σ H ⟨hp, g, dr, t, o⟩ := J.landed nb fl.1 up os ag
    -- where the exception stands: no frame
    have apart : ∀ {h : Heap}, HandSPX.FlyingZ B (X.env :: X.outer) a (Zc cls d) h → a ≠ X.env.locals ∧ a ∉ X.fs := fun {h} f => by
      obtain ⟨oe, vs, he, _, hd⟩ := f.there
      have nf : a ∉ frs (X.env :: X.outer) := fun hm => by
        obtain ⟨_, o', e', hn⟩ := f.2.2.1.mem hm
        rw [he] at e'
        cases e'
        exact hn _ hd
      refine ⟨fun z => nf (List.mem_filterMap.mpr ⟨X.env, List.mem_cons_self, by rw [hf, z]⟩), fun hm => ?_⟩
      obtain ⟨e, he', q⟩ := List.mem_filterMap.mp hm
      exact nf (List.mem_filterMap.mpr ⟨e, List.mem_cons_of_mem _ he', q⟩)
    obtain ⟨oe, vs, he, hz, hd⟩ := fl.there
    obtain ⟨nL, nF⟩ := apart fl
    have S0 := J0.suite he hd na nL nF
    refine wpAny_handleBy_cons (codeAny_handlers_test ?_) (by intro q; cases q)
    have LT : PySem.W.Looks (model X.prog X.w) hp (typeOf (.ref a)) cls := fun _ _ _ _ k q => wpAny_typeOf_ref (k _ _ he) (by rw [hz.1]; exact q)
    have named : ∀ {Q : Value → Shared → Prop} {E : Value → Shared → Prop}, Q c ⟨hp, g, dr, t, o⟩ → wpAny (model X.prog X.w) (X.A.mark (some (.ref a))) (eval (.Name x np) X.env) Q E ⟨hp, g, dr, t, o⟩ := fun {Q E} q => by
      obtain ⟨hg, hdb, hm | ⟨hm, hv, hnn⟩⟩ := hc
      · exact ld_glob (X := X.suite a ((a, oe) :: (X.pn ++ pins))) S0 hg hm q hdb
      · exact ld_blt (X := X.suite a ((a, oe) :: (X.pn ++ pins))) S0 hg hm hv q hnn hdb
    rcases w with ⟨hb, hyes⟩ | ⟨hb, hno⟩
    · have LM := PySem.W.exm_one (M := model X.prog X.w) J0.kIn LT hb
      refine named (LM.here (codeAny_handlers_suite_as (HandSPX.lands_againZ fl fun h2 fl2 up2 => ?_)))
      have J2 : Inv X pins σ H ⟨h2, g, dr, t, o⟩ := J.landed nb fl2.1 (up.trans up2) os ag
      obtain ⟨oe2, vs2, he2, hz2, hd2⟩ := fl2.there
      have S2 := J2.suite he2 hd2 na nL nF
      refine store_ok (X := X.suite a ((a, oe2) :: (X.pn ++ pins))) (v := .ref a) S2 hN hi (.inl hln) rfl (fun s5 S5 => ?_) (.inr hln)
      refine wpAny_mono ((hsu a oe2 cls d (X.pn ++ pins) hz2 ⟨_, hd2⟩).run [] s5 _ H _ S5 (hyes a na)) (fun f s6 q6 => ?_) (fun _ _ z => z.elim)
      have gone : ∀ {σ6 : L2.St} {H6 : Hp} {Q : Shared → Prop}, Inv (X.suite a ((a, oe2) :: (X.pn ++ pins))) [] σ6 H6 s6 → (∀ s7, Inv X pins (σ6.set i none) H6 s7 → Q s7) →
          wpAny (model X.prog X.w) X.A (do bindName X.env n .none; unbindBehindTheSuite X.env n pos') (fun _ s7 => Q s7) X.xe s6 := fun S6 k => gone_ok (S6.unsuite J2.ok) hN hi hln k
      match f, q6 with
      | .next, ⟨_, _, S6, q⟩ => exact gone S6 fun s7 J7 => ⟨_, _, J7, q⟩
      | .brk, ⟨_, _, S6, q⟩ => exact gone S6 fun s7 J7 => ⟨_, _, J7, q⟩
      | .cont, ⟨_, _, S6, q⟩ => exact gone S6 fun s7 J7 => ⟨_, _, J7, q⟩
      | .ret u, ⟨_, _, _, S6, rv, q⟩ => exact gone S6 fun s7 J7 => ⟨_, _, _, J7, rv, q⟩
    · have LM := PySem.W.exm_one (M := model X.prog X.w) J0.kIn LT hb
      refine named (LM.here ?_)
      show wpAny _ X.A (handleBy (.ref a) X.env hds2) _ _ _
      exact ih fl up os ag hno
end
section
variable {X : Cx} {body : List Stmt} {h₀ : ExceptHandler} {hds : List ExceptHandler} {l : List Clause} {pos : Pos} {tb : WX → TS} {Wout : WX}
/-- try: body / except x as n: .. / except y as m: .. -/
theorem ps_try_each (hs : X.stack = X.env :: X.outer) (hf : X.env.frame = some X.env.locals) (hN : X.N.Nodup) (tk : Takes X Wout)
    (hb : ∀ (W : WX) (pn : List (Addr × Obj)) (xe : Value → Shared → Prop), Takes (X.tr pn xe) W → PassesOwn (model X.prog X.w) X.A X.env xe → PSs (X.tr pn xe) body (tb W))
    (hh : Each X (h₀ :: hds) l) : PS X (.Try body (h₀ :: hds) [] [] pos) (fun D σ H => tb (wEach X.K Wout D l) D σ H) := by
  refine ⟨fun pins s σ H D I h => ?_⟩
  have ok := I.ok
  have hfr : X.A.frames = some (X.env :: X.outer) := by rw [ok.frames, hs]
  have run := fun (xe : Value → Shared → Prop) (tk' : Takes (X.tr (X.pn ++ pins) xe) (wEach X.K Wout D l)) (po : PassesOwn (model X.prog X.w) X.A X.env xe) => (hb _ (X.pn ++ pins) xe tk' po).run [] s σ H D (I.toTry _) h
  refine wpAny_Try_except (wpAny_mono (run (fun e s₁ => wpAny (model X.prog X.w) X.A (noteFrame e X.env) (fun _ s₂ => wpAny (model X.prog X.w) X.A (setFlight e none) (fun _ s₃ => wpAny (model X.prog X.w) X.A (handleBy e X.env (h₀ :: hds)) (SP X pins D) X.xe s₃) X.xe s₂) X.xe s₁)
    (fun u s' air => ?_) PassesOwn.looking) (fun f s1 q => ?_) fun e s1 he => he)
  · obtain ⟨a, B, sI, pins', σ', H', cls, d, rfl, J', nb, up, sky, na, os, ag, w⟩ := air
    have sky' : Sky B (X.env :: X.outer) a (Zc cls d) X.env.locals s'.heap := by rw [← hs]; exact sky
    exact Sky.land Zc.steady hfr hf sky' fun h3 fl3 up3 => offered (s := { s' with heap := h3 }) hs hf hN tk nb (J'.ofTry ok) na hh fl3 (up.trans up3) os ag w
  · match f, q with
    | .next, ⟨σ', H', J', q⟩ => exact wpAny_execs_nil ⟨σ', H', J'.ofTry ok, q⟩
    | .brk, ⟨σ', H', J', q⟩ => exact ⟨σ', H', J'.ofTry ok, q⟩
    | .cont, ⟨σ', H', J', q⟩ => exact ⟨σ', H', J'.ofTry ok, q⟩
    | .ret u, ⟨v, σ', H', J', rv, q⟩ => exact ⟨v, σ', H', J'.ofTry ok, rv, q⟩
end
end Z
namespace Z
open PySem PySem.Spec PyProof.Rows L2
/-! ### repr of any value -/
def kD : Key → PyData
  | .inl i => .int i
  | .inr x => .str x
inductive Sh (K : PySem.W.Frag) (H : Hp) : V → PyData → Prop
  | of {v : V} {d : PyData} (h : Dp K H v d) (nd : d.hasDict = false) : Sh K H v d
  | emp {a : Addr} (h : H a = some (.dK [])) : Sh K H (.ref a) (.dict [])
  | one {a : Addr} {k : Key} {i : Int} (h : H a = some (.dK [(k, .int i)])) : Sh K H (.ref a) (.dict [(kD k, .int i)])
def rShow (K : PySem.W.Frag) : List V → Hp → VK → Prop := fun xs H Q => ∃ (v : V) (d : PyData), xs = [v] ∧ Sh K H v d ∧ d.showable = true ∧ d.depth ≤ 60 ∧ d.shown.length ≤ sizeLine ∧ Q (.str d.shown) H
section
variable {X : Cx}
theorem call_show (hgd : X.A.guards = some []) (hu : X.A.units + 64 < cLine) : CallR X (.builtin "repr") (rShow X.K) := by
  intro pins s σ H xs us Q I r h
  obtain ⟨v, d, ex, hd, sh, dp, hz, q⟩ := h
  subst ex
  obtain ⟨u, eu, rx⟩ := vals1 r
  subst eu
  have shown : ∀ {a : Addr} {as : List Addr}, Reads s.heap (.ref a) d as → (d.hasDict = true → sysModules ∉ as) → wpAny (model X.prog X.w) X.A (call (.builtin "repr") [.ref a]) (EP X pins σ Q) X.xe s := fun rd nm =>
    repr_of_reads' rd sh nm hgd (by omega) (fun _ _ e => e) (fun h' t tk hk => ⟨.str d.shown, H, I.kept (t' := tk) hk, ⟨t, rfl⟩, q⟩) hz
  have isDict : ∀ {a : Addr} {kvs : List (Key × V)}, H a = some (.dK kvs) → (a == sysModules) = false ∧ ∃ vs, KV kvs vs ∧ s.heap.DictOf (mixKind X.prog X.w) a vs := fun e => (dk_of I.hok e).2
  cases hd with
  | of h nd =>
    have hr : ∀ a, v = .ref a → ∃ as, Reads s.heap (.ref a) d as := fun a e => by
      subst e
      obtain ⟨as, r2⟩ := Dp.reads I d _ _ h rx
      cases rx
      exact ⟨as, r2⟩
    cases h with
    | non =>
      cases rx
      simp only [PyData.shown] at q
      exact PySem.P.repr_of_none ⟨.str _, H, I.tok _, ⟨_, rfl⟩, q⟩
    | bl b =>
      cases rx
      simp only [PyData.shown] at q
      exact PySem.P.repr_of_bool ⟨.str _, H, I.tok _, ⟨_, rfl⟩, q⟩
    | int i =>
      obtain ⟨t, rfl⟩ := rx
      simp only [PyData.shown] at q
      exact PySem.P.repr_of_int (by simpa [PyData.showable] using sh) ⟨.str _, H, I.tok _, ⟨_, rfl⟩, q⟩
    | str x =>
      obtain ⟨t, rfl⟩ := rx
      simp only [PyData.shown] at q hz
      exact PySem.P.repr_of_str ⟨.str _, H, I.tok _, ⟨_, rfl⟩, q⟩ hz
    | lst hs ha =>
      cases rx
      obtain ⟨as, r2⟩ := hr _ rfl
      exact shown r2 fun z => by rw [nd] at z; cases z
    | tup hs ha =>
      cases rx
      obtain ⟨as, r2⟩ := hr _ rfl
      exact shown r2 fun z => by rw [nd] at z; cases z
  | @emp a h =>
    cases rx
    obtain ⟨hne, vs, kv, o, es, ep, ho, hx, hdat, _, pr, _⟩ := isDict h
    cases kv
    have e0 : es.toList = [] := by
      cases he : es.toList with
      | nil => rfl
      | cons x l => rw [he] at pr; cases pr
    have rd : Reads s.heap (.ref a) (.dict []) (a :: [] ++ []) := Reads.dict ho hx.1 hdat (by rw [e0]; exact .nil) (by rw [e0]; exact .nil)
    exact shown rd fun _ hm => by
      simp at hm
      rw [hm] at hne
      simp at hne
  | @one a k i h =>
    cases rx
    obtain ⟨hne, vs, kv, o, es, ep, ho, hx, hdat, _, pr, _⟩ := isDict h
    cases kv with
    | cons h1 h2 =>
      cases h2
      obtain ⟨e1, rv⟩ := h1
      obtain ⟨t, rv⟩ := rv
      rename_i q' _
      obtain ⟨k', v'⟩ := q'
      dsimp only at e1 rv
      subst e1 rv
      generalize hl : es.toList = l at pr
      cases pr with
      | cons hk hv hr =>
        cases hr
        rename_i e
        have rk : Reads s.heap e.key (kD k) [] := by
          rcases keyIs_shape hk with ⟨j, u, rfl, e2⟩ | ⟨y, u, rfl, e2⟩
          · rw [e2]; exact .int j u
          · rw [e2]; exact .str y u
        have rv : Reads s.heap e.val (.int i) [] := by rw [hv]; exact .int i t
        have rd : Reads s.heap (.ref a) (.dict [(kD k, .int i)]) (a :: ([] ++ []) ++ ([] ++ [])) := Reads.dict ho hx.1 hdat (by rw [hl]; exact .cons rk .nil) (by rw [hl]; exact .cons rv .nil)
        exact shown rd fun _ hm => by
          simp at hm
          rw [hm] at hne
          simp at hne
end
/-! ### isinstance of the error that a suite holds -/
structure IsExc (K : PySem.W.Frag) (C : Addr) : Prop where
  ok : (PySem.W.clsIn K C).isSome = true
  xf : XfC K C
  ha : PySem.W.findIn K (.ref C) "__class__" = some (some (.builtin "object.__class__"))
  hn : PySem.W.specialIn K (.builtin "object.__class__") "__get__" = some (some (.builtin "getset_descriptor.__get__"))
  ht : PySem.W.takesIn K (.builtin "object.__class__") = some true
  hm : PySem.W.mroIn K C (.type "object") = some true
def rIsX (K : PySem.W.Frag) (D a : Addr) (cls : Value) (d : Option Addr) : List V → Hp → VK → Prop := fun xs H Q => ∃ (c : V) (cv : Value) (dd : Addr) (fs : List (Str × V)) (b : Bool), xs = [.ref a, c] ∧ (∀ u, RelV c u → u = cv) ∧ cls = .ref D ∧ d = some dd ∧ H dd = some (.xd fs) ∧ PySem.W.kitOne K (.ref D) cv = some b ∧ Q (.bl b) H
theorem call_isX {X : Cx} {a D : Addr} {cls : Value} {d : Option Addr} {oe : Obj} {pn : List (Addr × Obj)} (C : IsExc X.K D) (hz : Zc cls d oe) (hf : ∃ vs, oe.data = .fields vs) : CallR (X.suite a ((a, oe) :: pn)) (.builtin "isinstance") (rIsX X.K D a cls d) := by
  intro pins s σ H xs us Q I r h
  obtain ⟨c, cv, dd, fs, b, rfl, hcv, ec, ed, hx, e, q⟩ := h
  subst ec ed
  obtain ⟨hga, _⟩ := I.pin (a, oe) (List.mem_append_left _ List.mem_cons_self)
  obtain ⟨vs, hv⟩ := hf
  have ob : ObjOk X.prog X.w H s.heap dd (.xd fs) := I.hok dd _ hx
  obtain ⟨mA, hns, _⟩ := ob
  obtain ⟨od, ho, _⟩ := lookIn_ns hns
  have J : PySem.W.InstAt s.heap a oe D (some od) := ⟨hga, hz.1, by unfold PySem.W.notCls; rw [hv] <;> rfl, by rw [hz.2]; exact ho⟩
  match us, r with
  | [_, u], .cons rx (.cons rt .nil) =>
    cases rx
    obtain rfl := hcv _ rt
    exact PySem.W.kia_one (PySem.W.kitx_exc C.ok C.xf.ga C.xf.gg C.xf.exC C.ha C.hn C.ht C.hm) I.kIn J e (fun z => nomatch z) fun tk => ⟨.bl b, H, I.kept (t' := tk) fun _ _ z => z, rfl, q⟩
end Z
/-! sorted of a tuple of pairs of ints; sorted of a dict whose keys are texts. -/
namespace Z
open PySem PySem.Spec L2 PyProof.Rows
theorem refs_vals {α : Type} (f : α → Addr) : ∀ {L : List α} {its : List Value}, Vals (L.map fun z => V.ref (f z)) its → its = L.map fun z => Value.ref (f z)
  | [], _, .nil => rfl
  | z :: L, its, r => by
    cases r with
    | cons h t =>
      rename_i u us
      obtain rfl : u = Value.ref (f z) := h
      rw [refs_vals f t, List.map_cons]
/-- the pair of ints at a value's address -/
def kOf (h : Heap) : Value → Int × Int
  | .ref a => match h.get? a with
    | some o => match o.data with
      | .seq xs _ => match xs.toList with
        | [.int x _, .int y _] => (x, y)
        | _ => (0, 0)
      | _ => (0, 0)
    | none => (0, 0)
  | _ => (0, 0)
theorem kOf_of {h : Heap} {v : Value} {x y : Int} (p : Srt.IsPair h v x y) : kOf h v = (x, y) := by
  obtain ⟨a, o, t, u, n, rfl, ho, hc, hd⟩ := p
  show (match h.get? a with
    | some o => match o.data with
      | .seq xs _ => match xs.toList with
        | [.int x _, .int y _] => (x, y)
        | _ => (0, 0)
      | _ => (0, 0)
    | none => (0, 0)) = (x, y)
  rw [ho]
  show (match o.data with
      | .seq xs _ => match xs.toList with
        | [.int x _, .int y _] => (x, y)
        | _ => (0, 0)
      | _ => (0, 0)) = (x, y)
  rw [hd]
section
variable {X : Cx}
def rSortedTP (K : PySem.W.Frag) : List V → Hp → VK → Prop := fun vs H Q => ∃ (a : Addr) (L : List (Addr × (Int × Int))), vs = [V.ref a] ∧ SqT K H a (L.map fun z => V.ref z.1) ∧ (∀ z ∈ L, SqT K H z.1 [.int z.2.1, .int z.2.2]) ∧
  ∀ (L' : List (Addr × (Int × Int))) (p : Addr), L'.Perm L → L'.Pairwise (fun z w => SrtO.lexB w.2 z.2 = false) → H p = none → Q (.ref p) (upd H p (.lst (L'.map fun z => V.ref z.1)))
theorem cr_sortedTP : CallR X (.builtin "sorted") (rSortedTP X.K) := by
  intro pins s σ H vs us Q I r q
  obtain ⟨a, L, rfl, hs, hp, q⟩ := q
  obtain ⟨its, rv, ⟨o, ho, hc, n, hd⟩, hz⟩ := I.tuple hs
  obtain rfl := refs_vals _ rv
  rw [Vals.ref1 r]
  have hP : ∀ z ∈ L, Srt.IsPair s.heap (.ref z.1) z.2.1 z.2.2 := fun z m => by
    obtain ⟨js, rj, ⟨oz, h1, h2, n2, h3⟩, _⟩ := I.tuple (hp z m)
    obtain ⟨u1, u2, rfl, ri, rk⟩ := vals2 rj
    obtain ⟨t1, rfl⟩ := ri
    obtain ⟨t2, rfl⟩ := rk
    exact ⟨_, oz, t1, t2, n2, rfl, h1, h2, h3⟩
  have hk : ∀ z ∈ L, kOf s.heap (.ref z.1) = z.2 := fun z m => kOf_of (hP z m)
  have hz' : (L.map fun z => Value.ref z.1).length ≤ sizeLine := by
    rw [List.length_map] at hz ⊢
    exact hz
  refine
    Calls.call_function_entry PyProof.Rows.kind_sorted
      PyProof.Rows.plain_sorted PyProof.Rows.entry_sorted
      (PyProof.Rows.args_sorted1 _) ?_
  unfold Builtin.«sorted»
  refine wpAny_bind (m := checkCount "sorted" 1 1 _)
    (wpAny_pure ?_)
  refine wpAny_bind (wpAny_collect_seq a (.inr rfl) ho hc hd (fun h' kp => ?_) (by rw [List.size_toArray]; exact hz'))
  refine wpAny_bind (wpAny_newList ?_ hz')
  have oL : (h'.push (seqObj "list" (L.map fun z => Value.ref z.1).toArray 0)).get? h'.objs.size = some (seqObj "list" (L.map fun z => Value.ref z.1).toArray 0) := Heap.get?_push_size _ rfl
  have kp2 : ∀ b u, s.heap.get? b = some u → (h'.push (seqObj "list" (L.map fun z => Value.ref z.1).toArray 0)).get? b = some u := fun b u e => Heap.get?_push_of_some _ (kp b u e)
  have I1 : L2.Inv X pins σ H { s with heap := h', toks := s.toks } := I.kept kp
  show wpAny _ _ _ _ _ { s with heap := h'.push (seqObj "list" (L.map fun z => Value.ref z.1).toArray 0) }
  have pairs : ∀ v ∈ L.map (fun z => Value.ref z.1), Srt.IsPair (h'.push (seqObj "list" (L.map fun z => Value.ref z.1).toArray 0)) v (kOf s.heap v).1 (kOf s.heap v).2 := fun v m => by
    obtain ⟨z, mz, rfl⟩ := List.mem_map.mp m
    rw [hk z mz]
    exact (hP z mz).keeps fun b u e _ => kp2 b u e
  refine wpAny_bind (wpAny_holding (wpAny_call_entry PyProof.Rows.slot_list_sort ⟨_, oL, rfl⟩
    PyProof.Rows.entry_list_sort
    (SrtO.list_sort_ord (SrtO.swo_lex (kOf s.heap)) oL hz' (fun h2 => SrtO.pairs_sortableO (by omega) pairs fun u e c => ?_) fun out g1 g2 => ⟨_, rfl, ?_⟩)
    (PyProof.Rows.args_list_sort _)))
  · rw [oL] at e
    cases e
    exact absurd (Value.type.inj c) (by decide)
  obtain ⟨L', g3, g4⟩ := perm_lift (fun z : Addr × (Int × Int) => Value.ref z.1) g2.perm L rfl
  subst g4
  obtain ⟨ep, eo⟩ := PyProof.Rows.sortedHeap_at (vs := L.map fun z => Value.ref z.1) (out := (L'.map fun z => Value.ref z.1).toArray) oL
  have hl' : (L'.map fun z => V.ref z.1).length ≤ sizeLine := by
    rw [List.length_map, g3.length_eq]
    rw [List.length_map] at hz'
    exact hz'
  have rl : Vals (L'.map fun z => V.ref z.1) (L'.map fun z => Value.ref z.1) := vals_maps (fun z : Addr × (Int × Int) => V.ref z.1) (fun z => Value.ref z.1) L' fun z _ => rfl
  refine wpAny_pure ⟨_, rfl, .ref h'.objs.size, upd H h'.objs.size (.lst (L'.map fun z => V.ref z.1)), I1.laid (t' := s.toks) (fun b u e => ?_) (Nat.le_refl _)
    (show ObjOk X.prog X.w _ _ _ (.lst (L'.map fun z => V.ref z.1)) from ⟨hl', _, ep, rl, eo⟩), rfl, q L' _ g3 ?_ (I1.hok.fresh (Nat.le_refl _))⟩
  · have hb : b < h'.objs.size := Heap.lt_size e
    rw [PyProof.Rows.sortedHeap_old (Nat.ne_of_lt hb) (by
      rw [size_push']
      exact Nat.lt_succ_of_lt hb)]
    exact Heap.get?_push_of_some _ e
  · have g5 := List.pairwise_map.mp g1
    refine g5.imp_of_mem fun {z w} mz mw e => ?_
    dsimp only at e
    rw [hk w (g3.mem_iff.mp mw), hk z (g3.mem_iff.mp mz)] at e
    exact e
/-- sorted(d), d with fewer than 64 keys, all texts -/
def rSortedDS : List V → Hp → VK → Prop := fun xs H Q => ∃ (a : Addr) (kvs : List (Key × V)) (ks : List Str), xs = [.ref a] ∧ Rd H a (.dK kvs) ∧ kvs.map (·.1) = ks.map Sum.inr ∧ ks.length < 64 ∧
  ∀ (ys : List Str) (p : Addr), ys.Perm ks → sortedS ys = true → H p = none → Q (.ref p) (upd H p (.lst (ys.map V.str)))
theorem cr_sortedDS (hcalm : X.calm = true) : CallR X (.builtin "sorted") rSortedDS := by
  intro pins s σ H xs us Q I r q
  obtain ⟨a, kvs, ks, rfl, hd, hks, h64, q⟩ := q
  rw [Vals.ref1 r]
  obtain ⟨z, lo, vs, rel, dd⟩ := dk_rd I.hok hd
  obtain ⟨ep, hat⟩ := dd.dictAt
  have keys : vs.map (·.1) = ks.map Sum.inr := by rw [← hks]; exact rel.keys.symm
  have len : vs.length = ks.length := by simpa using congrArg List.length keys
  refine
    Calls.call_function_entry PyProof.Rows.kind_sorted
      PyProof.Rows.plain_sorted PyProof.Rows.entry_sorted
      (PyProof.Rows.args_sorted1 _) ?_
  unfold Builtin.«sorted»
  refine wpAny_bind (m := checkCount "sorted" 1 1 _)
    (wpAny_pure ?_)
  refine wpAny_bind (PySem.W.kdu_collect (A := X.A.in1)
    (PySem.W.kdl_dict (knd := mixKind X.prog X.w) (kvs := vs) (ep := ep) lo) (I.ok.hd hcalm) hat
    (by rw [len, sizeLine_eq]; omega) fun h' tk acc hk hacc => ?_)
  have al : acc.toList.length = ks.length := by rw [Array.length_toList, hacc.1, len]
  have rv : Vals (ks.map V.str) acc.toList := by
    have each : ∀ (j : Nat) (v : Value), acc.toList[j]? = some v → ∃ (x : Str) (t : Tok), ks[j]? = some x ∧ v = .str x t := fun j v e => by
      obtain ⟨k, x, e1, e2⟩ := hacc.2 j v (by rw [← Array.getElem?_toList]; exact e)
      have e3 : (ks.map (Sum.inr : Str → Key))[j]? = some k := by rw [← keys, List.getElem?_map, e1]; rfl
      rw [List.getElem?_map] at e3
      cases e4 : ks[j]? with
      | none => rw [e4] at e3; cases e3
      | some y =>
        rw [e4] at e3
        obtain rfl : Sum.inr y = k := Option.some.inj e3
        rcases keyIs_shape (show keyIs (Sum.inr y) v = true from e2) with ⟨i, t, ek, ev⟩ | ⟨w, t, ek, ev⟩
        · cases ek
        · cases ek
          exact ⟨y, t, rfl, ev⟩
    revert each al
    generalize acc.toList = vals
    intro al each
    clear hks h64 q keys len hacc
    induction ks generalizing vals with
    | nil =>
      cases vals with
      | nil => exact .nil
      | cons _ _ => cases al
    | cons k ks ih =>
      cases vals with
      | nil => cases al
      | cons v vals =>
        obtain ⟨x, t, e1, rfl⟩ := each 0 v rfl
        obtain rfl : k = x := Option.some.inj e1
        exact .cons ⟨t, rfl⟩ (ih vals (Nat.succ.inj al) fun j u e => each (j + 1) u e)
  have I1 : L2.Inv X pins σ H { s with heap := h', toks := tk } := I.kept hk
  have zl : (ks.map V.str).length ≤ sizeLine := by
    rw [List.length_map, sizeLine_eq]
    omega
  refine wpAny_bind (wpAny_newList ?_ (by rw [al, sizeLine_eq]; omega))
  have oL : (h'.push (seqObj "list" acc.toList.toArray 0)).get? h'.objs.size = some (seqObj "list" acc.toList.toArray 0) := Heap.get?_push_size _ rfl
  have hS := rv.strs
  show wpAny _ _ _ _ _ { s with heap := h'.push (seqObj "list" acc.toList.toArray 0), toks := tk }
  refine wpAny_bind (wpAny_holding (wpAny_call_entry slot_list_sort ⟨_, oL, rfl⟩ entry_list_sort
    (list_sort_treeK strKind_oneLt oL hS.keysOf (fun _ _ _ e => keyKind_strs (by
      rw [← e]
      exact hS)) (by rw [al]; exact h64) fun st' g1 g2 => ⟨_, rfl, ?_⟩)
    (args_list_sort _)))
  obtain ⟨ys, g3, g4, g5⟩ := sorted_out_str hS g1 g2
  obtain ⟨ep2, eo⟩ := sortedHeap_at (vs := acc.toList) (out := (arrOf st').map (·.2)) oL
  have yl : (ys.map V.str).length ≤ sizeLine := by
    rw [List.length_map, g4.length_eq, sizeLine_eq]
    omega
  refine wpAny_pure ⟨_, rfl, .ref h'.objs.size, upd H h'.objs.size (.lst (ys.map V.str)), I1.laid (t' := tk) (fun b u e => ?_) (Nat.le_refl _)
    (show ObjOk X.prog X.w _ _ _ (.lst (ys.map V.str)) from ⟨yl, ((arrOf st').map (·.2)).toList, ep2, vals_of_strs g3, by rw [Array.toArray_toList]; exact eo⟩), rfl, q ys _ g4 g5 (I1.hok.fresh (Nat.le_refl _))⟩
  have hb : b < h'.objs.size := Heap.lt_size e
  rw [sortedHeap_old (Nat.ne_of_lt hb) (by
    rw [size_push']
    exact Nat.lt_succ_of_lt hb)]
  exact Heap.get?_push_of_some _ e
end
end Z
/-! set(l) of a list of ints. -/
namespace Z
open PySem PySem.Spec L2 PyProof.Rows
abbrev freshSet (w : World) : Obj := Obj.mk (.type "set") none (.set #[] 0 (.fresh 0 0 (!w.params.followText "set-order"))) #[]
section
variable {P : Program} {w : World} {A : Around} {E : Value → Shared → Prop} {s : Shared}
/-- what set(l) leaves at the new set's address -/
def SetMade (w : World) (s : Shared) (ns : List Int) (Q : Value → Shared → Prop) : Prop := ∀ (h' : Heap) (tk c : Nat),
  SetR w h' s.heap.objs.size (fun j => decide (j ∈ ns)) c → c ≤ ns.length →
  (∀ b o, s.heap.get? b = some o → h'.get? b = some o) → Q (.ref s.heap.objs.size) { s with heap := h', toks := tk }
theorem set_of_list {l : Addr} {items : Array Value} (ns : List Int) {Q : Value → Shared → Prop} (hh : A.handled = none)
    (hl : s.heap.IsList l items) (hit : IntsAre items.toList ns) (hb : ns.length + 1 < scanBound) (h : SetMade w s ns Q) :
    wpAny (model P w) A (call (.type "set") [.ref l]) Q E s := by
  have size : items.size = ns.length := by
    rw [← Array.length_toList]
    exact IntsAre.length hit
  obtain ⟨cc, tt, hmro⟩ := F.called_set.mro
  have m1 := F.called_set.made
  have m2 := F.called_set.sub
  refine wpAny_call (codeAny_of_tree ?_)
  show wpAny _ _ (callAny (.type "set") _) _ _ _
  refine wpAny_pure ⟨Code.quiet_builtin _ (by decide +kernel),
    codeAny_builtin F.entry_type_call ?_⟩
  rw [Around.under_plain (weight_type_call_type "set" [.ref l] [])
    rfl]
  have m3 := F.called_set.notType
  have m4 := F.called_set.canCreate
  have m5 := F.typeCall_set_1 (.ref l)
  repeat
    (any_goals (first | assumption | wp_step))
  refine codeAny_mono (code_set_led1 (.ref l) (E := E)
    (Q₁ := fun obj s₁ => obj = .ref s.heap.objs.size ∧ s₁ = { s with heap := s.heap.push (freshSet w) }) ⟨rfl, rfl⟩)
    fun r s₁ hr => ?_
  cases r with
  | error e => exact hr
  | ok fl =>
    cases fl with
    | ret obj =>
      obtain ⟨rfl, rfl⟩ := hr
      have oS : (s.heap.push (freshSet w)).get? s.heap.objs.size = some (freshSet w) := Heap.get?_push_size _ rfl
      have tS : Shared.TypeIs { s with heap := s.heap.push (freshSet w) } (.ref s.heap.objs.size) "set" := ⟨_, oS, rfl⟩
      have i1 := F.called_set.init.lookup
      have i2 := F.called_set.init.bind (.ref s.heap.objs.size)
      repeat
        (any_goals (first | assumption | wp_step))
      refine codeAny_mono (codeAny_call_builtin
        (R := wants (fun r s₂ => r = .none ∧ ∃ h' tk c, s₂ = { s with heap := h', toks := tk } ∧
          SetR w h' s.heap.objs.size (fun j => decide (j ∈ ns)) c ∧ c ≤ ns.length ∧ ∀ b o, s.heap.get? b = some o → h'.get? b = some o) E)
        F.called_set.init.plain F.entry_set_init (check_set_init_1 tS ?_)) fun r₂ s₂ hr₂ => ?_
      · have lS : l < s.heap.objs.size := by
          obtain ⟨_, z, _⟩ := hl
          exact Heap.lt_size z
        obtain ⟨⟨ocls, odict, odata, oslots⟩, g1, g2, n2, g3⟩ := hl
        dsimp only at g2 g3
        subst g2
        subst g3
        have g4 : (s.heap.push (freshSet w)).get? l = some { cls := .type "list", dict := odict, data := .seq items n2, slots := oslots } := Heap.get?_push_of_some _ g1
        have b1 := F.sub_list_set
        have b2 := F.sub_list_frozenset
        have b3 : (Value.type "list" == Value.type "dict") = false := by decide
        have g5 : (s.heap.push (freshSet w)).IsList l items := ⟨_, g4, rfl, n2, rfl⟩
        unfold Builtin.«set.__init__» noKeywords Builtin.Frozenset.updateFrom
        generalize keep : pyIter = PI
        wp_walk
        subst keep
        refine wpAny_pyIter_list g5 ?_
        refine wpAny_bind (wpAny_runValue ?_)
        have h3 : A.in1.in1.in1.handled = none := by simp [hh]
        have e1 : (s.heap.push (freshSet w)).objs.size = s.heap.objs.size + 1 := Heap.size_push ..
        have ne1 : l ≠ (s.heap.push (freshSet w)).objs.size := by
          rw [e1]
          exact Nat.ne_of_lt (Nat.lt_succ_of_lt lS)
        have nf : s.heap.objs.size ∉ [(s.heap.push (freshSet w)).objs.size, l] := by
          rw [e1]
          simp only [List.mem_cons, List.not_mem_nil, or_false, not_or]
          exact ⟨Nat.ne_of_lt (Nat.lt_succ_self _), Nat.ne_of_gt lS⟩
        have each : ∀ (i : Nat) (v : Value), items[i]? = some v → ∃ k t, ns[i]? = some k ∧ v = .int k t := fun i v hv => by
          have hi : i < ns.length := by
            rw [← size]
            exact (Array.getElem?_eq_some_iff.mp hv).1
          obtain ⟨t, e⟩ := IntsAre.int_at hit i v (by rw [Array.getElem?_toList]; exact hv)
          refine ⟨ns[i], t, List.getElem?_eq_getElem hi, ?_⟩
          rw [e, List.getD_eq_getElem?_getD, List.getElem?_eq_getElem hi] <;> rfl
        refine set_update_ints ((Walks.list h3 _ l ne1 items).toS) s.heap.objs.size nf ns size hb each (items.size - 0) 0 _ (by omega) (Nat.zero_le _)
          ⟨⟨_, Heap.get?_push_size _ rfl, rfl, rfl⟩, g5.push _⟩ ?start ?done
        case start =>
          exact ⟨0, Nat.le_refl 0, setR_new_at (Heap.get?_push_of_some _ oS)⟩
        case done =>
          intro s' c' hm hc' hS'
          obtain ⟨h', gg, dd, tk', os'⟩ := s'
          obtain rfl : gg = s.gens := hm.gens
          obtain rfl : dd = s.drawn := hm.drawn
          obtain rfl : os' = s.os := hm.os
          show wpAny _ _ _ _ _ _
          refine wpAny_pure ?_
          show wpAny _ _ (ret Value.none) _ _ _
          refine wpAny_pure ⟨rfl, h', tk', c', rfl, hS', by rw [← size]; exact hc', fun b o e => ?_⟩
          have lt : b < s.heap.objs.size := Heap.lt_size e
          refine hm.heap b o ?_ (Heap.get?_push_of_some _ (Heap.get?_push_of_some _ e))
          rw [e1]
          simp only [List.mem_cons, List.not_mem_nil, or_false, not_or]
          exact ⟨Nat.ne_of_lt lt, Nat.ne_of_lt (Nat.lt_succ_of_lt lt)⟩
      · cases r₂ with
        | error e => exact hr₂
        | ok fl₂ =>
          cases fl₂ with
          | ret r =>
            obtain ⟨rfl, h', tk, c', rfl, hS', hc', hk'⟩ := hr₂
            repeat
              (any_goals (first | assumption | wp_step))
            exact h _ _ _ hS' hc' hk'
          | _ => exact hr₂.elim
    | _ => exact hr.elim
end
/-- set(l), l a list of fewer than 64 ints -/
def rSetL (K : PySem.W.Frag) (w : World) : List V → Hp → VK → Prop := fun xs H Q => ∃ (a : Addr) (ns : List Int), xs = [.ref a] ∧ SqL K H a (ns.map V.int) ∧ ns.length < 64 ∧
  ∀ p c, c ≤ ns.length → H p = none → Q (.ref p) (upd H p (SetO w p (fun j => decide (j ∈ ns)) c))
theorem cr_setL {X : Cx} (hc : X.calm = true) : CallR X (.type "set") (rSetL X.K X.w) := by
  intro pins s σ H xs us Q I r q
  obtain ⟨a, ns, rfl, hs, h64, q⟩ := q
  obtain ⟨its, rv, hl, hz⟩ := I.list hs
  rw [Vals.ref1 r]
  refine set_of_list ns (I.ok.hd hc) hl.isList (by simpa using rv.ints) (Nat.lt_trans (Nat.succ_lt_succ h64) (by decide)) fun h' tk c g1 g2 g3 => ?_
  have I1 : L2.Inv X pins σ (upd H s.heap.objs.size (SetO X.w s.heap.objs.size (fun j => decide (j ∈ ns)) c)) { s with heap := h', toks := tk } :=
    I.laid (t' := tk) g3 (Nat.le_refl _) (setO_new g1)
  exact ⟨.ref s.heap.objs.size, _, I1, rfl, q _ c g2 (I.hok.fresh (Nat.le_refl _))⟩
end Z
/-! The law's end for a law that makes lambdas and is called while no repr runs. -/
namespace Z
open PySem PySem.Spec PyProof.Rows L2 LamX
/-- a table of code objects, empty -/
abbrev noTab : Obj := { cls := .none, data := .fields #[] }
abbrev lstO (vs : List Value) : Obj := { cls := .type "list", data := .seq vs.toArray }
/-- what may be tracked at the start: the script, the tables -/
def OnlyT (ts : List Addr) (H : Hp) : Prop := ∀ b, H b = none ∨ b ∈ ts ∨ ∃ o xs, H b = some (.frz o (.lst xs))
theorem law_callGT {P : Program} {w : World} {K : PySem.W.Frag} {mg mb : Str → Option Value} {k : Nat} {fa a : Addr} {cs : List (Addr × Addr)} {fd : FuncData} {x : Str} {sp : Sp} {s₁ : Shared} {vs : List Value} {ns : List Int}
    (KX : K.In s₁.heap) (hns : s₁.heap.Ns mainGlobals mg) (hb : s₁.heap.Ns builtinsNs mb) (hbb : ∀ x : Str, x ≠ "__name__" → mb x = bootBuiltins x) (hlim : s₁.heap.NoLimit) (hg : s₁.gens = #[])
    (hT : ∀ p ∈ cs, s₁.heap.get? p.2 = some noTab) (nT : ∀ p ∈ cs, K.lookup p.2 = none)
    (hC : ∀ p ∈ cs, PySem.W.CodeHd s₁.heap p.1 p.2)
    (hbm : ∃ (bm : Addr) (ob : Obj), mg "__builtins__" = some (.ref bm) ∧ bm ≠ builtinsNs ∧
      s₁.heap.get? bm = some ob ∧ ob.cls = .type "module" ∧ ob.dict = some builtinsNs ∧ ob.data = .plain)
    (ha : s₁.heap.get? a = some (lstO vs)) (hi : IntsAre vs ns) (hl : ns.length ≤ sizeLine) (hr : Room k callerA)
    (F : ∀ base : Heap, K.In base → base.Ns mainGlobals mg → (∀ p ∈ cs, TabB base mg p.1 p.2) → FnG P w K mg base k fa fd [x] sp)
    (hbind : ∀ (s : Shared) (u : Value), BindsTo s fd ⟨[u], []⟩ [(x, u)])
    (hsp : ∀ H : Hp, (∀ p ∈ cs, H p.2 = some (.tbl #[])) → SqL K H a (ns.map V.int) → sp [.ref a] H (fun v _ => v = .bl true) fun _ _ _ => False) :
    codeAny (model P w) callerA (.call (.ref fa) ⟨[.ref a], []⟩)
      (fun r s' => r = .ok (.ret (.bool true)) ∧ OldK s₁.heap s'.heap ∧ s'.os = s₁.os ∧ AllBare s'.gens) s₁ := by
  have rv := vals_ints hi
  have lenV := hi.length
  obtain ⟨ts, hts⟩ : ∃ ts, ts = cs.map (·.2) := ⟨_, rfl⟩
  have tab : ∀ b ∈ ts, ∃ p ∈ cs, p.2 = b := fun b m => by
    rw [hts] at m
    obtain ⟨p, hp, e⟩ := List.mem_map.mp m
    exact ⟨p, hp, e⟩
  have tabO : ∀ b ∈ ts, s₁.heap.get? b = some noTab := fun b m => by
    obtain ⟨p, hp, rfl⟩ := tab b m
    exact hT p hp
  have inT : ∀ p ∈ cs, p.2 ∈ ts := fun p hp => by
    rw [hts]
    exact List.mem_map_of_mem hp
  have aT : a ∉ ts := fun z => by
    have q := tabO a z
    rw [ha] at q
    exact nomatch (show Data.seq vs.toArray _ = Data.fields #[] from congrArg Obj.data (Option.some.inj q))
  suffices core : ∀ H : Hp, (∀ p ∈ cs, H p.2 = some (.tbl #[])) → OnlyT ts H → SqL K H a (ns.map V.int) → HOk P w H s₁.heap →
      (∀ b, H b ≠ none → b = a ∨ b ∈ ts) → (H a ≠ none → K.lookup a = none) →
      codeAny (model P w) callerA (.call (.ref fa) ⟨[.ref a], []⟩)
        (fun r s' => r = .ok (.ret (.bool true)) ∧ OldK s₁.heap s'.heap ∧ s'.os = s₁.os ∧ AllBare s'.gens) s₁ by
    have tbls : Hp := fun b => if b ∈ ts then some (.tbl #[]) else none
    cases hk : K.lookup a with
    | some o =>
      have e := KX a o hk
      rw [ha] at e
      cases e
      refine core (fun b => if b ∈ ts then some (.tbl #[]) else none) (fun p hp => if_pos (inT p hp)) (fun b => ?_) (.inr ⟨_, vs.toArray, _, hk, rfl, rfl, rfl, ?_, by simpa using rv⟩) (fun b u z => ?_) (fun b z => ?_) (fun z => absurd (if_neg aT) z)
      · by_cases m : b ∈ ts
        · exact .inr (.inl m)
        · exact .inl (if_neg m)
      · rw [List.size_toArray, lenV]
        exact hl
      · by_cases m : b ∈ ts
        · cases (if_pos m).symm.trans z
          exact tabO b m
        · cases (if_neg m).symm.trans z
      · by_cases m : b ∈ ts
        · exact .inr m
        · exact absurd (if_neg m) z
    | none =>
      let sc : HO := .frz (lstO vs) (.lst (ns.map V.int))
      refine core (fun b => if b = a then some sc else if b ∈ ts then some (.tbl #[]) else none) (fun p hp => ?_) (fun b => ?_) (.inl (.inr ⟨lstO vs, if_pos rfl⟩)) (fun b u z => ?_) (fun b z => ?_) fun _ => hk
      · exact (if_neg (show ¬ p.2 = a from fun z => aT (z ▸ inT p hp))).trans (if_pos (inT p hp))
      · by_cases e : b = a
        · exact .inr (.inr ⟨_, _, if_pos e⟩)
        · by_cases m : b ∈ ts
          · exact .inr (.inl m)
          · exact .inl ((if_neg e).trans (if_neg m))
      · by_cases e : b = a
        · subst e
          cases (show some sc = some u from (if_pos rfl).symm.trans z)
          exact ⟨ha, by rw [List.length_map]; exact hl, vs, _, rv, ha⟩
        · have z1 := (if_neg e).symm.trans z
          by_cases m : b ∈ ts
          · cases (if_pos m).symm.trans z1
            exact tabO b m
          · cases (if_neg m).symm.trans z1
      · by_cases e : b = a
        · exact .inl e
        · by_cases m : b ∈ ts
          · exact .inr m
          · exact absurd ((if_neg e).trans (if_neg m)) z
  intro H hH hO hS hok hA hK
  have free : ∀ {b : Addr} {o : Obj}, s₁.heap.get? b = some o → (∀ xs n, o.data ≠ .seq xs n) → o.data ≠ .fields #[] → H b = none := fun {b o} e h1 h2 => by
    by_cases z : H b = none
    · exact z
    · rcases hA b z with rfl | m
      · rw [ha] at e
        cases e
        exact (h1 _ _ rfl).elim
      · rw [tabO b m] at e
        cases e
        exact (h2 rfl).elim
  have freeD : ∀ {b : Addr} {o : Obj} {es : Array DictEntry} {ep : Nat}, s₁.heap.get? b = some o → o.data = .dict es ep → H b = none := fun e d =>
    free e (fun xs n z => by rw [d] at z; cases z) (fun z => by rw [d] at z; cases z)
  have nsK : ∀ {b : Addr} {m : Str → Option Value}, s₁.heap.Ns b m → (hidT s₁.heap H).Ns b m := fun n => by
    obtain ⟨o, es, ep, e, d, r⟩ := n
    exact ⟨o, es, ep, hidT_get e (freeD e d), d, r⟩
  have hKb : K.In (hidT s₁.heap H) := fun b o e => hidT_get (KX b o e) (by
    by_cases z : H b = none
    · exact z
    · rcases hA b z with rfl | m
      · rw [hK z] at e
        cases e
      · obtain ⟨p, hp, rfl⟩ := tab b m
        rw [nT p hp] at e
        cases e)
  have hM : Mod K mg (hidT s₁.heap H) := ⟨hKb, nsK hns, ⟨mb, nsK hb, hbb⟩, let ⟨mc, h1, h2⟩ := hlim; ⟨mc, nsK h1, h2⟩⟩
  have TB : ∀ p ∈ cs, TabB (hidT s₁.heap H) mg p.1 p.2 := fun p hp => by
    have isT := hT p hp
    refine ⟨?_, ?_, fun z => ?_⟩
    · obtain ⟨o, us, file, tf, flags, tg, inF, text, tt, e1, r1, r2, r3, rest⟩ := hC p hp
      refine ⟨o, us, file, tf, flags, tg, inF, text, tt, hidT_get e1 (free e1 (fun xs n z => ?_) fun z => ?_), r1, r2, r3, rest⟩
      · rw [r2] at z
        cases z
      · rw [r2] at z
        cases z
        simp at r3
    · obtain ⟨bm, ob, b1, b2, b3, b4, b5, b6⟩ := hbm
      refine ⟨bm, ob, b1, b2, fun q => ?_, fun q => ?_, hidT_get b3 (free b3 (fun xs n z => by rw [b6] at z; cases z) (fun z => by rw [b6] at z; cases z)), b4, b5, b6⟩
      · obtain ⟨o, es, ep, e, hd, _⟩ := hns
        rw [q, e] at b3
        cases b3
        rw [hd] at b6
        cases b6
      · rw [q, isT] at b3
        cases b3
        cases b6
    · obtain ⟨o, es, ep, e, hd, _⟩ := hns
      rw [z, isT] at e
      cases e
      cases hd
  have nil0 : ∀ b : Addr, b ∉ ([] : List Addr) := fun b => by simp
  have e0 : Env0 P w K mg (hidT s₁.heap H) callerA [] s₁ H := ⟨rfl, hM, fun b o e => of_hidT e, Nat.le_of_eq (hidT_size _ _), trivial, fun b hb => absurd hb (nil0 b), hok, .of_eq hg⟩
  refine codeAny_mono ((F _ hKb (nsK hns) TB).run callerA [] s₁ H ⟨[.ref a], []⟩ [.ref a] [.ref a] _ _ hr rfl e0 (hbind s₁ (.ref a)) (.cons rfl .nil) (hsp H hH hS)) fun r s' h => ?_
  match r, h with
  | .error e, h => exact False.elim h
  | .ok .next, h => exact False.elim h
  | .ok .brk, h => exact False.elim h
  | .ok .cont, h => exact False.elim h
  | .ok (.ret u), h =>
    obtain ⟨v, H', os, bare, un, hok', r', q⟩ := h
    cases (show v = .bl true from q)
    cases (show u = Value.bool true from r')
    have keep : ∀ b o, b ∉ ts → s₁.heap.get? b = some o → s'.heap.get? b = some o := fun b o m e => by
      by_cases z : H b = none
      · exact un.keep b o e z (nil0 b) (by simp)
      · rcases hO b with y | y | ⟨ob, xs, y⟩
        · exact absurd y z
        · exact absurd y m
        · obtain ⟨e1, _⟩ := hok b _ y
          obtain ⟨e2, _⟩ := hok' b _ (un.frzs b ob _ y)
          rw [e] at e1
          cases e1
          exact e2
    have grown : ∀ p ∈ cs, ∃ more : Array Value, s'.heap.get? p.2 = some { cls := .none, data := .fields more } := fun p hp => by
      obtain ⟨more, z⟩ := un.tbls p.2 #[] (hH p hp)
      exact ⟨_, hok' p.2 _ z⟩
    refine ⟨rfl, ⟨fun b o e => ?_, fun b o e => ?_⟩, os, bare⟩
    · by_cases m : b ∈ ts
      · obtain ⟨p, hp, rfl⟩ := tab b m
        obtain ⟨more, hm⟩ := grown p hp
        rw [hT p hp] at e
        cases e
        refine .inr (.inl ⟨((hC p hp).tab (hT p hp)).isCodeTable, rfl, #[], more, rfl, ?_⟩)
        rw [Array.empty_append]
        exact hm
      · exact .inl (keep b o m e)
    · by_cases m : b ∈ ts
      · obtain ⟨p, hp, rfl⟩ := tab b m
        obtain ⟨more, hm⟩ := grown p hp
        exact ⟨_, hm⟩
      · exact ⟨o, keep b o m e⟩
/-- what is known of the law's promise at the head's heap -/
def LawAtG (l : PySem.W.OpenLaw) (w : World) (K : PySem.W.Frag) (k n : Nat) (x : Str) (mg : Str → Option Value) (fa : Addr) (h : Heap) : Prop :=
  ∃ (fd : FuncData) (cs : List (Addr × Addr)) (sp : Sp), (∀ p ∈ cs, h.get? p.2 = some noTab) ∧
    (∀ p ∈ cs, K.lookup p.2 = none) ∧ (∀ p ∈ cs, PySem.W.CodeHd h p.1 p.2) ∧
    (∀ (s : Shared) (u : Value), BindsTo s fd ⟨[u], []⟩ [(x, u)]) ∧
    (∀ (H : Hp) (a : Addr) (ns : List Int), ns.length ≤ n → (∀ p ∈ cs, H p.2 = some (.tbl #[])) → SqL K H a (ns.map V.int) → sp [.ref a] H (fun v _ => v = .bl true) fun _ _ _ => False) ∧
    ∀ base : Heap, K.In base → base.Ns mainGlobals mg → (∀ p ∈ cs, TabB base mg p.1 p.2) → FnG l.prog w K mg base k fa fd [x] sp
theorem walkGT {l : PySem.W.OpenLaw} {n k : Nat} {q : Program} {loose : List Str} {XP : (Str → Option Value) → Heap → Prop} {YP : World → Heap → Prop} {d : DefRec} {K : Params → PySem.W.Frag} {x : Str}
    (hn : l.most = some n) (hn2 : n ≤ sizeLine) (hdf : d.params.defaults = []) (hr : Room k callerA)
    (hY : ∀ (w : World) (h : Heap), YP w h → (K w.params).In h)
    (F : ∀ (w : World) (mg : Str → Option Value) (fa : Addr) (h : Heap), YP w h → (K w.params).In h → h.Ns mainGlobals mg → mg d.name = some (.ref fa) → LawAtG l w (K w.params) k n x mg fa h) :
    PySem.W.WalkO q loose XP YP l.row.toRowW d [] (fun f vs => PySem.call f vs) := by
  refine Att.attach_call hn hdf fun w s₀ s₁ mg mb fa o pm cd doc a vs ns G Y ho hd hcd hmg hobj hints hlen hg => ?_
  have KX := hY w _ Y
  obtain ⟨fd, cs, sp, hT, nT, hC, hb, hsp, hF⟩ := F w mg fa _ Y KX G.T.g hmg
  exact law_callGT KX G.T.g G.T.b G.T.builtins G.T.nolimit hg hT nT hC G.T.bmain hobj hints (Nat.le_trans hlen hn2) hr hF hb fun H hH hS => hsp H a ns hlen hH hS
end Z
set_option autoImplicit true
namespace K2
def Per (f : Nat → Bool) (s p : Nat) : Prop := ∀ n, s ≤ n → f (n + p) = f n
theorem Per.mono {f : Nat → Bool} {s s' p : Nat} (h : Per f s p) (le : s ≤ s') : Per f s' p := fun n hn => h n (Nat.le_trans le hn)
theorem Per.mul {f : Nat → Bool} {s p : Nat} (h : Per f s p) : ∀ k : Nat, Per f s (k * p)
  | 0 => fun n _ => by rw [Nat.zero_mul, Nat.add_zero]
  | k + 1 => fun n hn => by
    rw [Nat.succ_mul, ← Nat.add_assoc, h (n + k * p) (by omega), h.mul k n hn]
theorem Per.dvd {f : Nat → Bool} {s p q : Nat} (h : Per f s p) (d : p ∣ q) : Per f s q := by
  obtain ⟨k, rfl⟩ := d
  rw [Nat.mul_comm]
  exact h.mul k
theorem Per.sub {f : Nat → Bool} {s p q : Nat} (a : Per f s p) (b : Per f s q) (le : q ≤ p) : Per f s (p - q) := fun n hn => by
  rw [← b (n + (p - q)) (by omega), show n + (p - q) + q = n + p by omega, a n hn]
theorem Per.mod {f : Nat → Bool} {s p q : Nat} (a : Per f s p) (b : Per f s q) : Per f s (p % q) := by
  have h := a.sub (b.mul (p / q)) (Nat.div_mul_le_self p q)
  rwa [show p - p / q * q = p % q by have := Nat.div_add_mod p q; rw [Nat.mul_comm] at this; omega] at h
theorem Per.back {f : Nat → Bool} {s p T q : Nat} (a : Per f s p) (hp : 0 < p) (b : Per f T q) : Per f s q := fun n hn => by
  have e1 := a.mul T (n + q) (by omega)
  have e2 := a.mul T n hn
  have h : T ≤ T * p := Nat.le_mul_of_pos_right T hp
  rw [← e1, ← e2, ← b (n + T * p) (by omega)]
  congr 1
  omega
/-- f's step p and start st are the least ones -/
structure Canon (f : Nat → Bool) (st p : Nat) : Prop where
  pos : 0 < p
  per : Per f st p
  min : ∀ s q, 0 < q → Per f s q → p ≤ q
  low : ∀ s, Per f s p → st ≤ s
theorem Canon.uniq {f : Nat → Bool} {st p st' p' : Nat} (a : Canon f st p) (b : Canon f st' p') : st = st' ∧ p = p' := by
  have e : p = p' := Nat.le_antisymm (a.min _ _ b.pos b.per) (b.min _ _ a.pos a.per)
  subst e
  exact ⟨Nat.le_antisymm (a.low _ b.per) (b.low _ a.per), rfl⟩
theorem Canon.dvd {f : Nat → Bool} {st p s q : Nat} (a : Canon f st p) (h : Per f s q) : p ∣ q := by
  have h' := a.per.back a.pos h
  have m := h'.mod a.per
  cases e : q % p with
  | zero => exact Nat.dvd_of_mod_eq_zero e
  | succ r =>
    have l := a.min _ _ (by omega) m
    have := Nat.mod_lt q a.pos
    omega
/-- the least period from s on -/
structure Least (f : Nat → Bool) (s m : Nat) : Prop where
  pos : 0 < m
  per : Per f s m
  min : ∀ q, 0 < q → Per f s q → m ≤ q
theorem Least.ex {f : Nat → Bool} {s : Nat} : ∀ p : Nat, 0 < p → Per f s p → ∃ m, Least f s m ∧ m ≤ p := fun p => by
  induction p using Nat.strongRecOn with
  | _ p ih =>
    intro hp h
    by_cases c : ∃ q, 0 < q ∧ q < p ∧ Per f s q
    · obtain ⟨q, h1, h2, h3⟩ := c
      obtain ⟨m, hm, hl⟩ := ih q h2 h1 h3
      exact ⟨m, hm, by omega⟩
    · exact ⟨p, ⟨hp, h, fun q h1 h2 => Nat.le_of_not_lt fun z => c ⟨q, h1, z, h2⟩⟩, Nat.le_refl _⟩
theorem Least.dvd {f : Nat → Bool} {s m q : Nat} (a : Least f s m) (h : Per f s q) : m ∣ q := by
  have x := h.mod a.per
  cases e : q % m with
  | zero => exact Nat.dvd_of_mod_eq_zero e
  | succ r =>
    have l := a.min _ (by omega) x
    have := Nat.mod_lt q a.pos
    omega
theorem Least.canon {f : Nat → Bool} {s m st : Nat} (a : Least f s m) (h : Per f st m) (low : ∀ i, Per f i m → st ≤ i) : Canon f st m :=
  ⟨a.pos, h, fun T q hq hT => a.min q hq (a.per.back a.pos hT), low⟩
/-- a shorter step seen within one round -/
theorem per_seen {f : Nat → Bool} {s p q : Nat} (a : Per f s p) (hp : 0 < p) (d : q ∣ p) (h : ∀ i, i + q < p → f (s + i) = f (s + i + q)) : Per f s q := by
  obtain ⟨k, hk⟩ := d
  have hq : 0 < q := by
    cases q with
    | zero => omega
    | succ q => omega
  intro n hn
  obtain ⟨j, rfl⟩ : ∃ j, n = s + j := ⟨n - s, by omega⟩
  have red : ∀ x, f (s + x) = f (s + x % p) := fun x => by
    have e := a.mul (x / p) (s + x % p) (by omega)
    rw [← e]
    congr 1
    have := Nat.div_add_mod x p
    rw [Nat.mul_comm] at this
    omega
  have red2 : f (s + j + q) = f (s + j % p + q) := by
    have e := a.mul (j / p) (s + j % p + q) (by omega)
    rw [← e]
    congr 1
    have := Nat.div_add_mod j p
    rw [Nat.mul_comm] at this
    omega
  rw [red2, red j]
  have lt := Nat.mod_lt j hp
  generalize hi : j % p = i at lt ⊢
  by_cases c : i + q < p
  · exact (h i c).symm
  · -- i + q ≥ p
    have lq : q ≤ p := Nat.le_of_dvd hp ⟨k, hk⟩
    obtain ⟨i', hi'⟩ : ∃ i', i + q = i' + p := ⟨i + q - p, by omega⟩
    rw [show s + i + q = s + i' + p by omega, a (s + i') (by omega)]
    have chain : ∀ t, i' + t * q ≤ i → f (s + i' + t * q) = f (s + i') := fun t => by
      induction t with
      | zero => intro _; simp
      | succ t ih =>
        intro hle
        rw [Nat.succ_mul] at hle
        rw [Nat.succ_mul, ← ih (by omega)]
        have := h (i' + t * q) (by omega)
        rw [show s + i' + (t * q + q) = s + (i' + t * q) + q by omega, ← this]
        congr 1
        omega
    cases k with
    | zero => omega
    | succ k =>
      have e : i = i' + k * q := by
        rw [Nat.mul_succ, Nat.mul_comm] at hk
        omega
      rw [e]
      have := chain k (by omega)
      rw [← this]
      congr 1
      omega
/-- the search for the least step: one prime taken away -/
structure Srch (f : Nat → Bool) (s step m least rest prime : Nat) : Prop where
  s0 : 0 < step
  r0 : 0 < rest
  p2 : 2 ≤ prime
  rl : rest ∣ least
  ls : least ∣ step
  l0 : 0 < least
  per : Per f s least
  none_ : ∀ d, 2 ≤ d → d < prime → ¬ d ∣ rest
  q : ∃ k, least = m * k ∧ k ∣ rest
theorem Srch.start {f : Nat → Bool} {s step m : Nat} (hs : 0 < step) (per : Per f s step) (L : Least f s m) : Srch f s step m step step 2 :=
  ⟨hs, hs, Nat.le_refl 2, Nat.dvd_refl _, Nat.dvd_refl _, hs, per, fun d h1 h2 => by omega, by
    obtain ⟨k, hk⟩ := L.dvd per
    exact ⟨k, hk, ⟨m, by rw [hk, Nat.mul_comm]⟩⟩⟩
theorem Srch.next {f : Nat → Bool} {s step m least rest prime : Nat} (h : Srch f s step m least rest prime) (n : rest % prime ≠ 0) : Srch f s step m least rest (prime + 1) :=
  ⟨h.s0, h.r0, Nat.le_succ_of_le h.p2, h.rl, h.ls, h.l0, h.per, fun d h1 h2 hd => by
    by_cases e : d = prime
    · subst e
      exact n (Nat.mod_eq_zero_of_dvd hd)
    · exact h.none_ d h1 (by omega) hd, h.q⟩
theorem Srch.lt {f : Nat → Bool} {s step m least rest prime : Nat} (h : Srch f s step m least rest prime) (r1 : 1 < rest) (n : rest % prime ≠ 0) : prime < rest := by
  by_cases c : prime < rest
  · exact c
  · exfalso
    by_cases e : prime = rest
    · subst e
      exact n (Nat.mod_self _)
    · exact h.none_ rest (by omega) (by omega) (Nat.dvd_refl _)
theorem Srch.facts {f : Nat → Bool} {s step m least rest prime : Nat} (h : Srch f s step m least rest prime) (d : rest % prime = 0) : prime ∣ least ∧ least / prime ∣ step ∧ 0 < least / prime ∧ least / prime < step ∧ 0 < rest / prime := by
  have pd : prime ∣ rest := Nat.dvd_of_mod_eq_zero d
  have pl := Nat.dvd_trans pd h.rl
  have p2 := h.p2
  have lp : 0 < least / prime := Nat.div_pos (Nat.le_of_dvd h.l0 pl) (by omega)
  have dl : least / prime ∣ least := Nat.div_dvd_of_dvd pl
  refine ⟨pl, Nat.dvd_trans dl h.ls, lp, ?_, Nat.div_pos (Nat.le_of_dvd h.r0 pd) (by omega)⟩
  have : least / prime < least := Nat.div_lt_self h.l0 (by omega)
  have := Nat.le_of_dvd h.s0 h.ls
  omega
theorem Srch.take {f : Nat → Bool} {s step m least rest prime : Nat} (h : Srch f s step m least rest prime) (L : Least f s m) (d : rest % prime = 0) (per : Per f s (least / prime)) : Srch f s step m (least / prime) (rest / prime) prime := by
  obtain ⟨pl, a1, a2, a3, a4⟩ := h.facts d
  have pd : prime ∣ rest := Nat.dvd_of_mod_eq_zero d
  have p2 := h.p2
  refine ⟨h.s0, a4, p2, Nat.div_dvd_div pd h.rl, a1, a2, per, fun d' h1 h2 hd => h.none_ d' h1 h2 (Nat.dvd_trans hd (Nat.div_dvd_of_dvd pd)), ?_⟩
  obtain ⟨k, hk, kr⟩ := h.q
  obtain ⟨j, hj⟩ := L.dvd per
  refine ⟨j, hj, ?_⟩
  have e : least = m * (j * prime) := by
    rw [← Nat.mul_assoc, ← hj]
    exact (Nat.div_mul_cancel pl).symm
  have : k = j * prime := Nat.eq_of_mul_eq_mul_left L.pos (hk.symm.trans e)
  subst this
  have := Nat.div_dvd_div (Nat.dvd_mul_left prime j) kr
  rwa [Nat.mul_div_cancel _ (by omega)] at this
theorem Srch.leave {f : Nat → Bool} {s step m least rest prime : Nat} (h : Srch f s step m least rest prime) (L : Least f s m) (d : rest % prime = 0) (np : ¬ Per f s (least / prime)) : Srch f s step m least (rest / prime) prime := by
  obtain ⟨pl, a1, a2, a3, a4⟩ := h.facts d
  have pd : prime ∣ rest := Nat.dvd_of_mod_eq_zero d
  have p2 := h.p2
  refine ⟨h.s0, a4, p2, Nat.dvd_trans (Nat.div_dvd_of_dvd pd) h.rl, h.ls, h.l0, h.per, fun d' h1 h2 hd => h.none_ d' h1 h2 (Nat.dvd_trans hd (Nat.div_dvd_of_dvd pd)), ?_⟩
  obtain ⟨k, hk, kr⟩ := h.q
  refine ⟨k, hk, ?_⟩
  have npk : ¬ prime ∣ k := fun ⟨j, hj⟩ => np (by
    have e : least / prime = m * j := by
      rw [hk, hj, show m * (prime * j) = m * j * prime by rw [Nat.mul_comm prime j, Nat.mul_assoc], Nat.mul_div_cancel _ (by omega)]
    rw [e]
    exact L.per.dvd (Nat.dvd_mul_right m j))
  have cop : Nat.Coprime k prime := by
    have gk := Nat.gcd_dvd_left k prime
    have gp := Nat.gcd_dvd_right k prime
    have gle : Nat.gcd k prime ≤ prime := Nat.le_of_dvd (by omega) gp
    have g0 : 0 < Nat.gcd k prime := Nat.gcd_pos_of_pos_right _ (by omega)
    by_cases e1 : Nat.gcd k prime = 1
    · exact e1
    · exfalso
      by_cases e2 : Nat.gcd k prime = prime
      · exact npk (e2 ▸ gk)
      · exact h.none_ (Nat.gcd k prime) (by omega) (by omega) (Nat.dvd_trans gk kr)
  have : k ∣ prime * (rest / prime) := by
    rw [Nat.mul_div_cancel' pd]
    exact kr
  exact Nat.Coprime.dvd_of_dvd_mul_left cop this
theorem Srch.fin {f : Nat → Bool} {s step m least rest prime : Nat} (h : Srch f s step m least rest prime) (r : ¬ 1 < rest) : least = m := by
  obtain ⟨k, hk, kr⟩ := h.q
  have r0 := h.r0
  have e : rest = 1 := by omega
  subst e
  have := Nat.dvd_one.mp kr
  subst this
  rw [hk, Nat.mul_one]
end K2
namespace K2
/-! ### words -/
def hasW (w : Nat × Nat) (n : Nat) : Bool := decide (n = w.1) || (decide (0 < w.2) && (decide (w.1 < n) && decide ((n - w.1) % w.2 = 0)))
def has (ws : List (Nat × Nat)) (n : Nat) : Bool := ws.any fun w => hasW w n
def top : List (Nat × Nat) → Nat
  | [] => 0
  | w :: ws => max (w.1 + 1) (top ws)
def StepsOk (ws : List (Nat × Nat)) (P : Nat) : Prop := ∀ w ∈ ws, w.2 = 0 ∨ w.2 ∣ P
theorem lt_top {ws : List (Nat × Nat)} : ∀ {w : Nat × Nat}, w ∈ ws → w.1 < top ws := by
  induction ws with
  | nil => intro w h; cases h
  | cons a ws ih =>
    intro w h
    unfold top
    cases h with
    | head => omega
    | tail _ h => have := ih h; omega
theorem top_le {ws : List (Nat × Nat)} {n : Nat} (h : ∀ w ∈ ws, w.1 < n) : top ws ≤ n := by
  induction ws with
  | nil => exact Nat.zero_le _
  | cons a ws ih =>
    unfold top
    have h1 := h a List.mem_cons_self
    have h2 := ih fun w hw => h w (List.mem_cons_of_mem _ hw)
    omega
theorem top_is {ws : List (Nat × Nat)} {m : Nat} (h1 : m = 0 ∨ ∃ w ∈ ws, m = w.1 + 1) (h2 : ∀ w ∈ ws, w.1 + 1 ≤ m) : m = top ws := by
  refine Nat.le_antisymm ?_ (top_le fun w hw => h2 w hw)
  rcases h1 with h | ⟨w, hw, h⟩
  · omega
  · have := lt_top hw
    omega
theorem any_congr' {α : Type} {l : List α} {f g : α → Bool} (h : ∀ x ∈ l, f x = g x) : l.any f = l.any g := by
  induction l with
  | nil => rfl
  | cons a l ih => rw [List.any_cons, List.any_cons, h a List.mem_cons_self, ih fun x hx => h x (List.mem_cons_of_mem _ hx)]
theorem has_per {ws : List (Nat × Nat)} {P : Nat} (h : StepsOk ws P) : Per (has ws) (top ws) P := fun n hn => by
  refine any_congr' fun w hw => ?_
  have lt := lt_top hw
  unfold hasW
  rw [decide_eq_false (show ¬ n + P = w.1 by omega), decide_eq_false (show ¬ n = w.1 by omega), decide_eq_true (show w.1 < n + P by omega), decide_eq_true (show w.1 < n by omega)]
  rcases h w hw with e | d
  · rw [e]; simp
  · obtain ⟨k, hk⟩ := d
    have : (n + P - w.1) % w.2 = (n - w.1) % w.2 := by
      rw [show n + P - w.1 = (n - w.1) + P by omega, hk, Nat.add_mul_mod_self_left]
    rw [this]
def comF (a : Nat) (w : Nat × Nat) : Nat := Nat.lcm a (max w.2 1)
def common (ws : List (Nat × Nat)) : Nat := ws.foldl comF 1
theorem com_dvd {P : Nat} : ∀ {ws : List (Nat × Nat)} {a : Nat}, StepsOk ws P → a ∣ P → ws.foldl comF a ∣ P
  | [], _, _, h => h
  | w :: ws, a, so, h => by
    refine com_dvd (ws := ws) (a := comF a w) (fun x hx => so x (List.mem_cons_of_mem _ hx)) (Nat.lcm_dvd h ?_)
    rcases so w List.mem_cons_self with e | d
    · rw [e]; exact Nat.one_dvd P
    · by_cases z : w.2 = 0
      · rw [z]; exact Nat.one_dvd P
      · rw [show max w.2 1 = w.2 by omega]; exact d
theorem com_pos : ∀ {ws : List (Nat × Nat)} {a : Nat}, 0 < a → 0 < ws.foldl comF a
  | [], _, h => h
  | w :: ws, a, h => com_pos (ws := ws) (a := comF a w) (Nat.lcm_pos h (by omega))
theorem com_base : ∀ {ws : List (Nat × Nat)} {a : Nat}, a ∣ ws.foldl comF a
  | [], _ => Nat.dvd_refl _
  | w :: ws, a => Nat.dvd_trans (Nat.dvd_lcm_left a _) com_base
theorem com_steps : ∀ {ws : List (Nat × Nat)} {a : Nat}, StepsOk ws (ws.foldl comF a)
  | [], _ => fun w h => by cases h
  | v :: ws, a => fun w h => by
    cases h with
    | head =>
      by_cases z : v.2 = 0
      · exact .inl z
      · refine .inr (Nat.dvd_trans ?_ (com_base (ws := ws) (a := comF a v)))
        have := Nat.dvd_lcm_right a (max v.2 1)
        rw [show max v.2 1 = v.2 by omega] at this
        unfold comF
        rw [show max v.2 1 = v.2 by omega]
        exact this
    | tail _ h => exact com_steps (ws := ws) (a := comF a v) w h
theorem common_dvd {ws : List (Nat × Nat)} {P : Nat} (h : StepsOk ws P) : common ws ∣ P := com_dvd h ⟨P, by omega⟩
theorem common_pos {ws : List (Nat × Nat)} : 0 < common ws := com_pos (by omega)
theorem common_steps {ws : List (Nat × Nat)} : StepsOk ws (common ws) := com_steps
/-! ### bits -/
structure Bits (b : Nat) (f : Nat → Bool) (n : Nat) : Prop where
  lt : b < 2 ^ n
  at_ : ∀ i, i < n → b.testBit i = f i
theorem Bits.all {b n : Nat} {f : Nat → Bool} (h : Bits b f n) (i : Nat) : b.testBit i = (decide (i < n) && f i) := by
  by_cases c : i < n
  · rw [h.at_ i c, decide_eq_true c]; rfl
  · rw [decide_eq_false c]
    have : b < 2 ^ i := Nat.lt_of_lt_of_le h.lt (Nat.pow_le_pow_right (by omega) (by omega))
    rw [Nat.testBit_lt_two_pow this]; rfl
theorem Bits.ext {b c n : Nat} {f : Nat → Bool} (h : Bits b f n) (k : Bits c f n) : b = c := Nat.eq_of_testBit_eq fun i => by rw [h.all, k.all]
theorem Bits.cut {b n m : Nat} {f : Nat → Bool} (h : ∀ i, i < m → b.testBit i = f i) : Bits (b &&& (2 ^ m - 1)) f m :=
  ⟨by rw [Nat.and_two_pow_sub_one_eq_mod]; exact Nat.mod_lt _ (Nat.two_pow_pos m), fun i hi => by
    rw [Nat.testBit_and, Nat.testBit_two_pow_sub_one, decide_eq_true hi, h i hi, Bool.and_true]⟩
theorem Bits.high {b s p : Nat} {f : Nat → Bool} (h : Bits b f (s + p)) : Bits (b >>> s) (fun i => f (s + i)) p :=
  ⟨by
    rw [Nat.shiftRight_eq_div_pow]
    refine Nat.div_lt_of_lt_mul ?_
    rw [← Nat.pow_add]
    exact h.lt, fun i hi => by rw [Nat.testBit_shiftRight, h.at_ _ (by omega)]⟩
def bl (b : Nat) : Nat := if b = 0 then 0 else b.log2 + 1
theorem lt_bl (b : Nat) : b < 2 ^ bl b := by
  unfold bl
  split
  · omega
  · exact Nat.lt_log2_self
theorem bl_le {b n : Nat} (h : b < 2 ^ n) : bl b ≤ n := by
  unfold bl
  split
  · omega
  · rename_i z
    exact (Nat.log2_lt z).mpr h
theorem bl_top {b : Nat} (h : 0 < bl b) : b.testBit (bl b - 1) = true := by
  unfold bl at h ⊢
  split at h
  · omega
  · rename_i z
    rw [if_neg z]
    rw [Nat.add_sub_cancel]
    exact Nat.testBit_log2 z
theorem bl_above {b i : Nat} (h : bl b ≤ i) : b.testBit i = false :=
  Nat.testBit_lt_two_pow (Nat.lt_of_lt_of_le (lt_bl b) (Nat.pow_le_pow_right (by omega) h))
theorem filter_nil' {α : Type} {l : List α} {q : α → Bool} (h : ∀ x ∈ l, q x = false) : l.filter q = [] := by
  rw [List.filter_eq_nil_iff]
  intro x hx z
  rw [h x hx] at z
  cases z
theorem filter_congr2 {α : Type} {l : List α} {f g : α → Bool} (h : ∀ x ∈ l, f x = g x) : l.filter f = l.filter g := List.filter_congr h
theorem nums_is {b n : Nat} {f : Nat → Bool} (h : Bits b f n) : (List.range (bl b)).filter b.testBit = (List.range n).filter f := by
  have le := bl_le h.lt
  obtain ⟨k, rfl⟩ : ∃ k, n = bl b + k := ⟨n - bl b, by omega⟩
  rw [List.range_add, List.filter_append, filter_congr2 (f := f) (g := b.testBit) (l := List.range (bl b)) fun x hx => (h.at_ x (by have := List.mem_range.mp hx; omega)).symm]
  rw [filter_nil' (l := (List.range k).map _)]
  · rw [List.append_nil]
  · intro x hx
    obtain ⟨j, hj, rfl⟩ := List.mem_map.mp hx
    rw [← h.at_ _ (by have := List.mem_range.mp hj; omega)]
    exact bl_above (by omega)
/-- a set's settled form -/
structure Rnd (f : Nat → Bool) (st p b : Nat) : Prop where
  can : Canon f st p
  bits : Bits b f (st + p)
theorem Rnd.uniq {f : Nat → Bool} {st p b st' p' b' : Nat} (h : Rnd f st p b) (k : Rnd f st' p' b') : st = st' ∧ p = p' ∧ b = b' := by
  obtain ⟨e1, e2⟩ := h.can.uniq k.can
  subst e1 e2
  exact ⟨rfl, rfl, h.bits.ext k.bits⟩
theorem Rnd.same {f g : Nat → Bool} {st p b : Nat} (h : Rnd f st p b) (k : Rnd g st p b) : f = g := by
  funext n
  have red : ∀ {f : Nat → Bool}, Rnd f st p b → f n = b.testBit (if st ≤ n then st + (n - st) % p else n) := fun {f} h => by
    by_cases c : st ≤ n
    · rw [if_pos c]
      have lt := Nat.mod_lt (n - st) h.can.pos
      rw [h.bits.at_ _ (by omega)]
      have e := h.can.per.mul ((n - st) / p) (st + (n - st) % p) (by omega)
      rw [← e]
      congr 1
      have := Nat.div_add_mod (n - st) p
      rw [Nat.mul_comm] at this
      omega
    · rw [if_neg c, h.bits.at_ _ (by omega)]
  rw [red h, red k]
theorem Rnd.at_ {f : Nat → Bool} {st p b : Nat} (h : Rnd f st p b) (n : Nat) : b.testBit (if st ≤ n then st + (n - st) % p else n) = f n := by
  by_cases c : st ≤ n
  · rw [if_pos c]
    have lt := Nat.mod_lt (n - st) h.can.pos
    rw [h.bits.at_ _ (by omega)]
    have e := h.can.per.mul ((n - st) / p) (st + (n - st) % p) (by omega)
    rw [← e]
    congr 1
    have := Nat.div_add_mod (n - st) p
    rw [Nat.mul_comm] at this
    omega
  · rw [if_neg c, h.bits.at_ _ (by omega)]
/-- the last part of settled -/
theorem settle {f : Nat → Bool} {s p m b : Nat} (per : Per f s p) (hp : 0 < p) (L : Least f s m) (at_ : ∀ i, i < s + p → b.testBit i = f i) :
    Rnd f (bl ((b ^^^ (b >>> m)) &&& (2 ^ s - 1))) m (b &&& (2 ^ (bl ((b ^^^ (b >>> m)) &&& (2 ^ s - 1)) + m) - 1)) := by
  have mp : m ≤ p := Nat.le_of_dvd hp (L.dvd per)
  have un : Bits ((b ^^^ (b >>> m)) &&& (2 ^ s - 1)) (fun i => f i ^^ f (i + m)) s := Bits.cut (n := s) fun i hi => by
    rw [Nat.testBit_xor, Nat.testBit_shiftRight, at_ i (by omega), at_ (m + i) (by omega), Nat.add_comm m i]
  generalize hU : (b ^^^ (b >>> m)) &&& (2 ^ s - 1) = U at un ⊢
  have le := bl_le un.lt
  refine ⟨L.canon (fun n hn => ?_) (fun i hi => Nat.le_of_not_lt fun lt => ?_), Bits.cut (n := s) fun i hi => at_ i (by omega)⟩
  · by_cases c : s ≤ n
    · exact L.per n c
    · have e := un.at_ n (by omega)
      rw [bl_above hn] at e
      have : f n = f (n + m) := by
        cases h1 : f n <;> cases h2 : f (n + m) <;> simp_all
      exact this.symm
  · have t := bl_top (b := U) (by omega)
    rw [un.at_ _ (by omega), hi (bl U - 1) (by omega)] at t
    cases h : f (bl U - 1) <;> simp [h] at t
/-! ### the law's normal form -/
theorem head_least {q : Nat → Bool} {m P : Nat} (h1 : 1 ≤ m) (h2 : m ≤ P) (hm : q m = true) (low : ∀ e, 1 ≤ e → e < m → q e = false) : ∃ r, (List.range' 1 P).filter q = m :: r := by
  obtain ⟨k, rfl⟩ : ∃ k, P = (m - 1) + (k + 1) := ⟨P - m, by omega⟩
  rw [← List.range'_append_1, List.filter_append, filter_nil', List.nil_append, show 1 + (m - 1) = m by omega, List.range'_succ, List.filter_cons, if_pos hm]
  · exact ⟨_, rfl⟩
  · intro x hx
    have := List.mem_range'_1.mp hx
    exact low x (by omega) (by omega)
theorem seen_per {f : Nat → Bool} {T P e : Nat} (per : Per f T P) (hP : 0 < P) (h : ∀ n, T ≤ n → n < T + P → f n = f (n + e)) : Per f T e := fun n hn => by
  have lt := Nat.mod_lt (n - T) hP
  have a1 := per.mul ((n - T) / P) (T + (n - T) % P) (by omega)
  have a2 := per.mul ((n - T) / P) (T + (n - T) % P + e) (by omega)
  have dm := Nat.div_add_mod (n - T) P
  rw [Nat.mul_comm] at dm
  have e1 : n = T + (n - T) % P + (n - T) / P * P := by omega
  have e2 : n + e = T + (n - T) % P + e + (n - T) / P * P := by omega
  rw [e2, a2]
  conv => rhs; rw [e1]
  rw [a1]
  exact (h _ (by omega) (by omega)).symm
/-- the start, sought from above -/
structure Down (f : Nat → Bool) (T m k s : Nat) : Prop where
  ge : k ≤ s
  le : s ≤ T
  eq : ∀ i, s ≤ i → i < T → f i = f (i + m)
  ne : k < s → f (s - 1) ≠ f (s - 1 + m)
theorem Down.start {f : Nat → Bool} {T m : Nat} : Down f T m T T := ⟨Nat.le_refl _, Nat.le_refl _, fun i h1 h2 => by omega, fun h => by omega⟩
theorem Down.turn {f : Nat → Bool} {T m k s : Nat} (d : Down f T m (k + 1) s) : Down f T m k (if s = k + 1 ∧ f k = f (k + m) then k else s) := by
  have h1 := d.ge
  have h2 := d.le
  split
  · rename_i c
    obtain ⟨c1, c2⟩ := c
    refine ⟨Nat.le_refl _, by omega, fun i a b => ?_, fun h => by omega⟩
    by_cases e : i = k
    · rw [e]; exact c2
    · exact d.eq i (by omega) b
  · rename_i c
    refine ⟨by omega, h2, d.eq, fun h => ?_⟩
    by_cases e : s = k + 1
    · subst e
      rw [Nat.add_sub_cancel]
      exact fun z => c ⟨rfl, z⟩
    · exact d.ne (by omega)
theorem Down.canon {f : Nat → Bool} {T m s : Nat} (d : Down f T m 0 s) (L : Least f T m) : Canon f s m := by
  refine L.canon (fun n hn => ?_) fun i hi => Nat.le_of_not_lt fun lt => ?_
  · by_cases c : T ≤ n
    · exact L.per n c
    · exact (d.eq n hn (by omega)).symm
  · exact d.ne (by omega) (hi (s - 1) (by omega)).symm
def belowL (f : Nat → Bool) (st : Nat) : List Nat := (List.range st).filter f
def cycL (f : Nat → Bool) (st p : Nat) : List Nat := (List.range' st p).filter f
theorem cycL_is {f : Nat → Bool} {st p : Nat} : cycL f st p = ((List.range p).filter fun i => f (st + i)).map (st + ·) := by
  unfold cycL
  rw [List.range'_eq_map_range, List.filter_map]
  rfl
def normW (f : Nat → Bool) (st p : Nat) : List (Nat × Nat) := (belowL f st).map (fun n => (n, 0)) ++ (cycL f st p).map (fun n => (n, p))
theorem mem_belowL {f : Nat → Bool} {st n : Nat} : n ∈ belowL f st ↔ n < st ∧ f n = true := by
  unfold belowL
  rw [List.mem_filter, List.mem_range]
theorem mem_cycL {f : Nat → Bool} {st p n : Nat} : n ∈ cycL f st p ↔ (st ≤ n ∧ n < st + p) ∧ f n = true := by
  unfold cycL
  rw [List.mem_filter, List.mem_range'_1]
theorem mem_normW {f : Nat → Bool} {st p : Nat} {w : Nat × Nat} : w ∈ normW f st p ↔ (w.2 = 0 ∧ w.1 < st ∧ f w.1 = true) ∨ (w.2 = p ∧ (st ≤ w.1 ∧ w.1 < st + p) ∧ f w.1 = true) := by
  obtain ⟨a, b⟩ := w
  unfold normW
  rw [List.mem_append, List.mem_map, List.mem_map]
  constructor
  · rintro (⟨n, hn, e⟩ | ⟨n, hn, e⟩)
    · cases e; exact .inl ⟨rfl, mem_belowL.mp hn⟩
    · cases e; exact .inr ⟨rfl, mem_cycL.mp hn⟩
  · rintro (⟨h, k⟩ | ⟨h, k⟩)
    · cases h; exact .inl ⟨a, mem_belowL.mpr k, rfl⟩
    · cases h; exact .inr ⟨a, mem_cycL.mpr k, rfl⟩
theorem has_iff {ws : List (Nat × Nat)} {n : Nat} : has ws n = true ↔ ∃ w ∈ ws, n = w.1 ∨ (0 < w.2 ∧ w.1 < n ∧ (n - w.1) % w.2 = 0) := by
  unfold has hasW
  rw [List.any_eq_true]
  constructor
  · rintro ⟨w, hw, h⟩
    refine ⟨w, hw, ?_⟩
    simpa using h
  · rintro ⟨w, hw, h⟩
    exact ⟨w, hw, by simpa using h⟩
theorem has_norm {f : Nat → Bool} {st p : Nat} (c : Canon f st p) : has (normW f st p) = f := by
  funext n
  have pp := c.pos
  by_cases h : f n = true
  · rw [h, has_iff]
    by_cases hn : n < st
    · exact ⟨(n, 0), mem_normW.mpr (.inl ⟨rfl, hn, h⟩), .inl rfl⟩
    · have lt := Nat.mod_lt (n - st) pp
      have dm := Nat.div_add_mod (n - st) p
      have e := c.per.mul ((n - st) / p) (st + (n - st) % p) (by omega)
      have dm' := dm
      rw [Nat.mul_comm] at dm'
      rw [show st + (n - st) % p + (n - st) / p * p = n by omega, h] at e
      refine ⟨(st + (n - st) % p, p), mem_normW.mpr (.inr ⟨rfl, ⟨by omega, by omega⟩, e.symm⟩), ?_⟩
      by_cases z : n = st + (n - st) % p
      · exact .inl z
      · refine .inr ⟨pp, by show st + (n - st) % p < n; omega, ?_⟩
        show (n - (st + (n - st) % p)) % p = 0
        rw [show n - (st + (n - st) % p) = p * ((n - st) / p) by omega, Nat.mul_mod_right]
  · have hf : f n = false := by simpa using h
    rw [hf]
    cases q : has (normW f st p) n with
    | false => rfl
    | true =>
      exfalso
      obtain ⟨w, hw, k⟩ := has_iff.mp q
      rcases mem_normW.mp hw with ⟨e, a, b⟩ | ⟨e, a, b⟩
      · rcases k with k | ⟨k, _⟩
        · rw [k, b] at hf; cases hf
        · omega
      · rcases k with k | ⟨k, l, d⟩
        · rw [k, b] at hf; cases hf
        · rw [e] at d
          have dd := c.per.mul ((n - w.1) / p) w.1 a.1
          have dm := Nat.div_add_mod (n - w.1) p
          rw [Nat.mul_comm] at dm
          rw [show w.1 + (n - w.1) / p * p = n by omega, b, hf] at dd
          cases dd
theorem normW_steps {f : Nat → Bool} {st p : Nat} : StepsOk (normW f st p) p := fun w hw => by
  rcases mem_normW.mp hw with ⟨e, _⟩ | ⟨e, _⟩
  · exact .inl e
  · exact .inr (by rw [e]; exact Nat.dvd_refl _)
theorem agree {f g : Nat → Bool} {T P : Nat} (a : Per f T P) (b : Per g T P) (hP : 0 < P) (h : ∀ i, i < T + P → f i = g i) : f = g := by
  funext n
  by_cases c : n < T
  · exact h n (by omega)
  · have lt := Nat.mod_lt (n - T) hP
    have dm := Nat.div_add_mod (n - T) P
    rw [Nat.mul_comm] at dm
    have e1 := a.mul ((n - T) / P) (T + (n - T) % P) (by omega)
    have e2 := b.mul ((n - T) / P) (T + (n - T) % P) (by omega)
    rw [show T + (n - T) % P + (n - T) / P * P = n by omega] at e1 e2
    rw [e1, e2, h _ (by omega)]
/-- what is due of a set with steps that divide P -/
theorem canon_low {f : Nat → Bool} {st p T P : Nat} (c : Canon f st p) (h : Per f T P) (hP : 0 < P) : p ≤ P ∧ st ≤ T :=
  ⟨Nat.le_of_dvd hP (c.dvd h), c.low T (h.back hP c.per)⟩
end K2
namespace K1
open PySem PySem.Spec L2 Z
def topS (i : Nat) : Stmt := PySem.Challenge.pw_arrowcells_k13_members_and_counts.main.body.getD i (.Pass ⟨0, 0, 0, 0⟩)
abbrev s_is_number : Stmt := topS 9
abbrev N_is_number : List Str := ["value"]
theorem sc_is_number : FnScope N_is_number ["value"] (defScope s_is_number) := ⟨rfl, rfl, rfl, by decide +kernel, rfl, by decide +kernel, by decide +kernel⟩
abbrev s_is_whole : Stmt := topS 10
abbrev N_is_whole : List Str := ["value", "low", "high"]
theorem sc_is_whole : FnScope N_is_whole ["value", "low", "high"] (defScope s_is_whole) := ⟨rfl, rfl, rfl, by decide +kernel, rfl, by decide +kernel, by decide +kernel⟩
abbrev s_number_in : Stmt := topS 11
abbrev N_number_in : List Str := ["word", "high", "sign", "number"]
theorem sc_number_in : FnScope N_number_in ["word", "high"] (defScope s_number_in) := ⟨rfl, rfl, rfl, by decide +kernel, rfl, by decide +kernel, by decide +kernel⟩
abbrev s_all_bits : Stmt := topS 13
abbrev N_all_bits : List Str := ["many"]
theorem sc_all_bits : FnScope N_all_bits ["many"] (defScope s_all_bits) := ⟨rfl, rfl, rfl, by decide +kernel, rfl, by decide +kernel, by decide +kernel⟩
abbrev s_repeated : Stmt := topS 14
abbrev N_repeated : List Str := ["cycle", "step", "many", "bits", "told"]
theorem sc_repeated : FnScope N_repeated ["cycle", "step", "many"] (defScope s_repeated) := ⟨rfl, rfl, rfl, by decide +kernel, rfl, by decide +kernel, by decide +kernel⟩
abbrev s_settled : Stmt := topS 15
abbrev N_settled : List Str := ["start", "step", "bits", "cycle", "least", "rest", "prime", "shorter", "unlike"]
theorem sc_settled : FnScope N_settled ["start", "step", "bits"] (defScope s_settled) := ⟨rfl, rfl, rfl, by decide +kernel, rfl, by decide +kernel, by decide +kernel⟩
abbrev s_numbers_in : Stmt := topS 16
abbrev N_numbers_in : List Str := ["bits", "number"]
theorem sc_numbers_in : FnScope N_numbers_in ["bits"] (defScope s_numbers_in) := ⟨rfl, rfl, rfl, by decide +kernel, rfl, by decide +kernel, by decide +kernel⟩
abbrev s_init : Stmt := inClass (topS 24) 0
abbrev N_init : List Str := ["self", "text", "words", "step", "rounded"]
theorem sc_init : FnScope N_init ["self", "text"] (defScope s_init) := ⟨rfl, rfl, rfl, by decide +kernel, rfl, by decide +kernel, by decide +kernel⟩
abbrev s_eq : Stmt := inClass (topS 24) 1
abbrev N_eq : List Str := ["self", "other"]
theorem sc_eq : FnScope N_eq ["self", "other"] (defScope s_eq) := ⟨rfl, rfl, rfl, by decide +kernel, rfl, by decide +kernel, by decide +kernel⟩
abbrev s_take : Stmt := inClass (topS 24) 3
abbrev N_take : List Str := ["self", "rounded", "start", "step", "bits", "number"]
theorem sc_take : FnScope N_take ["self", "rounded"] (defScope s_take) := ⟨rfl, rfl, rfl, by decide +kernel, rfl, by decide +kernel, by decide +kernel⟩
abbrev s_members : Stmt := inClass (topS 24) 4
abbrev N_members : List Str := ["self", "many", "found", "turn", "number"]
theorem sc_members : FnScope N_members ["self", "many"] (defScope s_members) := ⟨rfl, rfl, rfl, by decide +kernel, rfl, by decide +kernel, by decide +kernel⟩
abbrev s_counted : Stmt := inClass (topS 24) 5
abbrev N_counted : List Str := ["self", "high", "singles", "number"]
theorem sc_counted : FnScope N_counted ["self", "high"] (defScope s_counted) := ⟨rfl, rfl, rfl, by decide +kernel, rfl, by decide +kernel, by decide +kernel⟩
abbrev s_words_in : Stmt := topS 25
abbrev N_words_in : List Str := ["text", "words", "word"]
theorem sc_words_in : FnScope N_words_in ["text"] (defScope s_words_in) := ⟨rfl, rfl, rfl, by decide +kernel, rfl, by decide +kernel, by decide +kernel⟩
abbrev s_word_in : Stmt := topS 26
abbrev N_word_in : List Str := ["word", "number", "plus", "step", "first", "many"]
theorem sc_word_in : FnScope N_word_in ["word"] (defScope s_word_in) := ⟨rfl, rfl, rfl, by decide +kernel, rfl, by decide +kernel, by decide +kernel⟩
abbrev s_common_step : Stmt := topS 27
abbrev N_common_step : List Str := ["words", "step", "_", "many"]
theorem sc_common_step : FnScope N_common_step ["words"] (defScope s_common_step) := ⟨rfl, rfl, rfl, by decide +kernel, rfl, by decide +kernel, by decide +kernel⟩
abbrev s_rounded_words : Stmt := topS 28
abbrev N_rounded_words : List Str := ["words", "step", "start", "bits", "first", "many", "told", "_"]
theorem sc_rounded_words : FnScope N_rounded_words ["words", "step"] (defScope s_rounded_words) := ⟨rfl, rfl, rfl, by decide +kernel, rfl, by decide +kernel, by decide +kernel⟩
abbrev s_normal_text : Stmt := topS 29
abbrev N_normal_text : List Str := ["below", "cycle", "step", "behind", "words", "number"]
theorem sc_normal_text : FnScope N_normal_text ["below", "cycle", "step"] (defScope s_normal_text) := ⟨rfl, rfl, rfl, by decide +kernel, rfl, by decide +kernel, by decide +kernel⟩
abbrev s_made_lengths : Stmt := topS 30
abbrev N_made_lengths : List Str := ["rounded", "made"]
theorem sc_made_lengths : FnScope N_made_lengths ["rounded"] (defScope s_made_lengths) := ⟨rfl, rfl, rfl, by decide +kernel, rfl, by decide +kernel, by decide +kernel⟩
abbrev s_of_numbers : Stmt := topS 31
abbrev N_of_numbers : List Str := ["numbers", "bits", "index", "number"]
theorem sc_of_numbers : FnScope N_of_numbers ["numbers"] (defScope s_of_numbers) := ⟨rfl, rfl, rfl, by decide +kernel, rfl, by decide +kernel, by decide +kernel⟩
abbrev s_law_jug : Stmt := topS 33
abbrev N_law_jug : List Str := ["_law_script", "_law_turn", "_law_seed", "_law_each", "_law_cell", "_law_great"]
theorem sc_law_jug : FnScope N_law_jug ["_law_script", "_law_turn"] (defScope s_law_jug) := ⟨rfl, rfl, rfl, by decide +kernel, rfl, by decide +kernel, by decide +kernel⟩
abbrev s_law_take : Stmt := topS 34
abbrev N_law_take : List Str := ["_law_jug_here", "_law_many", "_law_figure"]
theorem sc_law_take : FnScope N_law_take ["_law_jug_here", "_law_many"] (defScope s_law_take) := ⟨rfl, rfl, rfl, by decide +kernel, rfl, by decide +kernel, by decide +kernel⟩
abbrev s_law_one_of : Stmt := topS 35
abbrev N_law_one_of : List Str := ["_law_jug_here", "_law_some"]
theorem sc_law_one_of : FnScope N_law_one_of ["_law_jug_here", "_law_some"] (defScope s_law_one_of) := ⟨rfl, rfl, rfl, by decide +kernel, rfl, by decide +kernel, by decide +kernel⟩
abbrev s_law_set_text : Stmt := topS 36
abbrev N_law_set_text : List Str := ["_law_words", "_law_some", "_law_first", "_law_step"]
theorem sc_law_set_text : FnScope N_law_set_text ["_law_words"] (defScope s_law_set_text) := ⟨rfl, rfl, rfl, by decide +kernel, rfl, by decide +kernel, by decide +kernel⟩
abbrev s_law_has : Stmt := topS 37
abbrev N_law_has : List Str := ["_law_words", "_law_number", "_law_first", "_law_step"]
theorem sc_law_has : FnScope N_law_has ["_law_words", "_law_number"] (defScope s_law_has) := ⟨rfl, rfl, rfl, by decide +kernel, rfl, by decide +kernel, by decide +kernel⟩
abbrev s_law_normal : Stmt := topS 38
abbrev N_law_normal : List Str := ["_law_bits_here", "_law_top_here", "_law_period", "_law_steps_here", "_law_step", "_law_start", "_law_n", "_law_below", "_law_rounds", "_law_tail", "_law_words", "_law_each"]
theorem sc_law_normal : FnScope N_law_normal ["_law_bits_here", "_law_top_here", "_law_period"] (defScope s_law_normal) := ⟨rfl, rfl, rfl, by decide +kernel, rfl, by decide +kernel, by decide +kernel⟩
abbrev s_law_drawn_words : Stmt := topS 39
abbrev N_law_drawn_words : List Str := ["_law_jug_here", "_law_steps_here", "_law_high", "_law_turn"]
theorem sc_law_drawn_words : FnScope N_law_drawn_words ["_law_jug_here", "_law_steps_here", "_law_high"] (defScope s_law_drawn_words) := ⟨rfl, rfl, rfl, by decide +kernel, rfl, by decide +kernel, by decide +kernel⟩
abbrev s_law_steps : Stmt := topS 40
abbrev N_law_steps : List Str := ["_law_jug_here", "_law_period", "_law_each"]
theorem sc_law_steps : FnScope N_law_steps ["_law_jug_here"] (defScope s_law_steps) := ⟨rfl, rfl, rfl, by decide +kernel, rfl, by decide +kernel, by decide +kernel⟩
abbrev s_law_odd : Stmt := topS 41
abbrev N_law_odd : List Str := ["_law_jug_here"]
theorem sc_law_odd : FnScope N_law_odd ["_law_jug_here"] (defScope s_law_odd) := ⟨rfl, rfl, rfl, by decide +kernel, rfl, by decide +kernel, by decide +kernel⟩
abbrev s_law_spot_changed : Stmt := topS 42
abbrev N_law_spot_changed : List Str := ["_law_jug_here", "_law_row", "_law_thing", "_law_way", "_law_at"]
theorem sc_law_spot_changed : FnScope N_law_spot_changed ["_law_jug_here", "_law_row", "_law_thing"] (defScope s_law_spot_changed) := ⟨rfl, rfl, rfl, by decide +kernel, rfl, by decide +kernel, by decide +kernel⟩
abbrev s_law_top : Stmt := topS 43
abbrev N_law_top : List Str := ["_law_words", "_law_first", "_law_step"]
theorem sc_law_top : FnScope N_law_top ["_law_words"] (defScope s_law_top) := ⟨rfl, rfl, rfl, by decide +kernel, rfl, by decide +kernel, by decide +kernel⟩
abbrev s_law_bits : Stmt := topS 44
abbrev N_law_bits : List Str := ["_law_words", "_law_many", "_law_n"]
theorem sc_law_bits : FnScope N_law_bits ["_law_words", "_law_many"] (defScope s_law_bits) := ⟨rfl, rfl, rfl, by decide +kernel, rfl, by decide +kernel, by decide +kernel⟩
abbrev s_law_is_whole : Stmt := topS 45
abbrev N_law_is_whole : List Str := ["_law_value", "_law_low", "_law_high"]
theorem sc_law_is_whole : FnScope N_law_is_whole ["_law_value", "_law_low", "_law_high"] (defScope s_law_is_whole) := ⟨rfl, rfl, rfl, by decide +kernel, rfl, by decide +kernel, by decide +kernel⟩
abbrev s_law_told : Stmt := topS 46
abbrev N_law_told : List Str := ["_law_call", "_law_found", "e"]
theorem sc_law_told : FnScope N_law_told ["_law_call"] (defScope s_law_told) := ⟨rfl, rfl, rfl, by decide +kernel, rfl, by decide +kernel, by decide +kernel⟩
abbrev s_law_counted : Stmt := topS 47
abbrev N_law_counted : List Str := ["_law_bits_here", "_law_top_here", "_law_period", "_law_high", "_law_step", "_law_start", "_law_below", "_law_rounds", "_law_text", "_law_turns", "_law_rest", "_law_n"]
theorem sc_law_counted : FnScope N_law_counted ["_law_bits_here", "_law_top_here", "_law_period", "_law_high"] (defScope s_law_counted) := ⟨rfl, rfl, rfl, by decide +kernel, rfl, by decide +kernel, by decide +kernel⟩
abbrev s_law_members : Stmt := topS 48
abbrev N_law_members : List Str := ["_law_bits_here", "_law_top_here", "_law_period", "_law_many", "_law_step", "_law_start", "_law_below", "_law_rounds", "_law_text", "_law_found", "_law_turn", "_law_n"]
theorem sc_law_members : FnScope N_law_members ["_law_bits_here", "_law_top_here", "_law_period", "_law_many"] (defScope s_law_members) := ⟨rfl, rfl, rfl, by decide +kernel, rfl, by decide +kernel, by decide +kernel⟩
abbrev s_law_numbers_right : Stmt := topS 49
abbrev N_law_numbers_right : List Str := ["_law_jug_here", "_law_some", "_law_made", "_law_due", "_law_start", "_law_text", "_law_bent", "_law_told_here", "_law_wrong", "_law_turn", "_law_n", "_law_k"]
theorem sc_law_numbers_right : FnScope N_law_numbers_right ["_law_jug_here"] (defScope s_law_numbers_right) := ⟨rfl, rfl, rfl, by decide +kernel, rfl, by decide +kernel, by decide +kernel⟩
abbrev s_law_right : Stmt := topS 50
abbrev N_law_right : List Str := ["_law_jug_here", "_law_period", "_law_steps_here", "_law_words", "_law_top_here", "_law_bits_here", "_law_made", "_law_many", "_law_high", "_law_thing"]
theorem sc_law_right : FnScope N_law_right ["_law_jug_here"] (defScope s_law_right) := ⟨rfl, rfl, rfl, by decide +kernel, rfl, by decide +kernel, by decide +kernel⟩
abbrev s_law : Stmt := topS 51
abbrev N_law : List Str := ["_law_script", "_law_turn"]
theorem sc_law : FnScope N_law ["_law_script"] (defScope s_law) := ⟨rfl, rfl, rfl, by decide +kernel, rfl, by decide +kernel, by decide +kernel⟩
abbrev s_err_InvalidNumber : Stmt := inClass (topS 3) 0
theorem sc_err_InvalidNumber : FnScope ["self", "given"] ["self", "given"] (defScope s_err_InvalidNumber) := ⟨rfl, rfl, rfl, by decide +kernel, rfl, by decide +kernel, by decide +kernel⟩
abbrev s_err_InvalidNumbers : Stmt := inClass (topS 6) 0
theorem sc_err_InvalidNumbers : FnScope ["self", "index"] ["self", "index"] (defScope s_err_InvalidNumbers) := ⟨rfl, rfl, rfl, by decide +kernel, rfl, by decide +kernel, by decide +kernel⟩

def DefAt (K : PySem.W.Frag) (mg : Str → Option Value) (x : Str) (st : Stmt) (ps : List Str) : Prop := ∃ (f : Addr) (fd : FuncData), Fun K x x st f fd ∧ mg x = some (.ref f) ∧ Binds K fd ps []
def MethAt (K : PySem.W.Frag) (C : Addr) (m q : Str) (st : Stmt) (ps : List Str) : Prop := ∃ (f : Addr) (fd : FuncData), Fun K m q st f fd ∧ Meth K C m f ∧ Binds K fd ps []
def InitAt (K : PySem.W.Frag) (C : Addr) (q : Str) (st : Stmt) (ps : List Str) : Prop := ∃ (f : Addr) (fd : FuncData), Fun K "__init__" q st f fd ∧ Mk K C f ∧ Binds K fd ps []
def EqAt (K : PySem.W.Frag) (C : Addr) (q : Str) (st : Stmt) : Prop := ∃ (f : Addr) (fd : FuncData), Fun K "__eq__" q st f fd ∧ OwnEq K C f fd
def InAt (K : PySem.W.Frag) (C : Addr) (q : Str) (st : Stmt) (ps : List Str) : Prop := ∃ (f : Addr) (fd : FuncData), Fun K "__contains__" q st f fd ∧ OwnIn K C f fd ps
/-- a def whose code object is known -/
def DefAtC (K : PySem.W.Frag) (mg : Str → Option Value) (x : Str) (st : Stmt) (ps : List Str) (c : Addr) : Prop := ∃ (f : Addr) (fd : FuncData), Fun K x x st f fd ∧ mg x = some (.ref f) ∧ Binds K fd ps [] ∧ fd.code = .ref c
structure Txt (K : PySem.W.Frag) (mg : Str → Option Value) (C CN CI : Addr) : Prop where
  b_isinstance : mg "isinstance" = none
  b_int : mg "int" = none
  b_bool : mg "bool" = none
  b_str : mg "str" = none
  b_len : mg "len" = none
  b_tuple : mg "tuple" = none
  b_list : mg "list" = none
  b_enumerate : mg "enumerate" = none
  b_range : mg "range" = none
  b_divmod : mg "divmod" = none
  b_abs : mg "abs" = none
  b_sorted : mg "sorted" = none
  b_repr : mg "repr" = none
  b_all : mg "all" = none
  b_max : mg "max" = none
  b_min : mg "min" = none
  b_sum : mg "sum" = none
  b_set : mg "set" = none
  c_FIGURES : ∃ t, mg "FIGURES" = some (.str "0123456789" t)
  c_MOST_NUMBER : ∃ t, mg "MOST_NUMBER" = some (.int 1000 t)
  c_MOST_STEP : ∃ t, mg "MOST_STEP" = some (.int 60 t)
  c_MOST_START : ∃ t, mg "MOST_START" = some (.int 600 t)
  c_MOST_MEMBERS : ∃ t, mg "MOST_MEMBERS" = some (.int 400 t)
  c_MOST_HIGH : ∃ t, mg "MOST_HIGH" = some (.int 1000000000000000000000000000000 t)
  g_lcm : mg "lcm" = some (.builtin "math.lcm")
  mgC : mg "Lengths" = some (.ref C)
  mgCN : mg "InvalidNumber" = some (.ref CN)
  mgCI : mg "InvalidNumbers" = some (.ref CI)
  x_InvalidNumber : ErrAt K mg "InvalidNumber" "InvalidNumber.__init__" "given" s_err_InvalidNumber CN
  x_InvalidNumbers : ErrAt K mg "InvalidNumbers" "InvalidNumbers.__init__" "index" s_err_InvalidNumbers CI
  cl : Cls K C
  n_rounded : NoAttr K C "rounded"
  n_start : NoAttr K C "start"
  n_step : NoAttr K C "step"
  n_below : NoAttr K C "below"
  n_cycle : NoAttr K C "cycle"
  n_least : NoAttr K C "least"
  n_is_endless : NoAttr K C "is_endless"
  n_text : NoAttr K C "text"
  isC : PySem.W.findIn K (.ref C) "__class__" = some (some (.builtin "object.__class__"))
  isG : PySem.W.specialIn K (.builtin "object.__class__") "__get__" = some (some (.builtin "getset_descriptor.__get__"))
  isT : PySem.W.takesIn K (.builtin "object.__class__") = some true
  isM : PySem.W.mroIn K C (.type "object") = some true
  k_self : PySem.W.kitOne K (.ref C) (.ref C) = some true
  k_str : PySem.W.kitOne K (.type "str") (.ref C) = some false
  k_int : PySem.W.kitOne K (.type "int") (.ref C) = some false
  k_tup : PySem.W.kitOne K (.type "tuple") (.ref C) = some false
  f_str : PySem.W.notFirst K C (.type "str") = true
  f_int : PySem.W.notFirst K C (.type "int") = true
  f_tup : PySem.W.notFirst K C (.type "tuple") = true
  nn : PySem.W.exmOne K (.ref CN) (.ref CN) = some true
  ii : PySem.W.exmOne K (.ref CI) (.ref CI) = some true
  ni : PySem.W.exmOne K (.ref CI) (.ref CN) = some false
  d_is_number : DefAt K mg "is_number" s_is_number ["value"]
  d_is_whole : DefAt K mg "is_whole" s_is_whole ["value", "low", "high"]
  d_number_in : DefAt K mg "number_in" s_number_in ["word", "high"]
  d_all_bits : DefAt K mg "all_bits" s_all_bits ["many"]
  d_repeated : DefAt K mg "repeated" s_repeated ["cycle", "step", "many"]
  d_settled : DefAt K mg "settled" s_settled ["start", "step", "bits"]
  d_numbers_in : DefAt K mg "numbers_in" s_numbers_in ["bits"]
  d_init : InitAt K C "Lengths.__init__" s_init ["self", "text"]
  d_eq : EqAt K C "Lengths.__eq__" s_eq
  d_take : MethAt K C "take" "Lengths.take" s_take ["self", "rounded"]
  d_members : MethAt K C "members" "Lengths.members" s_members ["self", "many"]
  d_counted : MethAt K C "counted" "Lengths.counted" s_counted ["self", "high"]
  d_words_in : DefAt K mg "words_in" s_words_in ["text"]
  d__word_in : DefAt K mg "_word_in" s_word_in ["word"]
  d_common_step : DefAt K mg "common_step" s_common_step ["words"]
  d_rounded_words : DefAt K mg "rounded_words" s_rounded_words ["words", "step"]
  d__normal_text : DefAt K mg "_normal_text" s_normal_text ["below", "cycle", "step"]
  d_made_lengths : DefAt K mg "made_lengths" s_made_lengths ["rounded"]
  d_of_numbers : DefAt K mg "of_numbers" s_of_numbers ["numbers"]
  d__law_jug : DefAt K mg "_law_jug" s_law_jug ["_law_script", "_law_turn"]
  d__law_take : DefAt K mg "_law_take" s_law_take ["_law_jug_here", "_law_many"]
  d__law_one_of : DefAt K mg "_law_one_of" s_law_one_of ["_law_jug_here", "_law_some"]
  d__law_set_text : DefAt K mg "_law_set_text" s_law_set_text ["_law_words"]
  d__law_has : DefAt K mg "_law_has" s_law_has ["_law_words", "_law_number"]
  d__law_normal : DefAt K mg "_law_normal" s_law_normal ["_law_bits_here", "_law_top_here", "_law_period"]
  d__law_drawn_words : DefAt K mg "_law_drawn_words" s_law_drawn_words ["_law_jug_here", "_law_steps_here", "_law_high"]
  d__law_steps : DefAt K mg "_law_steps" s_law_steps ["_law_jug_here"]
  d__law_odd : DefAt K mg "_law_odd" s_law_odd ["_law_jug_here"]
  d__law_spot_changed : DefAt K mg "_law_spot_changed" s_law_spot_changed ["_law_jug_here", "_law_row", "_law_thing"]
  d__law_top : DefAt K mg "_law_top" s_law_top ["_law_words"]
  d__law_bits : DefAt K mg "_law_bits" s_law_bits ["_law_words", "_law_many"]
  d__law_is_whole : DefAt K mg "_law_is_whole" s_law_is_whole ["_law_value", "_law_low", "_law_high"]
  d__law_told : DefAt K mg "_law_told" s_law_told ["_law_call"]
  d__law_counted : DefAt K mg "_law_counted" s_law_counted ["_law_bits_here", "_law_top_here", "_law_period", "_law_high"]
  d__law_members : DefAt K mg "_law_members" s_law_members ["_law_bits_here", "_law_top_here", "_law_period", "_law_many"]
  d__law_numbers_right : DefAt K mg "_law_numbers_right" s_law_numbers_right ["_law_jug_here"]
  d__law_right : DefAt K mg "_law_right" s_law_right ["_law_jug_here"]
  d_law : DefAt K mg "law" s_law ["_law_script"]

section
variable (P : Program) (w : World) (K : PySem.W.Frag) (mg : Str → Option Value) (base : Heap)
/-- what a def of the module promises -/
def Pr (x : Str) (st : Stmt) (k : Nat) (ps : List Str) (sp : Sp) : Prop := ∃ (f : Addr) (fd : FuncData), Fun K x x st f fd ∧ mg x = some (.ref f) ∧ Binds K fd ps [] ∧ FnOk P w K mg base CX0 k f fd ps sp
def PrG (x : Str) (st : Stmt) (k : Nat) (ps : List Str) (sp : Sp) : Prop := ∃ (f : Addr) (fd : FuncData), Fun K x x st f fd ∧ mg x = some (.ref f) ∧ Binds K fd ps [] ∧ FnG P w K mg base k f fd ps sp
def PrM (C : Addr) (m q : Str) (st : Stmt) (k : Nat) (ps : List Str) (sp : Sp) : Prop := ∃ (f : Addr) (fd : FuncData), Fun K m q st f fd ∧ Meth K C m f ∧ Binds K fd ps [] ∧ FnOk P w K mg base CX0 k f fd ps sp
def PrI (C : Addr) (q : Str) (st : Stmt) (k : Nat) (ps : List Str) (sp : Sp) : Prop := ∃ (f : Addr) (fd : FuncData), Fun K "__init__" q st f fd ∧ Mk K C f ∧ Binds K fd ps [] ∧ FnOk P w K mg base CX0 k f fd ps sp
def PrE (C : Addr) (q : Str) (st : Stmt) (k : Nat) (sp : Sp) : Prop := ∃ (f : Addr) (fd : FuncData), Fun K "__eq__" q st f fd ∧ OwnEq K C f fd ∧ FnOk P w K mg base CX0 k f fd ["self", "other"] sp
end
section
variable {X : Cx} {k n : Nat} {C : Addr} {ps ks : List Str} {sp : Sp} {x m q : Str} {st : Stmt} {p pos apos : Pos} {e o : Expr} {es : List Expr} {kws : List Keyword} {ta : TE} {t tk : TA}
theorem pe_globI {i : Int} (hg : Gl X x) (hm : ∃ t, X.mg x = some (.int i t)) (hd : (x == ("__debug__" : Str)) = false := by decide) : PE X (.Name x pos) (tC (.int i)) := by
  obtain ⟨t, e⟩ := hm
  exact pe_glob hg e ⟨t, rfl⟩ hd
theorem pe_globS {i : Str} (hg : Gl X x) (hm : ∃ t, X.mg x = some (.str i t)) (hd : (x == ("__debug__" : Str)) = false := by decide) : PE X (.Name x pos) (tC (.str i)) := by
  obtain ⟨t, e⟩ := hm
  exact pe_glob hg e ⟨t, rfl⟩ hd
theorem pe_bty (n : String) (hg : Gl X x) (hm : X.mg x = none) (hv : bootBuiltins x = some (.type n)) (hn : x ≠ "__name__" := by decide) (hd : (x == ("__debug__" : Str)) = false := by decide) : PE X (.Name x pos) (tC (.ty n)) :=
  pe_bltn hg hm hv (show RelV (.ty n) (.type n) from rfl) hn hd
def tCal (sp : Sp) (t : TA) : TE := fun σ H Q => t σ H fun vs H1 => sp vs H1 Q E0
theorem pcall (G : Pr X.prog X.w X.K X.mg X.base x st k ps sp) (hr : Room k X.A) (ha : PA X (e :: es) t) (hg : Gl X x := by rfl) (hdb : (x == ("__debug__" : Str)) = false := by decide)
    (he : starEach (e :: es) X.env = (false, eval e X.env) :: starEach es X.env := by rfl) (hpl : (backTo pos (starEach es X.env)).any (·.1) = false := by rfl) : PE X (.Call (.Name x p) (e :: es) [] pos) (tCal sp t) := by
  obtain ⟨f, fd, F, gl, bd, G⟩ := G
  have h := pe_call (p := p) (pos := pos) G hr hg gl F.kp bd .nil pass0 ha hdb he hpl
  constructor
  intro pins s σ H Q I hq
  refine h.run pins s σ H Q I ?_
  simpa only [tCall, tCal, List.append_nil] using hq
theorem pcallG (G : PrG X.prog X.w X.K X.mg X.base x st k ps sp) (hr : Room k X.A) (hgd : X.A.guards = some []) (ha : PA X (e :: es) t) (hg : Gl X x := by rfl) (hdb : (x == ("__debug__" : Str)) = false := by decide)
    (he : starEach (e :: es) X.env = (false, eval e X.env) :: starEach es X.env := by rfl) (hpl : (backTo pos (starEach es X.env)).any (·.1) = false := by rfl) : PE X (.Call (.Name x p) (e :: es) [] pos) (tCal sp t) := by
  obtain ⟨f, fd, F, gl, bd, G⟩ := G
  exact pe_callG G hr hgd hg gl F.kp bd ha hdb he hpl
def tMet (C : Addr) (m : Str) (sp : Sp) (ta : TE) (t : TA) : TE := fun σ H Q => ta σ H fun x H1 => ∃ a dx fs, x = .ref a ∧ H1 a = some (.ins C dx fs) ∧ fs.lookup m = none ∧ t σ H1 fun vs H2 => sp (x :: vs) H2 Q E0
theorem pmeth {pl : Sem Bool} (he : PE X o ta) (c : Cls X.K C) (G : PrM X.prog X.w X.K X.mg X.base C m q st k ps sp) (hr : Room k X.A) (ha : PA X (e :: es) t)
    (hst : starEach (e :: es) X.env = (false, eval e X.env) :: starEach es X.env := by rfl) (hpl : (backTo pos (starEach es X.env)).any (·.1) = false := by rfl)
    (ht : eval (.Call (.Attribute o m apos) (e :: es) [] pos) X.env = (do
      let ov ← eval o X.env
      standAt apos.atName
      let (f, first) ← holding [ov] (getMethod ov m pl)
      callWith pos f first (backTo pos (starEach (e :: es) X.env)) (backToKw pos (keywordEach [] X.env))) := by rfl) :
    PE X (.Call (.Attribute o m apos) (e :: es) [] pos) (tMet C m sp ta t) := by
  obtain ⟨f, fd, F, hm, bd, G⟩ := G
  have h := pe_meth (pl := pl) (pos := pos) (apos := apos) he c hm G hr bd .nil pass0 ha hst hpl ht
  constructor
  intro pins s σ H Q I hq
  refine h.run pins s σ H Q I ?_
  simpa only [tMeth, tMet, List.append_nil] using hq
def tMak (C : Addr) (sp : Sp) (t : TA) : TE := fun σ H Q => t σ H fun vs H1 => ∀ x dx, H1 x = none → H1 dx = none → dx ≠ x → sp (.ref x :: vs) (upd (upd H1 dx (.own x)) x (.ins C dx [])) (fun v H2 => v = .non ∧ Q (.ref x) H2) E0
theorem pmake (G : PrI X.prog X.w X.K X.mg X.base C q st k ps sp) (hm : X.mg x = some (.ref C)) (hr : Room (k + 1) X.A) (ha : PA X (e :: es) t) (hg : Gl X x := by rfl) (hdb : (x == ("__debug__" : Str)) = false := by decide)
    (he : starEach (e :: es) X.env = (false, eval e X.env) :: starEach es X.env := by rfl) (hpl : (backTo pos (starEach es X.env)).any (·.1) = false := by rfl) : PE X (.Call (.Name x p) (e :: es) [] pos) (tMak C sp t) := by
  obtain ⟨f, fd, F, M, bd, G⟩ := G
  have h := pe_make (p := p) (pos := pos) M G hr hg hm bd .nil pass0 ha hdb he hpl
  constructor
  intro pins s σ H Q I hq
  refine h.run pins s σ H Q I ?_
  simpa only [tMake, tMak, List.append_nil] using hq
def tOwn (C : Addr) (sp : Sp) (g : Bool → Bool) (K : PySem.W.Frag) : R2 := rOwnC C sp g K
theorem pOwnEq (G : PrE X.prog X.w X.K X.mg X.base C q st k sp) (hr : Room k X.A) : OpR X (compareOp .Eq) (tOwn C sp id X.K) := by
  obtain ⟨f, fd, F, O, G⟩ := G
  exact op_ownEq G O hr
theorem pOwnNe (G : PrE X.prog X.w X.K X.mg X.base C q st k sp) (hr : Room (k + 1) X.A) : OpR X (compareOp .NotEq) (tOwn C sp (fun c => !c) X.K) := by
  obtain ⟨f, fd, F, O, G⟩ := G
  exact op_ownNe G O hr
section
variable {g : List Value → List Value → List Value} {gV : List V → List V → List V}
def tCalN (m : Nat) (sp : Sp) (gV : List V → List V → List V) (tk : TA) : TE := fun σ H Q => tk σ H fun zs H2 => zs.length = m ∧ sp (gV [] zs) H2 Q E0
theorem pcallN0 (G : Pr X.prog X.w X.K X.mg X.base x st k ps sp) (hr : Room k X.A) (hb : ∀ {f : Addr} {fd : FuncData}, Fun X.K x x st f fd → KBn X.K fd ps 0 ks g gV) (hkw : PK X kws tk) (hg : Gl X x := by rfl)
    (hall : (backToKw pos (keywordEach kws X.env)).all (·.1.isSome) = true := by rfl) (hks : (backToKw pos (keywordEach kws X.env)).filterMap (·.1) = ks := by rfl)
    (hdb : (x == ("__debug__" : Str)) = false := by decide) (hpl : ((backTo pos (starEach [] X.env)).any (·.1) || (backToKw pos (keywordEach kws X.env)).any (·.1.isNone)) = false := by rfl) :
    PE X (.Call (.Name x p) [] kws pos) (tCalN ks.length sp gV tk) := by
  obtain ⟨f, fd, F, gl, bd, G⟩ := G
  have h := pe_callN0 (p := p) (pos := pos) G hr hg gl F.kp (hb F) pass0 hkw hall hks hdb hpl
  constructor
  intro pins s σ H Q I hq
  refine h.run pins s σ H Q I ?_
  show tk σ H fun zs H2 => ([] : List V).length = 0 ∧ zs.length = ks.length ∧ sp (gV [] zs) H2 Q E0
  simpa only [tCalN, List.length_nil, true_and] using hq
theorem pmethN0 {pl : Sem Bool} (he : PE X o ta) (c : Cls X.K C) (G : PrM X.prog X.w X.K X.mg X.base C m q st k ps sp) (hr : Room k X.A) (hb : ∀ {f : Addr} {fd : FuncData}, Fun X.K m q st f fd → KBn X.K fd ps 1 ks g gV) (hkw : PK X kws tk)
    (hall : (backToKw pos (keywordEach kws X.env)).all (·.1.isSome) = true := by rfl) (hks : (backToKw pos (keywordEach kws X.env)).filterMap (·.1) = ks := by rfl)
    (hpl : ((backTo pos (starEach [] X.env)).any (·.1) || (backToKw pos (keywordEach kws X.env)).any (·.1.isNone)) = false := by rfl)
    (ht : eval (.Call (.Attribute o m apos) [] kws pos) X.env = (do
      let ov ← eval o X.env
      standAt apos.atName
      let (f, first) ← holding [ov] (getMethod ov m pl)
      callWith pos f first (backTo pos (starEach [] X.env)) (backToKw pos (keywordEach kws X.env))) := by rfl) :
    PE X (.Call (.Attribute o m apos) [] kws pos) (tMethN C m ks.length sp gV E0 ta tk) := by
  obtain ⟨f, fd, F, hm, bd, G⟩ := G
  exact pe_methN0 (pl := pl) he c hm G hr (hb F) pass0 hkw hall hks hpl ht
def tMakN (C : Addr) (m : Nat) (sp : Sp) (gV : List V → List V → List V) (tk : TA) : TE := fun σ H Q => tk σ H fun zs H2 => zs.length = m ∧ ∀ x dx, H2 x = none → H2 dx = none → dx ≠ x →
  sp (gV [.ref x] zs) (upd (upd H2 dx (.own x)) x (.ins C dx [])) (fun v H3 => v = .non ∧ Q (.ref x) H3) E0
theorem pmakeK0 (G : PrI X.prog X.w X.K X.mg X.base C q st k ps sp) (hm : X.mg x = some (.ref C)) (hr : Room (k + 1) X.A) (hb : ∀ {f : Addr} {fd : FuncData}, Fun X.K "__init__" q st f fd → KBn X.K fd ps 1 ks g gV) (hkw : PK X kws tk) (hg : Gl X x := by rfl)
    (hall : (backToKw pos (keywordEach kws X.env)).all (·.1.isSome) = true := by rfl) (hks : (backToKw pos (keywordEach kws X.env)).filterMap (·.1) = ks := by rfl) (hdb : (x == ("__debug__" : Str)) = false := by decide)
    (hpl : ((backTo pos (starEach [] X.env)).any (·.1) || (backToKw pos (keywordEach kws X.env)).any (·.1.isNone)) = false := by rfl) :
    PE X (.Call (.Name x p) [] kws pos) (tMakN C ks.length sp gV tk) := by
  obtain ⟨f, fd, F, M, bd, G⟩ := G
  have h := pe_makeK0 (p := p) (pos := pos) M G hr hg hm (hb F) pass0 hkw hall hks hdb hpl
  constructor
  intro pins s σ H Q I hq
  refine h.run pins s σ H Q I ?_
  show tk σ H fun zs H2 => ([] : List V).length = 0 ∧ zs.length = ks.length ∧ ∀ x dx, H2 x = none → H2 dx = none → dx ≠ x → sp (gV [.ref x] zs) (upd (upd H2 dx (.own x)) x (.ins C dx [])) (fun v H3 => v = .non ∧ Q (.ref x) H3) E0
  simpa only [tMakN, List.length_nil, true_and] using hq
end
end
def PrC (P : Program) (w : World) (K : PySem.W.Frag) (mg : Str → Option Value) (base : Heap) (C : Addr) (q : Str) (st : Stmt) (k : Nat) (ps : List Str) (sp : Sp) : Prop := ∃ (f : Addr) (fd : FuncData), Fun K "__contains__" q st f fd ∧ OwnIn K C f fd ps ∧ FnOk P w K mg base CX0 k f fd ps sp
theorem pOwnIn {X : Cx} {C : Addr} {q : Str} {st : Stmt} {k : Nat} {ps : List Str} {sp : Sp} (G : PrC X.prog X.w X.K X.mg X.base C q st k ps sp) (hr : Room k X.A) : OpR X (compareOp .In) (rOwnIn C sp) := by
  obtain ⟨f, fd, F, O, G⟩ := G
  exact op_ownIn G O hr
theorem kb_one {K : PySem.W.Frag} {n q a : Str} {st : Stmt} {f : Addr} {fd : FuncData} (F : Fun K n q st f fd) (h : ∀ (kV doc pm : Value) (an : Option Addr) (cdv ct : Value) (u : Value), bindArgs (PySem.W.fnOf n q (defArgs st) (defBody st) (defScope st) .none kV doc pm an cdv ct) ⟨[], [(a, u)]⟩ = pure [(a, u)]) : KBn K fd [a] 0 [a] (fun us ws => us ++ ws) (fun vs zs => vs ++ zs) := by
  obtain ⟨oc, od, kV, doc, pm, an, cdv, ct, osl, rfl, lk, hcd⟩ := F.ex
  exact kbn_of (fun us ws => us ++ ws) (fun h1 h2 => h1.append h2) (fun us ws h1 h2 => match us, ws, h1, h2 with | [], [u], _, _ => h _ _ _ _ _ _ u)

/-! ### defs that may raise -/
def PrX (P : Program) (w : World) (K : PySem.W.Frag) (mg : Str → Option Value) (base : Heap) (x : Str) (st : Stmt) (k : Nat) (ps : List Str) (sp : Sp) : Prop := ∃ (f : Addr) (fd : FuncData), Fun K x x st f fd ∧ mg x = some (.ref f) ∧ Binds K fd ps [] ∧ FnOk P w K mg base (L2.CX P w) k f fd ps sp
def PrMX (P : Program) (w : World) (K : PySem.W.Frag) (mg : Str → Option Value) (base : Heap) (C : Addr) (m q : Str) (st : Stmt) (k : Nat) (ps : List Str) (sp : Sp) : Prop := ∃ (f : Addr) (fd : FuncData), Fun K m q st f fd ∧ Meth K C m f ∧ Binds K fd ps [] ∧ FnOk P w K mg base (L2.CX P w) k f fd ps sp
def PrIX (P : Program) (w : World) (K : PySem.W.Frag) (mg : Str → Option Value) (base : Heap) (C : Addr) (q : Str) (st : Stmt) (k : Nat) (ps : List Str) (sp : Sp) : Prop := ∃ (f : Addr) (fd : FuncData), Fun K "__init__" q st f fd ∧ Mk K C f ∧ Binds K fd ps [] ∧ FnOk P w K mg base (L2.CX P w) k f fd ps sp
section
variable {X : Cx} {k n : Nat} {C : Addr} {ps ks : List Str} {sp : Sp} {x m q : Str} {st : Stmt} {p pos apos : Pos} {e o : Expr} {es : List Expr} {kws : List Keyword} {ta : TE} {t tk : TA} {W : WX}
def tCalX (sp : Sp) (E : XK) (t : TA) : TE := fun σ H Q => t σ H fun vs H1 => sp vs H1 Q E
theorem pcallX (E : XK) (G : PrX X.prog X.w X.K X.mg X.base x st k ps sp) (hr : Room k X.A) (hx : Passes (L2.CX X.prog X.w) X E) (ha : PA X (e :: es) t) (hg : Gl X x := by rfl) (hdb : (x == ("__debug__" : Str)) = false := by decide)
    (he : starEach (e :: es) X.env = (false, eval e X.env) :: starEach es X.env := by rfl) (hpl : (backTo pos (starEach es X.env)).any (·.1) = false := by rfl) : PE X (.Call (.Name x p) (e :: es) [] pos) (tCalX sp E t) := by
  obtain ⟨f, fd, F, gl, bd, G⟩ := G
  have h := pe_call (p := p) (pos := pos) G hr hg gl F.kp bd .nil hx ha hdb he hpl
  constructor
  intro pins s σ H Q I hq
  refine h.run pins s σ H Q I ?_
  simpa only [tCall, tCalX, List.append_nil] using hq
def tMetX (C : Addr) (m : Str) (sp : Sp) (E : XK) (ta : TE) (t : TA) : TE := fun σ H Q => ta σ H fun x H1 => ∃ a dx fs, x = .ref a ∧ H1 a = some (.ins C dx fs) ∧ fs.lookup m = none ∧ t σ H1 fun vs H2 => sp (x :: vs) H2 Q E
theorem pmethX {pl : Sem Bool} (E : XK) (he : PE X o ta) (c : Cls X.K C) (G : PrMX X.prog X.w X.K X.mg X.base C m q st k ps sp) (hr : Room k X.A) (hx : Passes (L2.CX X.prog X.w) X E) (ha : PA X (e :: es) t)
    (hst : starEach (e :: es) X.env = (false, eval e X.env) :: starEach es X.env := by rfl) (hpl : (backTo pos (starEach es X.env)).any (·.1) = false := by rfl)
    (ht : eval (.Call (.Attribute o m apos) (e :: es) [] pos) X.env = (do
      let ov ← eval o X.env
      standAt apos.atName
      let (f, first) ← holding [ov] (getMethod ov m pl)
      callWith pos f first (backTo pos (starEach (e :: es) X.env)) (backToKw pos (keywordEach [] X.env))) := by rfl) :
    PE X (.Call (.Attribute o m apos) (e :: es) [] pos) (tMetX C m sp E ta t) := by
  obtain ⟨f, fd, F, hm, bd, G⟩ := G
  have h := pe_meth (pl := pl) (pos := pos) (apos := apos) he c hm G hr bd .nil hx ha hst hpl ht
  constructor
  intro pins s σ H Q I hq
  refine h.run pins s σ H Q I ?_
  simpa only [tMeth, tMetX, List.append_nil] using hq
/-- in a try's body -/
def tCalW (sp : Sp) (W : WX) (t : TA) : TE := fun σ H Q => t σ H fun vs H1 => sp vs H1 Q fun cls d H' => W cls d σ H'
theorem pcallW (G : PrX X.prog X.w X.K X.mg X.base x st k ps sp) (hr : Room k X.A) (tk : Takes X W) (ha : PA X (e :: es) t) (hg : Gl X x := by rfl) (hdb : (x == ("__debug__" : Str)) = false := by decide)
    (he : starEach (e :: es) X.env = (false, eval e X.env) :: starEach es X.env := by rfl) (hpl : (backTo pos (starEach es X.env)).any (·.1) = false := by rfl) : PE X (.Call (.Name x p) (e :: es) [] pos) (tCalW sp W t) := by
  obtain ⟨f, fd, F, gl, bd, G⟩ := G
  exact pe_callS (p := p) (pos := pos) G hr hg gl F.kp bd (fun σ => passAt tk σ) ha hdb he hpl
theorem pcallXN0 {g : List Value → List Value → List Value} {gV : List V → List V → List V} (E : XK) (G : PrX X.prog X.w X.K X.mg X.base x st k ps sp) (hr : Room k X.A) (hx : Passes (L2.CX X.prog X.w) X E) (hb : ∀ {f : Addr} {fd : FuncData}, Fun X.K x x st f fd → KBn X.K fd ps 0 ks g gV) (hkw : PK X kws tk) (hg : Gl X x := by rfl)
    (hall : (backToKw pos (keywordEach kws X.env)).all (·.1.isSome) = true := by rfl) (hks : (backToKw pos (keywordEach kws X.env)).filterMap (·.1) = ks := by rfl)
    (hdb : (x == ("__debug__" : Str)) = false := by decide) (hpl : ((backTo pos (starEach [] X.env)).any (·.1) || (backToKw pos (keywordEach kws X.env)).any (·.1.isNone)) = false := by rfl) :
    PE X (.Call (.Name x p) [] kws pos) (fun σ H Q => tk σ H fun zs H2 => zs.length = ks.length ∧ sp (gV [] zs) H2 Q E) := by
  obtain ⟨f, fd, F, gl, bd, G⟩ := G
  have h := pe_callN0 (p := p) (pos := pos) G hr hg gl F.kp (hb F) hx hkw hall hks hdb hpl
  constructor
  intro pins s σ H Q I hq
  refine h.run pins s σ H Q I ?_
  show tk σ H fun zs H2 => ([] : List V).length = 0 ∧ zs.length = ks.length ∧ sp (gV [] zs) H2 Q E
  simpa only [List.length_nil, true_and] using hq
end
theorem kb_ord {K : PySem.W.Frag} {n q : Str} {st : Stmt} {ps : List Str} {f : Addr} {fd : FuncData} (F : Fun K n q st f fd) (h : ∀ (kV doc pm : Value) (an : Option Addr) (cdv ct : Value) (us ws : List Value), us.length = 0 → ws.length = ps.length → bindArgs (PySem.W.fnOf n q (defArgs st) (defBody st) (defScope st) .none kV doc pm an cdv ct) ⟨us, ps.zip ws⟩ = pure (ps.zip (us ++ ws))) : KBn K fd ps 0 ps (fun us ws => us ++ ws) (fun vs zs => vs ++ zs) := by
  obtain ⟨oc, od, kV, doc, pm, an, cdv, ct, osl, rfl, lk, hcd⟩ := F.ex
  exact kbn_of (fun us ws => us ++ ws) (fun h1 h2 => h1.append h2) (fun us ws h1 h2 => h _ _ _ _ _ _ us ws h1 h2)
theorem ok_err_InvalidNumber {P : Program} {w : World} {K : PySem.W.Frag} {mg : Str → Option Value} {base : Heap} {C CN CI : Addr} (T : Txt K mg C CN CI) : PrErr P w K mg base "InvalidNumber" "given" CN := by
  obtain ⟨fI, fd, F, iC, tI, bd⟩ := T.x_InvalidNumber.fn
  refine ⟨T.x_InvalidNumber.gC, T.x_InvalidNumber.ox, fI, fd, iC, tI, bd, F.ok sc_err_InvalidNumber (fun vs H Q E h => ?_) (fun cdv A outer s H vs Q E hr h => ?_)⟩
  · obtain ⟨_, _, rfl, _⟩ := h
    rfl
  · obtain ⟨a, v, rfl, ha, k⟩ := h
    exact ⟨_, pss_one (ps_ost (pv 0) (pv 1)), ⟨_, rfl, _, rfl, a, CN, rfl, T.x_InvalidNumber.ox, T.x_InvalidNumber.no, .inl ⟨ha, fun dx h1 h2 => k dx h1 h2⟩⟩⟩
theorem ok_err_InvalidNumbers {P : Program} {w : World} {K : PySem.W.Frag} {mg : Str → Option Value} {base : Heap} {C CN CI : Addr} (T : Txt K mg C CN CI) : PrErr P w K mg base "InvalidNumbers" "index" CI := by
  obtain ⟨fI, fd, F, iC, tI, bd⟩ := T.x_InvalidNumbers.fn
  refine ⟨T.x_InvalidNumbers.gC, T.x_InvalidNumbers.ox, fI, fd, iC, tI, bd, F.ok sc_err_InvalidNumbers (fun vs H Q E h => ?_) (fun cdv A outer s H vs Q E hr h => ?_)⟩
  · obtain ⟨_, _, rfl, _⟩ := h
    rfl
  · obtain ⟨a, v, rfl, ha, k⟩ := h
    exact ⟨_, pss_one (ps_ost (pv 0) (pv 1)), ⟨_, rfl, _, rfl, a, CI, rfl, T.x_InvalidNumbers.ox, T.x_InvalidNumbers.no, .inl ⟨ha, fun dx h1 h2 => k dx h1 h2⟩⟩⟩
theorem pmethXN0 {X : Cx} {k : Nat} {C : Addr} {ps ks : List Str} {sp : Sp} {m q : Str} {st : Stmt} {pos apos : Pos} {o : Expr} {kws : List Keyword} {ta : TE} {tk : TA} {g : List Value → List Value → List Value} {gV : List V → List V → List V} {pl : Sem Bool} (E : XK) (he : PE X o ta) (c : Cls X.K C) (G : PrMX X.prog X.w X.K X.mg X.base C m q st k ps sp) (hr : Room k X.A) (hx : Passes (L2.CX X.prog X.w) X E) (hb : ∀ {f : Addr} {fd : FuncData}, Fun X.K m q st f fd → KBn X.K fd ps 1 ks g gV) (hkw : PK X kws tk)
    (hall : (backToKw pos (keywordEach kws X.env)).all (·.1.isSome) = true := by rfl) (hks : (backToKw pos (keywordEach kws X.env)).filterMap (·.1) = ks := by rfl)
    (hpl : ((backTo pos (starEach [] X.env)).any (·.1) || (backToKw pos (keywordEach kws X.env)).any (·.1.isNone)) = false := by rfl)
    (ht : eval (.Call (.Attribute o m apos) [] kws pos) X.env = (do
      let ov ← eval o X.env
      standAt apos.atName
      let (f, first) ← holding [ov] (getMethod ov m pl)
      callWith pos f first (backTo pos (starEach [] X.env)) (backToKw pos (keywordEach kws X.env))) := by rfl) :
    PE X (.Call (.Attribute o m apos) [] kws pos) (tMethN C m ks.length sp gV E ta tk) := by
  obtain ⟨f, fd, F, hm, bd, G⟩ := G
  exact pe_methN0 (pl := pl) he c hm G hr (hb F) hx hkw hall hks hpl ht
theorem kb_of_numbers {K : PySem.W.Frag} {f : Addr} {fd : FuncData} (F : Fun K "of_numbers" "of_numbers" s_of_numbers f fd) : KBn K fd ["numbers"] 0 ["numbers"] (fun us ws => us ++ ws) (fun vs zs => vs ++ zs) := kb_one F fun _ _ _ _ _ _ _ => rfl
theorem kb_members {K : PySem.W.Frag} {f : Addr} {fd : FuncData} (F : Fun K "members" "Lengths.members" s_members f fd) : KBn K fd ["self", "many"] 1 ["many"] (fun us ws => us ++ ws) (fun vs zs => vs ++ zs) := by
  obtain ⟨oc, od, kV, doc, pm, an, cdv, ct, osl, rfl, lk, hcd⟩ := F.ex
  exact kbn_of (fun us ws => us ++ ws) (fun h1 h2 => h1.append h2) (fun us ws h1 h2 => match us, ws, h1, h2 with | [_], [_], _, _ => rfl)
theorem kb_counted {K : PySem.W.Frag} {f : Addr} {fd : FuncData} (F : Fun K "counted" "Lengths.counted" s_counted f fd) : KBn K fd ["self", "high"] 1 ["high"] (fun us ws => us ++ ws) (fun vs zs => vs ++ zs) := by
  obtain ⟨oc, od, kV, doc, pm, an, cdv, ct, osl, rfl, lk, hcd⟩ := F.ex
  exact kbn_of (fun us ws => us ++ ws) (fun h1 h2 => h1.append h2) (fun us ws h1 h2 => match us, ws, h1, h2 with | [_], [_], _, _ => rfl)
end K1
/-! Heaps, data, promises. -/
namespace K1
open PySem PySem.Spec L2 Z
/-! ### what never changes -/
def Imm (H H' : Hp) : Prop := (∀ b xs, H b = some (.tup xs) → H' b = some (.tup xs)) ∧ ∀ b o u, H b = some (.frz o u) → H' b = some (.frz o u)
theorem Imm.refl (H : Hp) : Imm H H := ⟨fun _ _ h => h, fun _ _ _ h => h⟩
theorem Imm.trans {H H1 H2 : Hp} (a : Imm H H1) (b : Imm H1 H2) : Imm H H2 := ⟨fun c xs h => b.1 c xs (a.1 c xs h), fun c o u h => b.2 c o u (a.2 c o u h)⟩
theorem Imm.of {H H' : Hp} (e : Same H H') : Imm H H' := ⟨fun b xs h => e b _ h, fun b o u h => e b _ h⟩
theorem same_new {H : Hp} {p : Addr} {o : HO} (h : H p = none) : Same H (upd H p o) := fun b x e => by
  rw [upd_ne (ne_of_none e h)]
  exact e
/-- all but the thing at j is as it was -/
def Chg (j : Addr) (H H' : Hp) : Prop := ∀ b o, H b = some o → b ≠ j → H' b = some o
theorem Chg.refl (j : Addr) (H : Hp) : Chg j H H := fun _ _ h _ => h
theorem Chg.trans {j : Addr} {H H1 H2 : Hp} (a : Chg j H H1) (b : Chg j H1 H2) : Chg j H H2 := fun c o h n => b c o (a c o h n) n
theorem Chg.of {j : Addr} {H H' : Hp} (e : Same H H') : Chg j H H' := fun b o h _ => e b o h
theorem Chg.upd {j : Addr} {H : Hp} {o : HO} : Chg j H (upd H j o) := fun b x e n => by
  rw [upd_ne n]
  exact e
def Mu : HO → Prop
  | .tup _ => False
  | .frz _ _ => False
  | _ => True
theorem Chg.imm {j : Addr} {H H' : Hp} {u : HO} (e : Chg j H H') (h : H j = some u) (m : Mu u) : Imm H H' := by
  refine ⟨fun b xs q => e b _ q fun z => ?_, fun b o x q => e b _ q fun z => ?_⟩
  · subst z
    rw [h] at q
    cases q
    exact m
  · subst z
    rw [h] at q
    cases q
    exact m
theorem SqT.imm {K : PySem.W.Frag} {H H' : Hp} {a : Addr} {xs : List V} (e : Imm H H') (h : SqT K H a xs) : SqT K H' a xs := by
  rcases h with (h | ⟨o, h⟩) | h
  · exact .inl (.inl (e.1 _ _ h))
  · exact .inl (.inr ⟨o, e.2 _ _ _ h⟩)
  · exact .inr h
theorem PT.imm {H H' : Hp} {a : Addr} {xs : List V} (e : Imm H H') (h : PT H a xs) : PT H' a xs := by
  obtain ⟨o, q, ho⟩ := h
  exact ⟨o, e.2 _ _ _ q, ho⟩
theorem SqL.chg {K : PySem.W.Frag} {j : Addr} {H H' : Hp} {a : Addr} {xs : List V} (e : Chg j H H') (n : a ≠ j) (h : SqL K H a xs) : SqL K H' a xs := by
  rcases h with (h | ⟨o, h⟩) | h
  · exact .inl (.inl (e _ _ h n))
  · exact .inl (.inr ⟨o, e _ _ h n⟩)
  · exact .inr h
theorem SqT.ty {K : PySem.W.Frag} {H : Hp} {a : Addr} {xs : List V} (h : SqT K H a xs) : TyX K H (.ref a) (.type "tuple") := by
  rcases h with (h | ⟨o, h⟩) | ⟨o, its, n, h, hc, _⟩
  · exact .base (.tup h)
  · exact .fTuple h
  · exact .kTuple h hc
/-! ### tuples of pairs -/
def TP (K : PySem.W.Frag) (H : Hp) (v : V) (ls : List (V × V)) : Prop := ∃ (a : Addr) (rs : List Addr), v = .ref a ∧ PT H a (rs.map V.ref) ∧ Paired (fun b (p : V × V) => SqT K H b [p.1, p.2]) rs ls
theorem Paired.imm {K : PySem.W.Frag} {H H' : Hp} (e : Imm H H') : ∀ {rs : List Addr} {ls : List (V × V)}, Paired (fun b (p : V × V) => SqT K H b [p.1, p.2]) rs ls → Paired (fun b (p : V × V) => SqT K H' b [p.1, p.2]) rs ls
  | _, _, .nil => .nil
  | _, _, .cons h t => .cons (SqT.imm e h) (Paired.imm e t)
theorem TP.imm {K : PySem.W.Frag} {H H' : Hp} {v : V} {ls : List (V × V)} (e : Imm H H') (h : TP K H v ls) : TP K H' v ls := by
  obtain ⟨a, rs, ev, p, q⟩ := h
  exact ⟨a, rs, ev, PT.imm e p, Paired.imm e q⟩
theorem Paired.len {α β : Type} {F : α → β → Prop} : ∀ {l : List α} {m : List β}, Paired F l m → l.length = m.length
  | _, _, .nil => rfl
  | _, _, .cons _ t => congrArg Nat.succ (Paired.len t)
theorem Paired.at {α β : Type} {F : α → β → Prop} : ∀ {l : List α} {m : List β} {i : Nat} {x : α}, Paired F l m → l[i]? = some x → ∃ y, m[i]? = some y ∧ F x y
  | _, _, _, _, .nil, e => by simp at e
  | _, _, 0, _, .cons h _, e => by
    simp at e
    subst e
    exact ⟨_, rfl, h⟩
  | _, _, i + 1, _, .cons _ t, e => by
    obtain ⟨y, h1, h2⟩ := Paired.at (i := i) t (by simpa using e)
    exact ⟨y, by simpa using h1, h2⟩
theorem Paired.snoc {α β : Type} {F : α → β → Prop} {x : α} {y : β} (h : F x y) : ∀ {l : List α} {m : List β}, Paired F l m → Paired F (l ++ [x]) (m ++ [y])
  | _, _, .nil => .cons h .nil
  | _, _, .cons a t => .cons a (Paired.snoc h t)
theorem Paired.app {α β : Type} {F : α → β → Prop} : ∀ {l l2 : List α} {m m2 : List β}, Paired F l m → Paired F l2 m2 → Paired F (l ++ l2) (m ++ m2)
  | _, _, _, _, .nil, h => h
  | _, _, _, _, .cons a t, h => .cons a (Paired.app t h)
/-- the i-th turn over a tuple of pairs -/
theorem pairs_at {K : PySem.W.Frag} {H : Hp} {rs : List Addr} {ls : List (V × V)} {i : Nat} {x : V} (q : Paired (fun b (p : V × V) => SqT K H b [p.1, p.2]) rs ls) (e : (rs.map V.ref)[i]? = some x) :
    ∃ b p, x = .ref b ∧ rs[i]? = some b ∧ ls[i]? = some p ∧ SqT K H b [p.1, p.2] := by
  rw [List.getElem?_map] at e
  cases hb : rs[i]? with
  | none => rw [hb] at e; cases e
  | some b =>
    rw [hb] at e
    cases e
    obtain ⟨p, h1, h2⟩ := Paired.at q hb
    exact ⟨b, p, rfl, rfl, h1, h2⟩
/-! ### the data of a store -/
def ch (c : Nat) : Str := ⟨#[c]⟩
def nV (p : Nat × Int) : V × V := (.str (ch p.1), .int p.2)
def cV (p : Int × Int) : V × V := (.int p.1, .int p.2)
structure NOk (ns : List (Nat × Int)) : Prop where
  one : 1 ≤ ns.length
  four : ns.length ≤ 4
  let_ : ∀ p ∈ ns, 97 ≤ p.1 ∧ p.1 ≤ 122
  pl : ∀ p ∈ ns, 0 ≤ p.2 ∧ p.2 ≤ 999
  asc : (ns.map (·.1)).Pairwise (· < ·)
structure COk (cs : List (Int × Int)) : Prop where
  few : cs.length ≤ 400
  pl : ∀ p ∈ cs, 1 ≤ p.1 ∧ p.1 ≤ 999 ∧ 0 ≤ p.2 ∧ p.2 ≤ 999
  asc : (cs.map (·.1)).Pairwise (· < ·)
def numS (i : Int) : Str := Str.ofString (toString i)
def nameW (p : Nat × Int) : Str := ch p.1 ++ Str.ofString "=" ++ numS p.2
def cellW (p : Int × Int) : Str := numS p.1 ++ Str.ofString ">" ++ numS p.2
def sp1 : Str := Str.ofString " "
def nTxt (ns : List (Nat × Int)) : Str := Txt.join sp1 (ns.map nameW)
def cTxt (cs : List (Int × Int)) : Str := if cs = [] then Str.ofString "none" else Txt.join sp1 (cs.map cellW)
def stTxt (ns : List (Nat × Int)) (cs : List (Int × Int)) : Str := nTxt ns ++ Str.ofString " | " ++ cTxt cs
def lTxt (ns : List (Nat × Int)) : Str := Txt.join Str.empty (ns.map fun p => ch p.1)
def goals (ns : List (Nat × Int)) (cs : List (Int × Int)) : List Int := ns.map (·.2) ++ cs.map (·.2)
def lookC (cs : List (Int × Int)) (i : Int) : V := match cs.find? (fun p => decide (p.1 = i)) with
  | some p => .int p.2
  | none => .non
def isC (cs : List (Int × Int)) (i : Int) : Bool := cs.any fun p => decide (p.1 = i)
def goneB (ns : List (Nat × Int)) (cs : List (Int × Int)) (i : Int) : Bool := !decide (i = 0) && (!isC cs i && decide (i ∈ goals ns cs))
/-! ### a store -/
def flds (v u : V) (lt tx : Str) (pd ad ld : Addr) : List (Str × V) :=
  [("names", v), ("cells", u), ("letters", .str lt), ("text", .str tx), ("places", .ref pd), ("arrows", .ref ad), ("led_to", .ref ld)]
def kN (ns : List (Nat × Int)) : List (Key × V) := ns.map fun p => (Sum.inr (ch p.1), V.int p.2)
def kC (cs : List (Int × Int)) : List (Key × V) := cs.map fun p => (Sum.inl p.1, V.int p.2)
structure StoreAt (K : PySem.W.Frag) (C : Addr) (H : Hp) (x : Addr) (v u : V) (ns : List (Nat × Int)) (cs : List (Int × Int)) (dx pd ad ld : Addr) (ks : List (Key × V)) : Prop where
  ob : H x = some (.ins C dx (flds v u (lTxt ns) (stTxt ns cs) pd ad ld))
  nm : TP K H v (ns.map nV)
  ce : TP K H u (cs.map cV)
  pd_ : H pd = some (.dK (kN ns))
  ad_ : H ad = some (.dK (kC cs))
  ld_ : H ld = some (.dK ks)
  led : ∀ i : Int, (valV ks (Sum.inl i : Key)).isSome = decide (i ∈ goals ns cs)
  nok : NOk ns
  cok : COk cs
def St (K : PySem.W.Frag) (C : Addr) (H : Hp) (x : Addr) (ns : List (Nat × Int)) (cs : List (Int × Int)) : Prop := ∃ v u dx pd ad ld ks, StoreAt K C H x v u ns cs dx pd ad ld ks
theorem St.same {K : PySem.W.Frag} {C : Addr} {H H' : Hp} {x : Addr} {ns : List (Nat × Int)} {cs : List (Int × Int)} (e : Same H H') (h : St K C H x ns cs) : St K C H' x ns cs := by
  obtain ⟨v, u, dx, pd, ad, ld, ks, S⟩ := h
  exact ⟨v, u, dx, pd, ad, ld, ks, e _ _ S.ob, S.nm.imm (.of e), S.ce.imm (.of e), e _ _ S.pd_, e _ _ S.ad_, e _ _ S.ld_, S.led, S.nok, S.cok⟩
theorem St.chg {K : PySem.W.Frag} {C j : Addr} {H H' : Hp} {x : Addr} {ns : List (Nat × Int)} {cs : List (Int × Int)} {l : List V} (e : Chg j H H') (hj : H j = some (.lst l)) (h : St K C H x ns cs) : St K C H' x ns cs := by
  obtain ⟨v, u, dx, pd, ad, ld, ks, S⟩ := h
  have im : Imm H H' := e.imm hj trivial
  have n : ∀ {b : Addr} {o : HO}, H b = some o → o ≠ .lst l → H' b = some o := fun q d => e _ _ q (ne_of q hj d)
  exact ⟨v, u, dx, pd, ad, ld, ks, n S.ob (fun z => nomatch z), S.nm.imm im, S.ce.imm im, n S.pd_ (fun z => nomatch z), n S.ad_ (fun z => nomatch z), n S.ld_ (fun z => nomatch z), S.led, S.nok, S.cok⟩
/-! ### promises -/
def JugAt (H : Hp) (j : Addr) : Prop := ∃ g s c : Int, H j = some (.lst [.int g, .int s, .int c]) ∧ -(2 ^ 64) < s ∧ s < 2 ^ 64
section
variable (K : PySem.W.Frag) (C : Addr)
def sp_is_number : Sp := fun vs H Q _ => ∃ (i : Int), vs = [.int i] ∧ Q (.bl true) H
def sp_is_whole : Sp := fun vs H Q _ => ∃ (i : Int) (lo : Int) (hi : Int), vs = [.int i, .int lo, .int hi] ∧ lo ≤ i ∧ i ≤ hi ∧ Q (.bl true) H
def sp_is_place : Sp := fun vs H Q _ => ∃ (i : Int), vs = [.int i] ∧ 0 ≤ i ∧ i ≤ 999 ∧ Q (.bl true) H
def sp_is_letter : Sp := fun vs H Q _ => ∃ (c : Nat), vs = [.str (ch c)] ∧ 97 ≤ c ∧ c ≤ 122 ∧ Q (.bl true) H
def sp_is_tuple_of : Sp := fun vs H Q _ => ∃ (a : Addr) (xs : List V), vs = [.ref a, .int (xs.length : Int)] ∧ SqT K H a xs ∧ Q (.bl true) H
def sp_number_in : Sp := fun vs H Q _ => ∃ i : Int, vs = [.str (numS i), .int 999] ∧ 0 ≤ i ∧ i ≤ 999 ∧ Q (.int i) H
def sp_are_store_names : Sp := fun vs H Q _ => ∃ (v : V) (ns : List (Nat × Int)), vs = [v] ∧ TP K H v (ns.map nV) ∧ NOk ns ∧ Q (.bl true) H
def sp_wrong_cell : Sp := fun vs H Q _ => ∃ (v : V) (cs : List (Int × Int)), vs = [v] ∧ TP K H v (cs.map cV) ∧ COk cs ∧ ∀ (H' : Hp), Same H H' → Q .non H'
def sp_store_text : Sp := fun vs H Q _ => ∃ (v : V) (u : V) (ns : List (Nat × Int)) (cs : List (Int × Int)), vs = [v, u] ∧ TP K H v (ns.map nV) ∧ TP K H u (cs.map cV) ∧ NOk ns ∧ COk cs ∧ ∀ (H' : Hp), Same H H' → Q (.str (stTxt ns cs)) H'
def sp_init : Sp := fun vs H Q _ => ∃ (x : Addr) (dx : Addr) (v : V) (u : V) (ns : List (Nat × Int)) (cs : List (Int × Int)), vs = [.ref x, v, u] ∧ H x = some (.ins C dx []) ∧ TP K H v (ns.map nV) ∧ TP K H u (cs.map cV) ∧ NOk ns ∧ COk cs ∧
  ∀ (H' : Hp), St K C H' x ns cs → Chg x H H' → Q .non H'
def sp_eq : Sp := fun vs H Q _ => ∃ (x : Addr) (y : V) (ns : List (Nat × Int)) (cs : List (Int × Int)), vs = [.ref x, y] ∧ St K C H x ns cs ∧
  ((∃ (x' : Addr) (ns' : List (Nat × Int)) (cs' : List (Int × Int)), y = .ref x' ∧ St K C H x' ns' cs' ∧ Q (.bl (decide (ns = ns' ∧ cs = cs'))) H) ∨ (((∃ (z : Str), y = .str z) ∨ (∃ (i : Int), y = .int i) ∨ ∃ (a : Addr) (xs : List V), y = .ref a ∧ SqT K H a xs) ∧ Q (.bl false) H))
def sp_at : Sp := fun vs H Q _ => ∃ (x : Addr) (ns : List (Nat × Int)) (cs : List (Int × Int)) (p : Nat × Int), vs = [.ref x, .str (ch p.1)] ∧ St K C H x ns cs ∧ p ∈ ns ∧ Q (.int p.2) H
def sp_arrow : Sp := fun vs H Q _ => ∃ (x : Addr) (ns : List (Nat × Int)) (cs : List (Int × Int)) (i : Int), vs = [.ref x, .int i] ∧ St K C H x ns cs ∧ 0 ≤ i ∧ i ≤ 999 ∧ Q (lookC cs i) H
def sp_is_gone : Sp := fun vs H Q _ => ∃ (x : Addr) (ns : List (Nat × Int)) (cs : List (Int × Int)) (i : Int), vs = [.ref x, .int i] ∧ St K C H x ns cs ∧ 0 ≤ i ∧ i ≤ 999 ∧ Q (.bl (goneB ns cs i)) H
def sp_name_in : Sp := fun vs H Q _ => ∃ p : Nat × Int, vs = [.str (nameW p)] ∧ 97 ≤ p.1 ∧ p.1 ≤ 122 ∧ 0 ≤ p.2 ∧ p.2 ≤ 999 ∧ ∀ (H' : Hp) (b : Addr), Same H H' → H b = none → H' b = some (.tup [(nV p).1, (nV p).2]) → Q (.ref b) H'
def sp_cell_in : Sp := fun vs H Q _ => ∃ p : Int × Int, vs = [.str (cellW p)] ∧ 0 ≤ p.1 ∧ p.1 ≤ 999 ∧ 0 ≤ p.2 ∧ p.2 ≤ 999 ∧ ∀ (H' : Hp) (b : Addr), Same H H' → H b = none → H' b = some (.tup [(cV p).1, (cV p).2]) → Q (.ref b) H'
def sp_read_store : Sp := fun vs H Q _ => ∃ (ns : List (Nat × Int)) (cs : List (Int × Int)), vs = [.str (stTxt ns cs)] ∧ NOk ns ∧ COk cs ∧ ∀ (H' : Hp) (x : Addr), Same H H' → H x = none → St K C H' x ns cs → Q (.ref x) H'
def sp_law_jug : Sp := fun vs H Q _ => ∃ (a : Addr) (ns : List Int) (t : Int), vs = [.ref a, .int t] ∧ SqL K H a (ns.map V.int) ∧ 0 ≤ t ∧ t ≤ 1000 ∧ ns.length ≤ 63 ∧ ∀ (H' : Hp) (j : Addr), Same H H' → H j = none → JugAt H' j → Q (.ref j) H'
def sp_law_take : Sp := fun vs H Q _ => ∃ (j : Addr) (m : Int), vs = [.ref j, .int m] ∧ JugAt H j ∧ 1 ≤ m ∧ m < 1000000 ∧ ∀ (H' : Hp) (k : Int), Chg j H H' → JugAt H' j → 0 ≤ k → k < m → Q (.int k) H'
def sp_law_one_of : Sp := fun vs H Q _ => ∃ (j : Addr) (l : Addr) (xs : List V), vs = [.ref j, .ref l] ∧ JugAt H j ∧ l ≠ j ∧ SqL K H l xs ∧ xs ≠ [] ∧ xs.length < 1000000 ∧ ∀ (H' : Hp) (x : V), Chg j H H' → JugAt H' j → x ∈ xs → Q x H'
def sp_law_letters : Sp := fun vs H Q _ => ∃ (j : Addr) (m : Int), vs = [.ref j, .int m] ∧ JugAt H j ∧ 1 ≤ m ∧ m ≤ 4 ∧ ∀ H' p (cs : List Nat), Chg j H H' → JugAt H' j → H p = none → H' p = some (.lst (cs.map fun c => V.str (ch c))) → (cs.length : Int) = m →
  (∀ c ∈ cs, 97 ≤ c ∧ c ≤ 122) → cs.Pairwise (· < ·) → Q (.ref p) H'
def sp_law_drawn_cells : Sp := fun vs H Q _ => ∃ (j : Addr) (m : Int), vs = [.ref j, .int m] ∧ JugAt H j ∧ 0 ≤ m ∧ m ≤ 30 ∧ ∀ H' t pc pg (rs : List Addr) (cs : List (Int × Int)) (gs : List Int), Chg j H H' → JugAt H' j → H' t = some (.tup [.ref pc, .ref pg]) →
  H pc = none → H' pc = some (.lst (rs.map V.ref)) → Paired (fun b (p : V × V) => SqT K H' b [p.1, p.2]) rs (cs.map cV) → H pg = none → H' pg = some (.lst (gs.map V.int)) → gs ≠ [] → gs.length ≤ 100 → (∀ g ∈ gs, 0 ≤ g ∧ g ≤ 999) → COk cs → cs.length ≤ 30 → Q (.ref t) H'
def sp_law_arrows : Sp := fun vs H Q _ => ∃ (u : V) (cs : List (Int × Int)), vs = [u] ∧ TP K H u (cs.map cV) ∧ COk cs ∧ ∀ (H' : Hp) (d : Addr), Same H H' → H d = none → H' d = some (.dK (kC cs)) → Q (.ref d) H'
def sp_law_turned : Sp := fun vs H Q _ => ∃ (j : Addr) (v : V) (u : V) (g : Addr) (ns : List (Nat × Int)) (cs : List (Int × Int)) (gs : List Int), vs = [.ref j, v, u, .ref g] ∧ JugAt H j ∧ g ≠ j ∧ H g = some (.lst (gs.map V.int)) ∧ gs ≠ [] ∧ gs.length ≤ 100 ∧ (∀ i ∈ gs, 0 ≤ i ∧ i ≤ 999) ∧ TP K H v (ns.map nV) ∧ TP K H u (cs.map cV) ∧ NOk ns ∧ COk cs ∧
  ∀ (H' : Hp) (t : Addr) (v' : V) (u' : V) (ns' : List (Nat × Int)) (cs' : List (Int × Int)), Chg j H H' → JugAt H' j → SqT K H' t [v', u'] → TP K H' v' (ns'.map nV) → TP K H' u' (cs'.map cV) → NOk ns' → COk cs' → Q (.ref t) H'
def sp_law_tells : Sp := fun vs H Q _ => ∃ (x : Addr) (v : V) (u : V) (ns : List (Nat × Int)) (cs : List (Int × Int)), vs = [.ref x, v, u] ∧ St K C H x ns cs ∧ TP K H v (ns.map nV) ∧ TP K H u (cs.map cV) ∧ ∀ (H' : Hp), Same H H' → Q (.bl true) H'
def sp_law_places_right : Sp := fun vs H Q _ => ∃ (x : Addr) (v : V) (u : V) (l : Addr) (ns : List (Nat × Int)) (cs : List (Int × Int)) (ps : List Int), vs = [.ref x, v, u, .ref l] ∧ St K C H x ns cs ∧ TP K H v (ns.map nV) ∧ TP K H u (cs.map cV) ∧ H l = some (.lst (ps.map V.int)) ∧ ps ≠ [] ∧ (∀ i ∈ ps, 0 ≤ i ∧ i ≤ 999) ∧ ∀ (H' : Hp), Same H H' → Q (.bl true) H'
def sp_law_right : Sp := fun vs H Q _ => ∃ (j : Addr), vs = [.ref j] ∧ JugAt H j ∧ ∀ (H' : Hp), Chg j H H' → Q (.bl true) H'
def sp_law : Sp := fun vs H Q _ => ∃ (a : Addr) (ns : List Int), vs = [.ref a] ∧ SqL K H a (ns.map V.int) ∧ ns.length ≤ 63 ∧ ∀ (H' : Hp), Q (.bl true) H'
end
end K1
/-! Walks over anything; texts; small lemmas. -/
namespace K1
open PySem PySem.Spec L2 Z
theorem for_it {J : It} {n : Nat} {g : TG} {tb : TS} {D : Ends} {σ : L2.St} {H : Hp} (Pv : Nat → L2.St → Hp → Prop) (h0 : Pv 0 σ H) (go : ∀ i σ H, i < n → Pv i σ H → J.go i H) (stop : ∀ σ H, Pv n σ H → J.stop n H)
    (hs : ∀ i v σ H H', i < n → Pv i σ H → J.yld i H v H' → g v σ H' fun σ2 H2 => tb { D with nx := Pv (i + 1), ct := Pv (i + 1), bk := D.nx } σ2 H2) (hd : ∀ σ H, Pv n σ H → D.nx σ H) :
    ∃ W : Nat → Nat → L2.St → Hp → Prop, (∃ m, W 0 m σ H) ∧ ∀ i m σ H, W i m σ H →
      (J.stop i H ∧ D.nx σ H) ∨ (J.go i H ∧ ∃ N : L2.St → Hp → Prop, (∀ σ' H', N σ' H' → ∃ m', m' < m ∧ W (i + 1) m' σ' H') ∧ ∀ x H', J.yld i H x H' → g x σ H' fun σ2 H2 => tb { D with nx := N, ct := N, bk := D.nx } σ2 H2) := by
  refine ⟨fun i m σ H => m = n - i ∧ i ≤ n ∧ Pv i σ H, ⟨n, by simp, Nat.zero_le _, h0⟩, ?_⟩
  rintro i m σ H ⟨rfl, hi, p⟩
  by_cases hlt : i < n
  · exact .inr ⟨go i σ H hlt p, Pv (i + 1), fun σ' H' p' => ⟨n - (i + 1), by omega, rfl, hlt, p'⟩, fun x H' y => hs i x σ H H' hlt p y⟩
  · have e : i = n := by omega
    subst e
    exact .inl ⟨stop σ H p, hd σ H p⟩
theorem lc_it {J : It} {n : Nat} {g : TG} {tt : TT} {te : TE} {vs : List Nat} {σ : L2.St} {H1 : Hp} {D : Addr} {Qd : Hp → Prop} (Pv : Nat → Hp → Prop) (h0 : Pv 0 (upd H1 D (.lst []))) (go : ∀ i H, i < n → Pv i H → J.go i H) (stop : ∀ H, Pv n H → J.stop n H)
    (hs : ∀ i x H H', i < n → Pv i H → J.yld i H x H' → g x (wipe σ vs) H' fun σ2 H2 => wipe σ2 vs = wipe σ vs ∧ tt σ2 H2 fun b H3 =>
      if b = true then te σ2 H3 fun y H4 => ∃ acc, H4 D = some (.lst acc) ∧ acc.length < sizeLine ∧ Pv (i + 1) (upd H4 D (.lst (acc ++ [y]))) else Pv (i + 1) H3) (hd : ∀ H, Pv n H → Qd H) :
    ∃ W : Nat → Nat → Hp → Prop, (∃ m, W 0 m (upd H1 D (.lst []))) ∧ ∀ i m H, W i m H →
      (J.stop i H ∧ Qd H) ∨ (J.go i H ∧ ∃ Nx : Hp → Prop, (∀ H', Nx H' → ∃ m', m' < m ∧ W (i + 1) m' H') ∧ ∀ x H', J.yld i H x H' → g x (wipe σ vs) H' fun σ2 H2 => wipe σ2 vs = wipe σ vs ∧ tt σ2 H2 fun b H3 =>
        if b = true then te σ2 H3 fun y H4 => ∃ acc, H4 D = some (.lst acc) ∧ acc.length < sizeLine ∧ Nx (upd H4 D (.lst (acc ++ [y]))) else Nx H3) := by
  refine ⟨fun i m H => m = n - i ∧ i ≤ n ∧ Pv i H, ⟨n, by simp, Nat.zero_le _, h0⟩, ?_⟩
  rintro i m H ⟨rfl, hi, p⟩
  by_cases hlt : i < n
  · exact .inr ⟨go i H hlt p, Pv (i + 1), fun H' p' => ⟨n - (i + 1), by omega, rfl, hlt, p'⟩, fun x H' y => hs i x H H' hlt p y⟩
  · have e : i = n := by omega
    subst e
    exact .inl ⟨stop H p, hd H p⟩
theorem lt_none {c : Nat} : decide ((Str.ofString "").cps.toList < (ch c).cps.toList) = true := by
  have e : (Str.ofString "").cps.toList = [] := by decide +kernel
  rw [e]
  exact decide_eq_true (List.nil_lt_cons _ _)
theorem lt_sign {a c : Nat} (h : a < c) : decide ((ch a).cps.toList < (ch c).cps.toList) = true := decide_eq_true (List.cons_lt_cons_iff.mpr (.inl h))
theorem asc_at {α : Type} {f : α → Nat} {ls : List α} (h : (ls.map f).Pairwise (· < ·)) {i : Nat} {p q : α} (e : ls[i]? = some p) (e2 : ls[i + 1]? = some q) : f p < f q := by
  rw [List.pairwise_map] at h
  obtain ⟨h1, rfl⟩ := List.getElem?_eq_some_iff.mp e
  obtain ⟨h2, rfl⟩ := List.getElem?_eq_some_iff.mp e2
  exact List.pairwise_iff_getElem.mp h _ _ h1 h2 (Nat.lt_succ_self _)
theorem asc_atI {α : Type} {f : α → Int} {ls : List α} (h : (ls.map f).Pairwise (· < ·)) {i : Nat} {p q : α} (e : ls[i]? = some p) (e2 : ls[i + 1]? = some q) : f p < f q := by
  rw [List.pairwise_map] at h
  obtain ⟨h1, rfl⟩ := List.getElem?_eq_some_iff.mp e
  obtain ⟨h2, rfl⟩ := List.getElem?_eq_some_iff.mp e2
  exact List.pairwise_iff_getElem.mp h _ _ h1 h2 (Nat.lt_succ_self _)
theorem map_at {α β : Type} {f : α → β} {ls : List α} {i : Nat} {y : β} (e : (ls.map f)[i]? = some y) : ∃ x, ls[i]? = some x ∧ y = f x := by
  rw [List.getElem?_map] at e
  cases h : ls[i]? with
  | none => rw [h] at e; cases e
  | some x => rw [h] at e; exact ⟨x, rfl, (Option.some.inj e).symm⟩
/-- a comprehension over a tuple of pairs that makes nothing -/
theorem lc_pairs {α : Type} {K : PySem.W.Frag} {rs : List Addr} {ls : List α} {a : Addr} {g : TG} {te : TE} {vs : List Nat} {σ : L2.St} {H1 : Hp} {D : Addr} {Qd : Hp → Prop} (emb : α → V × V) (f : α → V)
    (hT : PT H1 a (rs.map V.ref)) (hp : Paired (fun b (p : V × V) => SqT K H1 b [p.1, p.2]) rs (ls.map emb)) (hD : H1 D = none) (hz : ls.length ≤ 1000)
    (hs : ∀ b p H (R : V → Hp → Prop), Same H1 H → SqT K H b [(emb p).1, (emb p).2] → p ∈ ls → R (f p) H → g (.ref b) (wipe σ vs) H fun σ2 H2 => wipe σ2 vs = wipe σ vs ∧ te σ2 H2 R)
    (hd : ∀ H, Same H1 H → H D = some (.lst (ls.map f)) → Qd H) :
    ∃ W : Nat → Nat → Hp → Prop, (∃ m, W 0 m (upd H1 D (.lst []))) ∧ ∀ i m H, W i m H →
      ((Itt K a).stop i H ∧ Qd H) ∨ ((Itt K a).go i H ∧ ∃ Nx : Hp → Prop, (∀ H', Nx H' → ∃ m', m' < m ∧ W (i + 1) m' H') ∧ ∀ x H', (Itt K a).yld i H x H' → g x (wipe σ vs) H' fun σ2 H2 => wipe σ2 vs = wipe σ vs ∧ tYes σ2 H2 fun b H3 =>
        if b = true then te σ2 H3 fun y H4 => ∃ acc, H4 D = some (.lst acc) ∧ acc.length < sizeLine ∧ Nx (upd H4 D (.lst (acc ++ [y]))) else Nx H3) := by
  have hl : rs.length = ls.length := by rw [Paired.len hp, List.length_map]
  refine lc_tup (xs := rs.map V.ref) (fun i H => Same H1 H ∧ H D = some (.lst ((ls.take i).map f))) ⟨same_new hD, upd_same⟩ (fun i H _ h => (PT.same h.1 hT).sq) (fun i x H hx h => ?_) (fun H h => hd H h.1 ?_)
  · obtain ⟨sm, hDl⟩ := h
    obtain ⟨b, p, rfl, e1, e2, hq⟩ := pairs_at (Paired.imm (.of sm) hp) hx
    obtain ⟨q, e3, rfl⟩ := map_at e2
    have hi : i < ls.length := (List.getElem?_eq_some_iff.mp e3).1
    refine hs b q H (fun y H4 => ∃ acc, H4 D = some (.lst acc) ∧ acc.length < sizeLine ∧ Same H1 (upd H4 D (.lst (acc ++ [y]))) ∧ upd H4 D (.lst (acc ++ [y])) D = some (.lst ((ls.take (i + 1)).map f))) sm hq (List.mem_of_getElem? e3) ⟨_, hDl, ?_, fun c o e => ?_, ?_⟩
    · rw [List.length_map, List.length_take]
      exact small1000 (by omega)
    · have nb : c ≠ D := ne_of_none e hD
      rw [upd_ne nb]
      exact sm _ _ e
    · rw [upd_same, List.take_add_one, e3, List.map_append]
      rfl
  · have := h.2
    rw [List.length_map, hl, List.take_length] at this
    exact this
theorem lcP {α : Type} {K : PySem.W.Frag} {rs : List Addr} {ls : List α} {a : Addr} {i : Nat} {g : TG} {te : TE} {vs : List Nat} {σ : L2.St} {H : Hp} {Q : VK} (emb : α → V × V) (f : α → V) (hv : σ[i]? = some (some (.ref a)))
    (hT : PT H a (rs.map V.ref)) (hp : Paired (fun b (p : V × V) => SqT K H b [p.1, p.2]) rs (ls.map emb)) (hz : ls.length ≤ 1000)
    (hs : ∀ b p H' (R : V → Hp → Prop), Same H H' → SqT K H' b [(emb p).1, (emb p).2] → p ∈ ls → R (f p) H' → g (.ref b) (wipe σ vs) H' fun σ2 H2 => wipe σ2 vs = wipe σ vs ∧ te σ2 H2 R)
    (hd : ∀ H' D, Same H H' → H D = none → H' D = some (.lst (ls.map f)) → Q (.ref D) H') : tLc (iTup K (tVar i)) g tYes te vs σ H Q :=
  ⟨_, hv, a, rfl, ⟨_, hT.sq⟩, fun D hD => lc_pairs emb f hT hp hD hz hs fun H' sm hl => hd H' D sm hD hl⟩
/-- a walk over a tuple of pairs -/
theorem for_pairs {K : PySem.W.Frag} {rs : List Addr} {ls : List (V × V)} {a : Addr} {g : TG} {tb : TS} {D : Ends} {σ : L2.St} {H H0 : Hp} (Pv : Nat → L2.St → Hp → Prop) (h0 : Pv 0 σ H)
    (hT : PT H0 a (rs.map V.ref)) (hp : Paired (fun b (p : V × V) => SqT K H0 b [p.1, p.2]) rs ls) (hI : ∀ i σ H, Pv i σ H → Imm H0 H)
    (hs : ∀ i b p σ H, rs[i]? = some b → ls[i]? = some p → SqT K H b [p.1, p.2] → Pv i σ H → g (.ref b) σ H fun σ2 H2 => tb { D with nx := Pv (i + 1), ct := Pv (i + 1), bk := D.nx } σ2 H2) (hd : ∀ σ H, Pv ls.length σ H → D.nx σ H) :
    ∃ W : Nat → Nat → L2.St → Hp → Prop, (∃ m, W 0 m σ H) ∧ ∀ i m σ H, W i m σ H →
      ((Itt K a).stop i H ∧ D.nx σ H) ∨ ((Itt K a).go i H ∧ ∃ N : L2.St → Hp → Prop, (∀ σ' H', N σ' H' → ∃ m', m' < m ∧ W (i + 1) m' σ' H') ∧ ∀ x H', (Itt K a).yld i H x H' → g x σ H' fun σ2 H2 => tb { D with nx := N, ct := N, bk := D.nx } σ2 H2) := by
  have hl : rs.length = ls.length := Paired.len hp
  refine for_it (n := ls.length) Pv h0 (fun i σ H hi p => ⟨rs.map V.ref, (rs.map V.ref)[i]'(by simpa using hl ▸ hi), (PT.imm (hI _ _ _ p) hT).sq, List.getElem?_eq_getElem _⟩) (fun σ H p => ⟨rs.map V.ref, (PT.imm (hI _ _ _ p) hT).sq, by simp [hl]⟩) (fun i v σ H H' hi p y => ?_) hd
  obtain ⟨rfl, y⟩ := y
  obtain ⟨b, q, rfl, e1, e2, hq⟩ := pairs_at (Paired.imm (hI _ _ _ p) hp) (y _ (PT.imm (hI _ _ _ p) hT).sq)
  exact hs i b q σ H' e1 e2 hq p
/-- the same, each with its place -/
theorem for_enumP {K : PySem.W.Frag} {rs : List Addr} {ls : List (V × V)} {a : Addr} {g : TG} {tb : TS} {D : Ends} {σ : L2.St} {H H0 : Hp} (Pv : Nat → L2.St → Hp → Prop) (h0 : Pv 0 σ H)
    (hT : PT H0 a (rs.map V.ref)) (hp : Paired (fun b (p : V × V) => SqT K H0 b [p.1, p.2]) rs ls) (hI : ∀ i σ H, Pv i σ H → Same H0 H)
    (hs : ∀ i b p σ H t, rs[i]? = some b → ls[i]? = some p → SqT K H b [p.1, p.2] → Pv i σ H → H t = none → g (.ref t) σ (upd H t (.tup [.int (i : Nat), .ref b])) fun σ2 H2 => tb { D with nx := Pv (i + 1), ct := Pv (i + 1), bk := D.nx } σ2 H2) (hd : ∀ σ H, Pv ls.length σ H → D.nx σ H) :
    ∃ W : Nat → Nat → L2.St → Hp → Prop, (∃ m, W 0 m σ H) ∧ ∀ i m σ H, W i m σ H →
      ((IteT K a).stop i H ∧ D.nx σ H) ∨ ((IteT K a).go i H ∧ ∃ N : L2.St → Hp → Prop, (∀ σ' H', N σ' H' → ∃ m', m' < m ∧ W (i + 1) m' σ' H') ∧ ∀ x H', (IteT K a).yld i H x H' → g x σ H' fun σ2 H2 => tb { D with nx := N, ct := N, bk := D.nx } σ2 H2) := by
  have hl : rs.length = ls.length := Paired.len hp
  refine for_it (n := ls.length) Pv h0 (fun i σ H hi p => ⟨rs.map V.ref, (rs.map V.ref)[i]'(by simpa using hl ▸ hi), (PT.same (hI _ _ _ p) hT).sq, List.getElem?_eq_getElem _⟩) (fun σ H p => ⟨rs.map V.ref, (PT.same (hI _ _ _ p) hT).sq, by simp [hl]⟩) (fun i v σ H H' hi p y => ?_) hd
  obtain ⟨t, x, rfl, hn, rfl, y⟩ := y
  obtain ⟨b, q, rfl, e1, e2, hq⟩ := pairs_at (Paired.imm (.of (hI _ _ _ p)) hp) (y _ (PT.same (hI _ _ _ p) hT).sq)
  exact hs i b q σ H t e1 e2 hq p hn
/-! ### numbers as texts -/
theorem numS_nat {i : Int} (h : 0 ≤ i) : numS i = Str.ofString (toString ((i.toNat : Nat) : Int)) := by
  unfold numS
  rw [Int.toNat_of_nonneg h]
theorem tl_numS {i : Int} (h : 0 ≤ i) : TL.tl (numS i) = TL.numL i.toNat := by
  rw [numS_nat h]
  exact TL.tl_num _
theorem num_facts : ∀ n : Fin 1000, (TL.numL n.val).length ≤ 3 ∧ TL.numL n.val ≠ [] ∧ (TL.numL n.val = [48] ∨ (TL.numL n.val)[0]? ≠ some 48) := by decide +kernel
theorem num_len {i : Int} (h : 0 ≤ i) (h2 : i ≤ 999) : (numS i).length ≤ 3 := by
  rw [TL.len_tl, tl_numS h]
  exact (num_facts ⟨i.toNat, by omega⟩).1
theorem num_pos {i : Int} (h : 0 ≤ i) (h2 : i ≤ 999) : 1 ≤ (numS i).length := by
  rw [TL.len_tl, tl_numS h]
  have := (num_facts ⟨i.toNat, by omega⟩).2.1
  exact List.length_pos_iff.mpr this
theorem digit_in {c : Nat} (h1 : 48 ≤ c) (h2 : c ≤ 57) : decide (c ∈ (Str.ofString "0123456789").cps.toList) = true := by
  have e : (Str.ofString "0123456789").cps.toList = (List.range 10).map (· + 48) := by decide +kernel
  rw [e]
  exact decide_eq_true (List.mem_map.mpr ⟨c - 48, List.mem_range.mpr (by omega), by omega⟩)
theorem letter_in {c : Nat} (h1 : 97 ≤ c) (h2 : c ≤ 122) : decide (c ∈ (Str.ofString "abcdefghijklmnopqrstuvwxyz").cps.toList) = true := by
  have e : (Str.ofString "abcdefghijklmnopqrstuvwxyz").cps.toList = (List.range 26).map (· + 97) := by decide +kernel
  rw [e]
  exact decide_eq_true (List.mem_map.mpr ⟨c - 97, List.mem_range.mpr (by omega), by omega⟩)
theorem num_int {i : Int} (h : 0 ≤ i) (h2 : i ≤ 999) : PySem.intText? (numS i) = some i := by
  rw [numS_nat h, TL.int_num, Int.toNat_of_nonneg h]
  exact Nat.le_trans (num_facts ⟨i.toNat, by omega⟩).1 (by decide)
theorem num_log {i : Int} (h : 0 ≤ i) (h2 : i ≤ 999) : i.natAbs.log2 < 1920 := by
  have e : i.natAbs.log2 ≤ i.natAbs := Nat.log2_le_self _
  omega
theorem str_ne {x y : Str} (h : TL.tl x ≠ TL.tl y) : decide (V.str x = V.str y) = false := decide_eq_false fun e => h (by cases e; rfl)
theorem z0_tl : TL.tl (Str.ofString "0") = [48] := by decide +kernel
theorem e_tl : TL.tl (Str.ofString "") = [] := by decide +kernel
theorem n999 : (Str.ofString (toString (999 : Int))).length = 3 := by decide +kernel
theorem num_dig {i : Int} (h : 0 ≤ i) : ∀ c ∈ TL.tl (numS i), 48 ≤ c ∧ c ≤ 57 := fun c hc => by
  rw [tl_numS h] at hc
  refine ⟨?_, ?_⟩
  · by_cases z : c < 48
    · exact absurd hc (TL.numL_free (.inl z))
    · omega
  · by_cases z : 57 < c
    · exact absurd hc (TL.numL_free (.inr z))
    · omega
theorem num_head {i : Int} (h : 0 ≤ i) (h2 : i ≤ 999) : ∃ c t, TL.tl (numS i) = c :: t ∧ (c = 48 → numS i = Str.ofString "0") := by
  have F := num_facts ⟨i.toNat, by omega⟩
  have e := tl_numS h
  rcases hx : TL.tl (numS i) with _ | ⟨c, t⟩
  · exact absurd (e.symm.trans hx) F.2.1
  · refine ⟨c, t, rfl, fun z => ?_⟩
    subst z
    have hx2 := e.symm.trans hx
    rcases F.2.2 with q | q
    · apply TL.ext_tl
      rw [z0_tl, e]
      exact q
    · exact absurd (by rw [hx2]; rfl) q
theorem at_nat {α : Type} {xs : List α} {i : Nat} {x : α} (h : xs[i]? = some x) : atI xs (i : Int) = some x := by
  have hi : i < xs.length := (List.getElem?_eq_some_iff.mp h).1
  have e : ixN xs.length (i : Int) = some i := by
    unfold ixN
    rw [if_pos (by omega), if_pos (by omega)]
    rfl
  show (ixN xs.length (i : Int)).bind _ = _
  rw [e]
  exact h
theorem at_first {α : Type} {xs : List α} {x : α} : atI (x :: xs) 0 = some x := at_nat (i := 0) rfl
theorem at_snd {α : Type} {xs : List α} {x y : α} : atI (x :: y :: xs) 1 = some y := at_nat (i := 1) rfl
theorem asc_uniq {α β : Type} {f : α → β} {R : β → β → Prop} (irr : ∀ b, ¬ R b b) : ∀ {ls : List α}, (ls.map f).Pairwise R → ∀ {p q : α}, p ∈ ls → q ∈ ls → f p = f q → p = q
  | x :: t, h, p, q, hp, hq, e => by
    rw [List.map_cons, List.pairwise_cons] at h
    rcases List.mem_cons.mp hp with rfl | hp' <;> rcases List.mem_cons.mp hq with rfl | hq'
    · rfl
    · exact absurd (e ▸ h.1 (f q) (List.mem_map_of_mem hq')) (irr _)
    · exact absurd (e ▸ h.1 (f p) (List.mem_map_of_mem hp')) (irr _)
    · exact asc_uniq irr h.2 hp' hq' e
theorem val_n {ns : List (Nat × Int)} (ok : NOk ns) {p : Nat × Int} (h : p ∈ ns) : valV (kN ns) (Sum.inr (ch p.1) : Key) = some (.int p.2) := by
  unfold valV kN
  rw [List.find?_map]
  cases hf : ns.find? ((fun kv : Key × V => decide (kv.1 = Sum.inr (ch p.1))) ∘ fun p => (Sum.inr (ch p.1), V.int p.2)) with
  | none =>
    have := List.find?_eq_none.mp hf p h
    simp at this
  | some q =>
    have h1 := List.find?_some hf
    have h2 := List.mem_of_find?_eq_some hf
    have e : q.1 = p.1 := by
      simp only [Function.comp, decide_eq_true_eq, Sum.inr.injEq] at h1
      have := congrArg (fun s : Str => s.cps.toList) h1
      simpa [ch] using this
    have := asc_uniq (f := fun p : Nat × Int => p.1) (fun b => Nat.lt_irrefl b) ok.asc h2 h e
    subst this
    rfl
theorem find_c (cs : List (Int × Int)) (i : Int) : valV (kC cs) (Sum.inl i : Key) = (cs.find? fun p => decide (p.1 = i)).map fun p => V.int p.2 := by
  unfold valV kC
  rw [List.find?_map, Option.map_map]
  have e : ((fun kv : Key × V => decide (kv.1 = Sum.inl i)) ∘ fun p : Int × Int => ((Sum.inl p.1 : Key), V.int p.2)) = fun p => decide (p.1 = i) := by
    funext p
    simp
  rw [e]
  rfl
theorem look_c (cs : List (Int × Int)) (i : Int) : (valV (kC cs) (Sum.inl i : Key)).getD .non = lookC cs i := by
  rw [find_c]
  unfold lookC
  cases cs.find? fun p => decide (p.1 = i) <;> rfl
theorem some_c (cs : List (Int × Int)) (i : Int) : (valV (kC cs) (Sum.inl i : Key)).isSome = isC cs i := by
  rw [find_c, Option.isSome_map]
  unfold isC
  rw [Bool.eq_iff_iff, List.find?_isSome, List.any_eq_true]
theorem ch_len (c : Nat) : (ch c).length = 1 := rfl
theorem len_app (a b : Str) : (a ++ b).length = a.length + b.length := by
  rw [TL.len_tl, TL.len_tl, TL.len_tl, TL.tl_append, List.length_append]
theorem emp_app (a : Str) : Str.empty ++ a = a := TL.ext_tl (by rw [TL.tl_append]; rfl)
theorem nameW_len {p : Nat × Int} (h : 0 ≤ p.2) (h2 : p.2 ≤ 999) : (nameW p).length ≤ 5 := by
  have := num_len h h2
  have e : (Str.ofString "=").length = 1 := by decide +kernel
  unfold nameW
  rw [len_app, len_app, ch_len, e]
  omega
theorem cellW_len {p : Int × Int} (h : 0 ≤ p.1) (h2 : p.1 ≤ 999) (h3 : 0 ≤ p.2) (h4 : p.2 ≤ 999) : (cellW p).length ≤ 7 := by
  have a := num_len h h2
  have b := num_len h3 h4
  have e : (Str.ofString ">").length = 1 := by decide +kernel
  unfold cellW
  rw [len_app, len_app, e]
  omega
theorem eq1_len : (Str.ofString "=").length = 1 := by decide +kernel
theorem gt1_len : (Str.ofString ">").length = 1 := by decide +kernel
theorem sp1_len : (Str.ofString " ").length = 1 := by decide +kernel
theorem bar_len : (Str.ofString " | ").length = 3 := by decide +kernel
theorem none_len : (Str.ofString "none").length = 4 := by decide +kernel
theorem nameW_eq (p : Nat × Int) : Str.empty ++ ch p.1 ++ Str.ofString "=" ++ Str.ofString (toString p.2) = nameW p := by
  rw [emp_app]
  rfl
theorem cellW_eq (p : Int × Int) : Str.empty ++ Str.ofString (toString p.1) ++ Str.ofString ">" ++ Str.ofString (toString p.2) = cellW p := by
  rw [emp_app]
  rfl
theorem sum_len {k : Nat} : ∀ {ys : List Str}, (∀ y ∈ ys, y.length ≤ k) → (ys.map fun x => x.length).sum ≤ k * ys.length
  | [], _ => by simp
  | y :: t, h => by
    have := sum_len (ys := t) fun z hz => h z (List.mem_cons_of_mem _ hz)
    have h1 := h y List.mem_cons_self
    rw [List.map_cons, List.sum_cons, List.length_cons, Nat.mul_succ]
    omega
theorem tl_glue (y : Str) (l : List Str) : TL.tl (Txt.join y l) = TL.joinL (TL.tl y) (l.map TL.tl) := by
  rw [TL.join_eq, TL.tl_join]
theorem joinL_len {k : Nat} {S : List Nat} : ∀ {l : List (List Nat)}, (∀ y ∈ l, y.length ≤ k) → (TL.joinL S l).length ≤ (k + S.length) * l.length
  | [], _ => by simp [TL.joinL]
  | [y], h => by
    have := h y List.mem_cons_self
    simp only [TL.joinL, List.length_cons, List.length_nil]
    omega
  | y :: z :: t, h => by
    have h1 := h y List.mem_cons_self
    have h2 := joinL_len (S := S) (l := z :: t) fun q hq => h q (List.mem_cons_of_mem _ hq)
    simp only [TL.joinL, List.length_append, List.length_cons, Nat.mul_succ] at h2 ⊢
    omega
theorem glue_len {k : Nat} {y : Str} {l : List Str} (h : ∀ z ∈ l, z.length ≤ k) : (Txt.join y l).length ≤ (k + y.length) * l.length := by
  have := joinL_len (k := k) (S := TL.tl y) (l := l.map TL.tl) fun z hz => by
    obtain ⟨q, hq, rfl⟩ := List.mem_map.mp hz
    rw [← TL.len_tl]
    exact h q hq
  rw [TL.len_tl, tl_glue, TL.len_tl y]
  rw [List.length_map] at this
  exact this
theorem nTxt_len {ns : List (Nat × Int)} (ok : NOk ns) : (nTxt ns).length ≤ 24 := by
  have h := glue_len (k := 5) (y := sp1) (l := ns.map nameW) fun y hy => by
    obtain ⟨p, hp, rfl⟩ := List.mem_map.mp hy
    exact nameW_len (ok.pl p hp).1 (ok.pl p hp).2
  have e : sp1.length = 1 := sp1_len
  have := ok.four
  rw [List.length_map, e] at h
  unfold nTxt
  omega
theorem cs_le {cs : List (Int × Int)} (ok : COk cs) : ∀ y ∈ cs.map cellW, y.length ≤ 7 := fun y hy => by
  obtain ⟨p, hp, rfl⟩ := List.mem_map.mp hy
  obtain ⟨a, b, c, d⟩ := ok.pl p hp
  exact cellW_len (by omega) b c d
theorem cTxt_len {cs : List (Int × Int)} (ok : COk cs) : (cTxt cs).length ≤ 3204 := by
  have h := glue_len (k := 7) (y := sp1) (l := cs.map cellW) (cs_le ok)
  have e : sp1.length = 1 := sp1_len
  have := ok.few
  have e2 := none_len
  rw [List.length_map, e] at h
  unfold cTxt
  split
  · omega
  · omega
theorem glue_nil {y : Str} : Txt.join y [] = Str.empty := TL.ext_tl (by rw [tl_glue]; rfl)
theorem glue_pos {k : Nat} {S : List Nat} : ∀ {l : List (List Nat)}, l ≠ [] → (∀ y ∈ l, 1 ≤ y.length) → 1 ≤ (TL.joinL S l).length
  | [y], _, h => h y List.mem_cons_self
  | y :: z :: t, _, h => by
    have h1 := h y List.mem_cons_self
    simp only [TL.joinL, List.length_append]
    omega
theorem cells_pos {cs : List (Int × Int)} (h : cs ≠ []) : 1 ≤ (Txt.join sp1 (cs.map cellW)).length := by
  rw [TL.len_tl, tl_glue]
  refine glue_pos (k := 0) (by simpa using h) fun y hy => ?_
  obtain ⟨q, hq, rfl⟩ := List.mem_map.mp hy
  obtain ⟨p, hp, rfl⟩ := List.mem_map.mp hq
  rw [← TL.len_tl]
  unfold cellW
  rw [len_app, len_app, gt1_len]
  omega
theorem none_of {H H' : Hp} {b : Addr} (e : Same H H') (h : H' b = none) : H b = none := by
  cases q : H b with
  | none => rfl
  | some o => rw [e _ _ q] at h; cases h
theorem sl_le {n : Nat} (h : n ≤ 100000) : n ≤ sizeLine := by
  rw [sizeLine_eq]
  omega
end K1
/-! Data: what it shows, when it is alike. -/
namespace K1
open PySem PySem.Spec L2 Z
def nP (p : Nat × Int) : PyData := .tuple [.str (ch p.1), .int p.2]
def cP (p : Int × Int) : PyData := .tuple [.int p.1, .int p.2]
def nD (ns : List (Nat × Int)) : PyData := .tuple (ns.map nP)
def cD (cs : List (Int × Int)) : PyData := .tuple (cs.map cP)
theorem dp_pairs {α : Type} {K : PySem.W.Frag} {H : Hp} {emb : α → V × V} {dat : α → PyData} (go : ∀ b p, SqT K H b [(emb p).1, (emb p).2] → Dp K H (.ref b) (dat p)) :
    ∀ {rs : List Addr} {ls : List α}, Paired (fun b (p : V × V) => SqT K H b [p.1, p.2]) rs (ls.map emb) → DpAll K H (rs.map V.ref) (ls.map dat)
  | [], [], _ => .nil
  | _ :: _, _ :: _, .cons h t => .cons (go _ _ h) (dp_pairs go t)
theorem dp_n {K : PySem.W.Frag} {H : Hp} {v : V} {ns : List (Nat × Int)} (h : TP K H v (ns.map nV)) : Dp K H v (nD ns) := by
  obtain ⟨a, rs, rfl, ht, hp⟩ := h
  exact .tup ht.sq (dp_pairs (dat := nP) (fun b p q => .tup q (.cons (.str _) (.cons (.int _) .nil))) hp)
theorem dp_c {K : PySem.W.Frag} {H : Hp} {v : V} {cs : List (Int × Int)} (h : TP K H v (cs.map cV)) : Dp K H v (cD cs) := by
  obtain ⟨a, rs, rfl, ht, hp⟩ := h
  exact .tup ht.sq (dp_pairs (dat := cP) (fun b p q => .tup q (.cons (.int _) (.cons (.int _) .nil))) hp)
theorem dp_ints {K : PySem.W.Frag} {H : Hp} : ∀ xs : List Int, DpAll K H (xs.map V.int) (xs.map PyData.int)
  | [] => .nil
  | _ :: t => .cons (.int _) (dp_ints t)
theorem eqv_all {α : Type} [DecidableEq α] {dat : α → PyData} (go : ∀ a b, (dat a).eqv (dat b) = decide (a = b)) : ∀ l m : List α, PyData.eqvAll (l.map dat) (m.map dat) = decide (l = m)
  | [], [] => by simp [PyData.eqvAll]
  | [], _ :: _ => by simp [PyData.eqvAll]
  | _ :: _, [] => by simp [PyData.eqvAll]
  | a :: l, b :: m => by
    rw [List.map_cons, List.map_cons, PyData.eqvAll, go, eqv_all go l m, Bool.eq_iff_iff]
    simp
theorem ch_inj {a b : Nat} : (ch a == ch b) = decide (a = b) := by
  rw [Bool.eq_iff_iff]
  simp only [beq_iff_eq, decide_eq_true_eq]
  refine ⟨fun e => ?_, fun e => by rw [e]⟩
  have := congrArg (fun s : Str => s.cps.toList) e
  simpa [ch] using this
theorem eqv_n (l m : List (Nat × Int)) : (nD l).eqv (nD m) = decide (l = m) := by
  refine Eq.trans (by simp only [nD, PyData.eqv]) (eqv_all (dat := nP) (fun a b => ?_) l m)
  simp only [nP, PyData.eqv, PyData.eqvAll, ch_inj, Bool.and_true]
  rw [Bool.eq_iff_iff]
  simp only [Bool.and_eq_true, decide_eq_true_eq, beq_iff_eq]
  exact ⟨fun h => Prod.ext h.1 h.2, fun h => by rw [h]; exact ⟨rfl, rfl⟩⟩
theorem eqv_c (l m : List (Int × Int)) : (cD l).eqv (cD m) = decide (l = m) := by
  refine Eq.trans (by simp only [cD, PyData.eqv]) (eqv_all (dat := cP) (fun a b => ?_) l m)
  simp only [cP, PyData.eqv, PyData.eqvAll, Bool.and_true]
  rw [Bool.eq_iff_iff]
  simp only [Bool.and_eq_true, decide_eq_true_eq, beq_iff_eq]
  exact ⟨fun h => Prod.ext h.1 h.2, fun h => by rw [h]; exact ⟨rfl, rfl⟩⟩
/-- small: what it shows, how deep it is -/
structure Fit (d : PyData) (n m : Nat) : Prop where
  len : d.shown.length ≤ n
  ok : d.showable = true
  nod : d.hasDict = false
  dep : d.depth ≤ m
theorem fit_le {d : PyData} {n m n' m' : Nat} (h : Fit d n m) (a : n ≤ n') (b : m ≤ m') : Fit d n' m' := ⟨Nat.le_trans h.len a, h.ok, h.nod, Nat.le_trans h.dep b⟩
theorem fit_non : Fit .none 5 0 := ⟨by decide +kernel, rfl, rfl, Nat.le_refl _⟩
theorem fit_bl (b : Bool) : Fit (.bool b) 5 0 := ⟨by cases b <;> decide +kernel, rfl, rfl, Nat.le_refl _⟩
theorem fit_int {i : Int} (h : 0 ≤ i) (h2 : i ≤ 999) : Fit (.int i) 5 0 := ⟨by
  have := num_len h h2
  show (Str.ofString (toString i)).length ≤ 5
  unfold numS at this
  omega, by show decide _ = true; exact decide_eq_true (num_log h h2), rfl, Nat.le_refl _⟩
theorem fit_str {x : Str} {n : Nat} (h : ∀ c ∈ TL.tl x, c < 16 ^ 8) (hn : x.length ≤ n) : Fit (.str x) (10 * n + 2) 0 := ⟨by
  have := StrLaws.reprText_len x h
  show (reprText x).length ≤ _
  omega, rfl, rfl, Nat.le_refl _⟩
theorem fit_all {k m : Nat} : ∀ {ds : List PyData}, (∀ d ∈ ds, Fit d k m) → ((PyData.shownAll ds).map (·.length)).sum ≤ k * ds.length ∧ (PyData.shownAll ds).length = ds.length ∧ PyData.showableAll ds = true ∧ PyData.hasDictAll ds = false ∧ PyData.depthAll ds ≤ m
  | [], _ => ⟨by simp [PyData.shownAll], by simp [PyData.shownAll], by simp [PyData.showableAll], by simp [PyData.hasDictAll], by simp [PyData.depthAll]⟩
  | d :: t, h => by
    obtain ⟨a, b, c, e, f⟩ := fit_all (ds := t) fun x hx => h x (List.mem_cons_of_mem _ hx)
    have q := h d List.mem_cons_self
    have q1 := q.len
    have q4 := q.dep
    refine ⟨?_, ?_, ?_, ?_, ?_⟩
    · simp only [PyData.shownAll, List.map_cons, List.sum_cons, List.length_cons, Nat.mul_succ]
      omega
    · simp only [PyData.shownAll, List.length_cons, b]
    · simp only [PyData.showableAll, q.ok, c, Bool.and_true]
    · simp only [PyData.hasDictAll, q.nod, e, Bool.or_false]
    · simp only [PyData.depthAll]
      omega
theorem fit_list {k m : Nat} {ds : List PyData} (h : ∀ d ∈ ds, Fit d k m) : Fit (.list ds) ((k + 2) * ds.length + 3) (m + 1) := by
  obtain ⟨a, b, c, e, f⟩ := fit_all h
  have l := listText_len_le (PyData.shownAll ds)
  refine ⟨?_, ?_, ?_, ?_⟩
  · simp only [PyData.shown]
    rw [b] at l
    rw [Nat.add_mul]
    omega
  · simp only [PyData.showable, c]
  · simp only [PyData.hasDict, e]
  · simp only [PyData.depth]
    omega
theorem piled_sum (ts : List Str) : piled ts = (ts.map (·.length)).sum + 2 * ts.length := by
  induction ts with
  | nil => rfl
  | cons t r ih => rw [piled_cons, ih, List.map_cons, List.sum_cons, List.length_cons]; omega
theorem tup_len (ts : List Str) : (tupleText ts).length ≤ (ts.map (·.length)).sum + 2 * ts.length + 3 := by
  unfold tupleText
  rw [len_app, len_app]
  have e1 : (("(" : Str)).length = 1 := by decide +kernel
  have e2 : ((if ts.length == 1 then ",)" else ")" : String) : Str).length ≤ 2 := by
    split <;> decide +kernel
  rw [e1]
  rcases ts with _ | ⟨t, r⟩
  · have e3 : (Str.join ", " ([] : List Str)).length = 0 := rfl
    rw [e3]
    omega
  · have := join_length_add (t :: r) (by simp)
    rw [piled_sum] at this
    omega
theorem fit_tup {k m : Nat} {ds : List PyData} (h : ∀ d ∈ ds, Fit d k m) : Fit (.tuple ds) ((k + 2) * ds.length + 3) (m + 1) := by
  obtain ⟨a, b, c, e, f⟩ := fit_all h
  have l := tup_len (PyData.shownAll ds)
  refine ⟨?_, ?_, ?_, ?_⟩
  · simp only [PyData.shown]
    rw [b] at l
    rw [Nat.add_mul]
    omega
  · simp only [PyData.showable, c]
  · simp only [PyData.hasDict, e]
  · simp only [PyData.depth]
    omega
theorem ch_small {c : Nat} (h : c ≤ 122) : ∀ d ∈ TL.tl (ch c), d < 16 ^ 8 := fun d hd => by
  have : d = c := by simpa [ch] using hd
  subst this
  exact Nat.lt_of_le_of_lt h (by decide)
theorem fit_n {ns : List (Nat × Int)} (ok : NOk ns) : Fit (nD ns) 135 2 := by
  have h := fit_tup (k := 31) (m := 1) (ds := ns.map nP) fun d hd => by
    obtain ⟨p, hp, rfl⟩ := List.mem_map.mp hd
    refine fit_le (fit_tup (k := 12) (m := 0) fun d hd => ?_) (show (12 + 2) * 2 + 3 ≤ 31 by decide) (by decide)
    rcases List.mem_cons.mp hd with rfl | hd
    · exact fit_str (n := 1) (ch_small (ok.let_ p hp).2) (Nat.le_refl _)
    · rcases List.mem_cons.mp hd with rfl | hd
      · exact fit_le (fit_int (ok.pl p hp).1 (ok.pl p hp).2) (by decide) (by decide)
      · cases hd
  have := ok.four
  rw [List.length_map] at h
  have e : (31 + 2) * ns.length + 3 ≤ 135 := by omega
  exact fit_le h e (by decide)
theorem fit_c {cs : List (Int × Int)} (ok : COk cs) : Fit (cD cs) 7603 2 := by
  have h := fit_tup (k := 17) (m := 1) (ds := cs.map cP) fun d hd => by
    obtain ⟨p, hp, rfl⟩ := List.mem_map.mp hd
    obtain ⟨a, b, c, e⟩ := ok.pl p hp
    refine fit_le (fit_tup (k := 5) (m := 0) fun d hd => ?_) (show (5 + 2) * 2 + 3 ≤ 17 by decide) (by decide)
    rcases List.mem_cons.mp hd with rfl | hd
    · exact fit_int (by omega) b
    · rcases List.mem_cons.mp hd with rfl | hd
      · exact fit_int c e
      · cases hd
  have := ok.few
  rw [List.length_map] at h
  have e : (17 + 2) * cs.length + 3 ≤ 7603 := by omega
  exact fit_le h e (by decide)
theorem shaped_all {α : Type} {dat : α → PyData} (go : ∀ a, (dat a).canLay0 = true) : ∀ l : List α, PyData.canLayAll0 (l.map dat) = true
  | [] => by simp [PyData.canLayAll0]
  | a :: t => by rw [List.map_cons, PyData.canLayAll0, go, shaped_all go t]; rfl
theorem shape_n {ns : List (Nat × Int)} (ok : NOk ns) : SeqAt.shaped (nD ns) = true := by
  have e1 : ∀ l : List (Nat × Int), (∀ p ∈ l, p.1 ≤ 122) → PyData.canLayAll0 (l.map nP) = true := by
    intro l
    induction l with
    | nil => intro _; simp [PyData.canLayAll0]
    | cons p t ih =>
      intro h
      have h1 := h p List.mem_cons_self
      have : PyData.strOk (ch p.1) = true := by
        show (#[p.1] : Array Nat).all (· < 0x110000) = true
        simp
        omega
      simp only [List.map_cons, PyData.canLayAll0, nP, PyData.canLay0, this, ih fun q hq => h q (List.mem_cons_of_mem _ hq), Bool.and_true]
  have e2 := (fit_n ok).dep
  unfold SeqAt.shaped
  rw [Bool.and_eq_true, decide_eq_true_eq]
  refine ⟨?_, by omega⟩
  simp only [nD, PyData.canLay0]
  exact e1 ns fun p hp => (ok.let_ p hp).2
theorem shape_c {cs : List (Int × Int)} (ok : COk cs) : SeqAt.shaped (cD cs) = true := by
  have e2 := (fit_c ok).dep
  unfold SeqAt.shaped
  rw [Bool.and_eq_true, decide_eq_true_eq]
  refine ⟨?_, by omega⟩
  simp only [cD, PyData.canLay0]
  exact shaped_all (dat := cP) (fun a => by simp only [cP, PyData.canLay0, PyData.canLayAll0, Bool.and_true]) cs
theorem valV_none {kvs : List (Key × V)} {k : Key} (h : k ∉ kvs.map (·.1)) : valV kvs k = none := by
  cases e : valV kvs k with
  | none => rfl
  | some v => exact absurd (valV_in e) h
theorem merge_id : ∀ (more kvs : List (Key × V)), ((kvs ++ more).map (·.1)).Nodup → mergeK kvs more = kvs ++ more
  | [], kvs, _ => by simp [mergeK]
  | p :: t, kvs, h => by
    have hn : p.1 ∉ kvs.map (·.1) := by
      rw [List.map_append, List.nodup_append] at h
      exact fun z => h.2.2 _ z _ (List.mem_map_of_mem List.mem_cons_self) rfl
    have e : mergeK kvs (p :: t) = mergeK (putK kvs p.1 p.2) t := rfl
    rw [e, putK_new _ (valV_none hn), merge_id t _ (by simpa using h)]
    simp
theorem nodup_n {ns : List (Nat × Int)} (ok : NOk ns) : ((kN ns).map (·.1)).Nodup := by
  unfold kN
  rw [List.map_map]
  refine List.pairwise_map.mpr ((List.pairwise_map.mp ok.asc).imp fun {p q} h e => ?_)
  simp only [Function.comp, Sum.inr.injEq] at e
  have := congrArg (fun s : Str => s.cps.toList) e
  simp [ch] at this
  omega
theorem nodup_c {cs : List (Int × Int)} (ok : COk cs) : ((kC cs).map (·.1)).Nodup := by
  unfold kC
  rw [List.map_map]
  refine List.pairwise_map.mpr ((List.pairwise_map.mp ok.asc).imp fun {p q} h e => ?_)
  simp only [Function.comp, Sum.inl.injEq] at e
  omega
theorem merge_n {ns : List (Nat × Int)} (ok : NOk ns) : mergeK [] (kN ns) = kN ns := merge_id (kN ns) [] (by simpa using nodup_n ok)
theorem merge_c {cs : List (Int × Int)} (ok : COk cs) : mergeK [] (kC cs) = kC cs := merge_id (kC cs) [] (by simpa using nodup_c ok)
theorem pair_n {K : PySem.W.Frag} {H : Hp} : ∀ {rs : List Addr} {ns : List (Nat × Int)}, Paired (fun b (p : V × V) => SqT K H b [p.1, p.2]) rs (ns.map nV) → Paired (fun p (kv : Key × V) => SqT K H p [kV kv.1, kv.2]) rs (kN ns)
  | [], [], _ => .nil
  | _ :: _, _ :: _, .cons h t => .cons h (pair_n t)
theorem pair_c {K : PySem.W.Frag} {H : Hp} : ∀ {rs : List Addr} {cs : List (Int × Int)}, Paired (fun b (p : V × V) => SqT K H b [p.1, p.2]) rs (cs.map cV) → Paired (fun p (kv : Key × V) => SqT K H p [kV kv.1, kv.2]) rs (kC cs)
  | [], [], _ => .nil
  | _ :: _, _ :: _, .cons h t => .cons h (pair_c t)
/-- a dict of the seconds of pairs, all with the value true -/
theorem dcP {K : PySem.W.Frag} {rs : List Addr} {ls : List (V × V)} {gs : List Int} {te : TE} {g : TG} {tk tv : TE} {vs : List Nat} {σ : L2.St} {H : Hp} {Q : VK}
    (hte : ∀ R : VK, (∀ a H1, Same H H1 → PT H1 a (rs.map V.ref) → R (.ref a) H1) → te σ H R)
    (hp : Paired (fun b (p : V × V) => SqT K H b [p.1, p.2]) rs ls) (hg : ls.map (·.2) = gs.map V.int) (hz : ls.length ≤ 1000)
    (hs : ∀ (b : Addr) (p : V × V) (i : Int) H' (R : V → V → Hp → Prop), Same H H' → SqT K H' b [p.1, V.int i] → R (.int i) (.bl true) H' → g (.ref b) (wipe σ vs) H' fun σ2 H2 => wipe σ2 vs = wipe σ vs ∧ tk σ2 H2 fun y H4 => tv σ2 H4 fun z H5 => R y z H5)
    (hd : ∀ H' D kvs, Same H H' → H D = none → H' D = some (.dK kvs) → (∀ j : Int, (valV kvs (Sum.inl j : Key)).isSome = decide (j ∈ gs)) → Q (.ref D) H') : tDc (iTup K te) g tYes tk tv vs σ H Q := by
  refine hte _ fun a H1 sm hT => ⟨a, rfl, ⟨_, hT.sq⟩, fun D hD => ?_⟩
  have hp1 := Paired.imm (.of sm) hp
  have hl : rs.length = ls.length := Paired.len hp
  have hgl : ls.length = gs.length := by simpa using congrArg List.length hg
  have hDn : H D = none := by
    cases e : H D with
    | none => rfl
    | some o => rw [sm _ _ e] at hD; cases hD
  refine dc_tup (xs := rs.map V.ref) (fun i H' => Same H1 H' ∧ ∃ kvs : List (Key × V), H' D = some (.dK kvs) ∧ kvs.length ≤ i ∧ ∀ j : Int, (valV kvs (Sum.inl j : Key)).isSome = decide (j ∈ gs.take i)) ⟨same_new hD, [], upd_same, Nat.le_refl _, fun j => by simp [valV_nil]⟩
    (fun i H _ h => (PT.same h.1 hT).sq) (fun i x H' hx h => ?_) (fun H' h => ?_)
  · obtain ⟨s2, kvs, hk, kl, hv⟩ := h
    obtain ⟨b, p, rfl, e1, e2, hq⟩ := pairs_at (Paired.imm (.of s2) hp1) hx
    have hi : i < ls.length := (List.getElem?_eq_some_iff.mp e2).1
    have e3 : (gs.map V.int)[i]? = some p.2 := by rw [← hg, List.getElem?_map, e2]; rfl
    obtain ⟨z, e4, e5⟩ := map_at e3
    rw [e5] at hq
    refine hs b p z H' (fun y z2 H5 => ∃ kvs k, y = kV k ∧ H5 D = some (.dK kvs) ∧ kvs.length < sizeLine ∧ (Same H1 (upd H5 D (.dK (putK kvs k z2))) ∧ ∃ kvs' : List (Key × V), upd H5 D (.dK (putK kvs k z2)) D = some (.dK kvs') ∧ kvs'.length ≤ i + 1 ∧ ∀ j : Int, (valV kvs' (Sum.inl j : Key)).isSome = decide (j ∈ gs.take (i + 1)))) (sm.trans s2) hq
      ⟨kvs, Sum.inl z, rfl, hk, ?_, fun c o e => ?_, _, upd_same, ?_, fun j => ?_⟩
    · exact small1000 (by omega)
    · have nb : c ≠ D := ne_of_none e hD
      rw [upd_ne nb]
      exact s2 _ _ e
    · exact Nat.le_trans (length_putK _ _ _) (by omega)
    · rw [valV_put, List.take_add_one, e4]
      by_cases ej : j = z
      · subst ej
        rw [if_pos rfl]
        simp
      · rw [if_neg (fun q => ej (Sum.inl.inj q)), hv]
        simp [ej]
  · obtain ⟨s2, kvs, hk, _, hv⟩ := h
    rw [List.length_map, hl, hgl, List.take_length] at hv
    exact hd H' D kvs (sm.trans s2) hDn hk hv
/-- t + u, a tuple behind it -/
theorem cat_pt {K : PySem.W.Frag} {H : Hp} {a b : Addr} {xs ys : List V} {R : VK} (ha : PT H a xs) (hb : PT H b ys) (hz : xs.length + ys.length ≤ 10000) (k : ∀ t H1, Same H H1 → PT H1 t (xs ++ ys) → R (.ref t) H1) : rCatP K (.ref a) (.ref b) H R := by
  refine ⟨a, b, xs, ys, rfl, rfl, ha.sq, hb.sq, sl_le (by omega), fun e => k b H (fun _ _ h => h) (by subst e; exact hb), fun _ e => k a H (fun _ _ h => h) (by subst e; rw [List.append_nil]; exact ha), fun _ _ p o hn ho => k p _ (same_new hn) (PT.new ho)⟩
end K1
/-! Comprehensions that make pairs; the signs of a store's text. -/
namespace K1
open PySem PySem.Spec L2 Z
theorem lcMk {α : Type} {K : PySem.W.Frag} {ls : List α} {te : TE} {g : TG} {tel : TE} {vs : List Nat} {σ : L2.St} {H : Hp} {Q : VK} (wd : α → V) (G : α → V × V → Prop) (Pre : Addr → Hp → Prop)
    (hte : ∀ R : VK, (∀ l H1, Pre l H1 → R (.ref l) H1) → te σ H R) (hz : ls.length ≤ 1000) (hq : ∀ l H1, Pre l H1 → ∃ xs, SqL K H1 l xs)
    (hb : ∀ l H1 D, Pre l H1 → H1 D = none → ∃ Iv : Hp → Prop, Iv H1 ∧ (∀ H' o, Iv H' → Iv (upd H' D o)) ∧ (∀ H', Iv H' → SqL K H' l (ls.map wd)) ∧
      (∀ p H' acc (R : V → Hp → Prop), p ∈ ls → Iv H' → H' D = some (.lst acc) → (∀ b q H'', Iv H'' → Imm H' H'' → H'' D = some (.lst acc) → G p q → SqT K H'' b [q.1, q.2] → R (.ref b) H'') →
        g (wd p) (wipe σ vs) H' fun σ2 H2 => wipe σ2 vs = wipe σ vs ∧ tel σ2 H2 R) ∧
      (∀ H' bs qs, Iv H' → H' D = some (.lst (bs.map V.ref)) → Paired (fun b (p : V × V) => SqT K H' b [p.1, p.2]) bs qs → Paired G ls qs → Q (.ref D) H')) : tLc (iList K te) g tYes tel vs σ H Q := by
  refine hte _ fun l H1 pre => ?_
  refine ⟨l, rfl, hq _ _ pre, fun D hD => ?_⟩
  obtain ⟨Iv, i0, iu, il, ih, id⟩ := hb l H1 D pre hD
  refine lc_it (n := ls.length) (fun i H' => Iv H' ∧ ∃ (bs : List Addr) (qs : List (V × V)), bs.length = i ∧ H' D = some (.lst (bs.map V.ref)) ∧ Paired (fun b (p : V × V) => SqT K H' b [p.1, p.2]) bs qs ∧ Paired G (ls.take i) qs)
    ⟨iu _ _ i0, [], [], rfl, upd_same, .nil, .nil⟩ (fun i H' hi h => ⟨ls.map wd, (ls.map wd)[i]'(by simpa using hi), il _ h.1, List.getElem?_eq_getElem _⟩) (fun H' h => ⟨ls.map wd, il _ h.1, by simp⟩) (fun i x H' H2 hi h y => ?_) (fun H' h => ?_)
  · obtain ⟨iv, bs, qs, hl, hk, hp, hg⟩ := h
    obtain ⟨rfl, y⟩ := y
    obtain ⟨p, e1, rfl⟩ := map_at (y _ (il _ iv))
    refine ih p H2 (bs.map V.ref) _ (List.mem_of_getElem? e1) iv hk fun b q H3 iv3 im hk3 gq hq => ?_
    refine ⟨_, hk3, ?_, iu _ _ iv3, bs ++ [b], qs ++ [q], by simp [hl], ?_, ?_, ?_⟩
    · rw [List.length_map]
      exact small1000 (by omega)
    · rw [upd_same, List.map_append]
      rfl
    · have i4 : Imm H3 (upd H3 D (.lst (bs.map V.ref ++ [.ref b]))) := Chg.imm Chg.upd hk3 trivial
      exact Paired.snoc (F := fun b (p : V × V) => SqT K _ b [p.1, p.2]) (x := b) (y := q) (SqT.imm i4 hq) (Paired.imm (im.trans i4) hp)
    · rw [List.take_add_one, e1]
      exact Paired.snoc gq hg
  · obtain ⟨iv, bs, qs, hl, hk, hp, hg⟩ := h
    rw [List.take_length] at hg
    exact id H' bs qs iv hk hp hg
theorem paired_map {α β : Type} {f : α → β} : ∀ {ls : List α} {qs : List β}, Paired (fun p q => q = f p) ls qs → qs = ls.map f
  | _, _, .nil => rfl
  | _, _, .cons h t => by rw [h, paired_map t]; rfl
theorem mem_glue {S : List Nat} {c : Nat} : ∀ {l : List (List Nat)}, c ∈ TL.joinL S l → c ∈ S ∨ ∃ p ∈ l, c ∈ p
  | [], h => by simp [TL.joinL] at h
  | [y], h => .inr ⟨y, List.mem_cons_self, h⟩
  | y :: z :: t, h => by
    simp only [TL.joinL, List.mem_append] at h
    rcases h with h | h | h
    · exact .inr ⟨y, List.mem_cons_self, h⟩
    · exact .inl h
    · rcases mem_glue (l := z :: t) h with h | ⟨p, hp, hc⟩
      · exact .inl h
      · exact .inr ⟨p, List.mem_cons_of_mem _ hp, hc⟩
theorem eq_tl : TL.tl (Str.ofString "=") = [61] := by decide +kernel
theorem gt_tl : TL.tl (Str.ofString ">") = [62] := by decide +kernel
theorem sp_tl : TL.tl sp1 = [32] := by decide +kernel
theorem bar_tl : TL.tl (Str.ofString " | ") = [32, 124, 32] := by decide +kernel
theorem none_tl : TL.tl (Str.ofString "none") = [110, 111, 110, 101] := by decide +kernel
theorem ch_tl (c : Nat) : TL.tl (ch c) = [c] := rfl
theorem nameW_mem {p : Nat × Int} (l1 : 97 ≤ p.1) (l2 : p.1 ≤ 122) (h : 0 ≤ p.2) {c : Nat} (hc : c ∈ TL.tl (nameW p)) : 48 ≤ c ∧ c ≤ 122 := by
  unfold nameW at hc
  rw [TL.tl_append, TL.tl_append, List.mem_append, List.mem_append, ch_tl, eq_tl] at hc
  rcases hc with (hc | hc) | hc
  · have := List.mem_singleton.mp hc
    omega
  · have := List.mem_singleton.mp hc
    omega
  · have := num_dig h c hc
    omega
theorem cellW_mem {p : Int × Int} (h : 0 ≤ p.1) (h2 : 0 ≤ p.2) {c : Nat} (hc : c ∈ TL.tl (cellW p)) : 48 ≤ c ∧ c ≤ 62 := by
  unfold cellW at hc
  rw [TL.tl_append, TL.tl_append, List.mem_append, List.mem_append, gt_tl] at hc
  rcases hc with (hc | hc) | hc
  · have := num_dig h c hc
    omega
  · have := List.mem_singleton.mp hc
    omega
  · have := num_dig h2 c hc
    omega
theorem nTxt_mem {ns : List (Nat × Int)} (ok : NOk ns) {c : Nat} (hc : c ∈ TL.tl (nTxt ns)) : c ≤ 122 := by
  unfold nTxt at hc
  rw [tl_glue, sp_tl] at hc
  rcases mem_glue hc with h | ⟨q, hq, h⟩
  · have := List.mem_singleton.mp h
    omega
  · obtain ⟨r, hr, rfl⟩ := List.mem_map.mp hq
    obtain ⟨p, hp, rfl⟩ := List.mem_map.mp hr
    exact (nameW_mem (ok.let_ p hp).1 (ok.let_ p hp).2 (ok.pl p hp).1 h).2
theorem cJ_mem {cs : List (Int × Int)} (ok : COk cs) {c : Nat} (hc : c ∈ TL.tl (Txt.join sp1 (cs.map cellW))) : c ≤ 62 := by
  rw [tl_glue, sp_tl] at hc
  rcases mem_glue hc with h | ⟨q, hq, h⟩
  · have := List.mem_singleton.mp h
    omega
  · obtain ⟨r, hr, rfl⟩ := List.mem_map.mp hq
    obtain ⟨p, hp, rfl⟩ := List.mem_map.mp hr
    obtain ⟨a, b, d, e⟩ := ok.pl p hp
    exact (cellW_mem (by omega) d h).2
theorem cTxt_mem {cs : List (Int × Int)} (ok : COk cs) {c : Nat} (hc : c ∈ TL.tl (cTxt cs)) : c ≤ 122 := by
  unfold cTxt at hc
  split at hc
  · rw [none_tl] at hc
    simp only [List.mem_cons, List.not_mem_nil, or_false] at hc
    omega
  · have := cJ_mem ok hc
    omega
theorem stTxt_mem {ns : List (Nat × Int)} {cs : List (Int × Int)} (ok : NOk ns) (ck : COk cs) {c : Nat} (hc : c ∈ TL.tl (stTxt ns cs)) : c < 16 ^ 8 := by
  unfold stTxt at hc
  rw [TL.tl_append, TL.tl_append, List.mem_append, List.mem_append, bar_tl] at hc
  refine Nat.lt_of_le_of_lt (m := 124) ?_ (by decide)
  rcases hc with (hc | hc) | hc
  · have := nTxt_mem ok hc
    omega
  · simp only [List.mem_cons, List.not_mem_nil, or_false] at hc
    omega
  · have := cTxt_mem ck hc
    omega
theorem no_bar {l : List Nat} {i : Nat} (h : l[i + 1]? ≠ some 124) : TL.pre [32, 124, 32] (l.drop i) = false := by
  cases e : TL.pre [32, 124, 32] (l.drop i) with
  | false => rfl
  | true =>
    exfalso
    unfold TL.pre at e
    have e2 := eq_of_beq e
    have : ((l.drop i).take 3)[1]? = some 124 := by
      have e3 : ([32, 124, 32] : List Nat).length = 3 := rfl
      rw [e3] at e2
      rw [e2]
      rfl
    rw [List.getElem?_take, if_pos (by decide), List.getElem?_drop] at this
    exact h this
theorem split_st {ns : List (Nat × Int)} {cs : List (Int × Int)} (ok : NOk ns) (ck : COk cs) : Txt.split (stTxt ns cs) (Str.ofString " | ") = [nTxt ns, cTxt cs] := by
  apply TL.map_tl_inj
  have hne : TL.tl (Str.ofString " | ") ≠ [] := by rw [bar_tl]; simp
  rw [TL.split_spl _ _ hne (TL.kind_ok (by decide +kernel))]
  unfold stTxt
  rw [TL.tl_append, TL.tl_append, bar_tl, List.append_assoc]
  rw [TL.spl_part (by simp) (fun i hi => ?_), TL.spl_last (fun i hi => ?_)]
  · rfl
  · refine no_bar fun z => ?_
    have := cTxt_mem ck (List.mem_of_getElem? z)
    omega
  · refine no_bar fun z => ?_
    by_cases hj : i + 1 < (TL.tl (nTxt ns)).length
    · rw [List.getElem?_append_left hj] at z
      have := nTxt_mem ok (List.mem_of_getElem? z)
      omega
    · have e : i + 1 = (TL.tl (nTxt ns)).length := by omega
      rw [List.getElem?_append_right (by omega), e, Nat.sub_self] at z
      simp at z
theorem split_n {ns : List (Nat × Int)} (ok : NOk ns) : Txt.split (nTxt ns) (Str.ofString " ") = ns.map nameW := by
  refine TL.split_join (s := 32) (S := []) sp_tl (by decide +kernel) ?_ ?_
  · intro z
    have := ok.one
    rw [List.map_eq_nil_iff] at z
    subst z
    simp at this
  · intro q hq h
    obtain ⟨p, hp, rfl⟩ := List.mem_map.mp hq
    have := nameW_mem (ok.let_ p hp).1 (ok.let_ p hp).2 (ok.pl p hp).1 h
    omega
theorem split_c {cs : List (Int × Int)} (ck : COk cs) (h : cs ≠ []) : Txt.split (cTxt cs) (Str.ofString " ") = cs.map cellW := by
  unfold cTxt
  rw [if_neg h]
  refine TL.split_join (s := 32) (S := []) sp_tl (by decide +kernel) (by simpa using h) ?_
  intro q hq h
  obtain ⟨p, hp, rfl⟩ := List.mem_map.mp hq
  obtain ⟨a, b, d, e⟩ := ck.pl p hp
  have := cellW_mem (by omega) d h
  omega
theorem none_iff {cs : List (Int × Int)} (ck : COk cs) : decide (V.str (cTxt cs) = V.str (Str.ofString "none")) = decide (cs = []) := by
  by_cases h : cs = []
  · rw [decide_eq_true h]
    exact decide_eq_true (by unfold cTxt; rw [if_pos h])
  · rw [decide_eq_false h]
    refine str_ne fun e => ?_
    unfold cTxt at e
    rw [if_neg h] at e
    have := cJ_mem ck (c := 110) (by rw [e, none_tl]; simp)
    omega
theorem SqL_same {K : PySem.W.Frag} {H H' : Hp} {a : Addr} {xs : List V} (e : Same H H') (h : SqL K H a xs) : SqL K H' a xs := by
  rcases h with (h | ⟨o, h⟩) | h
  · exact .inl (.inl (e _ _ h))
  · exact .inl (.inr ⟨o, e _ _ h⟩)
  · exact .inr h
theorem at_third {α : Type} {xs : List α} {x y z : α} : atI (x :: y :: z :: xs) 2 = some z := at_nat (i := 2) rfl
theorem fm_range {i m : Int} (h : 0 < m) : 0 ≤ i.fmod m ∧ i.fmod m < m := ⟨Int.fmod_nonneg_of_pos i h, Int.fmod_lt_of_pos i h⟩
theorem op_notIn_seqK {X : Cx} {K : PySem.W.Frag} (h : X.K = K) : OpR X (compareOp .NotIn) (rIn K true) := h ▸ op_notIn_seq
theorem cut_mem {xs : List V} {lo hi : Option Int} {x : V} (h : x ∈ cutV xs lo hi) : x ∈ xs := List.mem_of_mem_drop (List.mem_of_mem_take h)
theorem JugAt.of {H : Hp} {j : Addr} {g s c : Int} (h : H j = some (.lst [.int g, .int s, .int c])) (a : -(2 ^ 64) < s) (b : s < 2 ^ 64) : JugAt H j := ⟨g, s, c, h, a, b⟩
theorem at_of {α : Type} {xs : List α} {k : Int} (h : 0 ≤ k) (h2 : k < xs.length) : ∃ x, x ∈ xs ∧ atI xs k = some x := by
  have hk : k.toNat < xs.length := by omega
  refine ⟨xs[k.toNat], List.getElem_mem _, ?_⟩
  have e := at_nat (xs := xs) (i := k.toNat) (List.getElem?_eq_getElem hk)
  rw [Int.toNat_of_nonneg h] at e
  exact e
end K1
/-! Letters: drawn, kept apart, in order. -/
namespace K1
open PySem PySem.Spec PyProof.Rows L2 Z
theorem nz1 : (1000000007 : Int) ≠ 0 := by decide
theorem nz2 : (2147483399 : Int) ≠ 0 := by decide
theorem nz3 : (2147483563 : Int) ≠ 0 := by decide
def cS (c : Nat) : V := .str (ch c)
theorem inV_ch (c : Nat) : ∀ cs : List Nat, inV (cS c) (cs.map cS) = decide (c ∈ cs)
  | [] => by simp [inV]
  | a :: t => by
    have ih := inV_ch c t
    unfold inV at ih ⊢
    rw [List.map_cons, List.any_cons, ih]
    have : eqV (cS a) (cS c) = decide (a = c) := ch_inj
    rw [this, Bool.eq_iff_iff, Bool.or_eq_true, decide_eq_true_eq, decide_eq_true_eq, decide_eq_true_eq, List.mem_cons]
    exact ⟨fun h => h.imp Eq.symm id, fun h => h.imp Eq.symm id⟩
theorem flat_ch (cs : List Nat) : (cs.map cS).all flatV = true := by
  rw [List.all_map, List.all_eq_true]
  intro c _
  rfl
theorem lcF {K : PySem.W.Frag} {a0 a1 a3 a4 a5 a6 : Option V} {H : Hp} {Q : VK} {w : Str} {cs : List Nat} {p : Addr} (hp : H p = some (.lst (cs.map cS))) (hw : w.cps.size ≤ 100)
    (hd : ∀ H' D, Same H H' → H D = none → H' D = some (.lst ((w.cps.toList.filter fun c => !decide (c ∈ cs)).map cS)) → Q (.ref D) H') :
    tLc (iStr (tC (.str w))) (gName 6) (tTest (tOp (rIn K true) (tVar 6) (tVar 2))) (tVar 6) [6] [a0, a1, some (.ref p), a3, a4, a5, a6] H Q := by
  refine ⟨w, rfl, fun D hD => ?_⟩
  refine lc_it (n := w.cps.size) (fun i H' => Same H H' ∧ H' D = some (.lst (((w.cps.toList.take i).filter fun c => !decide (c ∈ cs)).map cS))) ⟨same_new hD, upd_same⟩ (fun i H' hi _ => hi) (fun H' _ => Nat.le_refl _) (fun i x H' H2 hi h y => ?_) (fun H' h => ?_)
  · obtain ⟨sm, hk⟩ := h
    obtain ⟨rfl, c, hc, rfl⟩ := y
    have hc2 : w.cps.toList[i]? = some c := by rw [Array.getElem?_toList]; exact hc
    refine ⟨rfl, _, rfl, _, rfl, p, _, rfl, .inl (.inl (.inl (sm _ _ hp))), rfl, flat_ch cs, _, rfl, ?_⟩
    show if (!inV (cS c) (cs.map cS)) = true then _ else _
    rw [inV_ch]
    by_cases hm : c ∈ cs
    · rw [decide_eq_true hm]
      refine iteF ⟨sm, ?_⟩
      rw [hk, List.take_add_one, hc2, List.filter_append]
      simp [hm]
    · rw [decide_eq_false hm]
      refine iteT ⟨_, rfl, _, hk, ?_, fun b o e => ?_, ?_⟩
      · rw [List.length_map]
        refine small1000 ?_
        have h1 := List.length_filter_le (fun c => !decide (c ∈ cs)) (w.cps.toList.take i)
        rw [List.length_take] at h1
        omega
      · rw [upd_ne (ne_of_none e hD)]
        exact sm _ _ e
      · rw [upd_same, List.take_add_one, hc2, List.filter_append, List.map_append]
        simp [hm]
        rfl
  · refine hd H' D h.1 hD ?_
    have := h.2
    rw [← Array.length_toList, List.take_length] at this
    exact this
theorem nodup_len : ∀ {S cs : List Nat}, S.Nodup → (∀ c ∈ S, c ∈ cs) → S.length ≤ cs.length
  | [], _, _, _ => Nat.zero_le _
  | a :: t, cs, hS, h => by
    obtain ⟨h1, h2⟩ := List.nodup_cons.mp hS
    have ha := h a List.mem_cons_self
    have := nodup_len (S := t) (cs := cs.erase a) h2 fun c hc => (List.mem_erase_of_ne (fun z : c = a => h1 (z ▸ hc))).mpr (h c (List.mem_cons_of_mem _ hc))
    rw [List.length_erase_of_mem ha] at this
    have := List.length_pos_of_mem ha
    rw [List.length_cons]
    omega
theorem left_pos {S cs : List Nat} (hS : S.Nodup) (h : cs.length < S.length) : S.filter (fun c => !decide (c ∈ cs)) ≠ [] := fun e => by
  have sub : ∀ c ∈ S, c ∈ cs := fun c hc => by
    have := List.filter_eq_nil_iff.mp e c hc
    simpa using this
  have := nodup_len hS sub
  omega
theorem rising_le : ∀ (l : List Nat) (a : Nat), risingS (ch a) (l.map ch) = true → (a :: l).Pairwise (· ≤ ·)
  | [], a, _ => by simp
  | b :: t, a, h => by
    have hb : ltCps [b] [a] = false ∧ risingS (ch b) (t.map ch) = true := by
      have h' : (!ltCps [b] [a] && risingS (ch b) (t.map ch)) = true := h
      rw [Bool.and_eq_true, Bool.not_eq_true'] at h'
      exact h'
    have ih := rising_le t b hb.2
    have hab : a ≤ b := by
      by_cases z : b < a
      · have := hb.1
        simp [ltCps, z] at this
      · omega
    refine List.pairwise_cons.mpr ⟨fun c hc => ?_, ih⟩
    rcases List.mem_cons.mp hc with rfl | hc
    · exact hab
    · exact Nat.le_trans hab (List.rel_of_pairwise_cons ih hc)
theorem sorted_ch {ys : List Str} {cs : List Nat} (hp : ys.Perm (cs.map ch)) (hs : sortedS ys = true) (nd : cs.Nodup) : ∃ l : List Nat, ys = l.map ch ∧ l.Perm cs ∧ l.Pairwise (· < ·) := by
  let hd : Str → Nat := fun s => s.cps.toList.headD 0
  have e1 : ∀ y ∈ ys, ch (hd y) = y := fun y hy => by
    obtain ⟨c, _, rfl⟩ := List.mem_map.mp (hp.mem_iff.mp hy)
    rfl
  have e2 : ys = (ys.map hd).map ch := by
    rw [List.map_map]
    conv => lhs; rw [← List.map_id ys]
    exact (List.map_congr_left fun y hy => (e1 y hy).symm)
  have e3 : (ys.map hd).Perm cs := by
    have := hp.map hd
    rw [List.map_map] at this
    have e : hd ∘ ch = id := rfl
    rw [e, List.map_id] at this
    exact this
  have nd2 : (ys.map hd).Nodup := e3.nodup_iff.mpr nd
  refine ⟨ys.map hd, e2, e3, ?_⟩
  have le : (ys.map hd).Pairwise (· ≤ ·) := by
    generalize hq : ys.map hd = l at e2
    subst e2
    cases l with
    | nil => exact .nil
    | cons a t => exact rising_le t a hs
  exact (List.pairwise_and_iff.mpr ⟨le, nd2⟩).imp fun {a b} h => Nat.lt_of_le_of_ne h.1 h.2
theorem JugAt.same {H H' : Hp} {j : Addr} (e : Same H H') (h : JugAt H j) : JugAt H' j := by
  obtain ⟨g, s, c, q, a, b⟩ := h
  exact ⟨g, s, c, e _ _ q, a, b⟩
theorem jug_upd {H : Hp} {j p : Addr} {o : HO} (n : p ≠ j) (h : JugAt H j) : JugAt (upd H p o) j := by
  obtain ⟨g, s, c, q, a, b⟩ := h
  exact ⟨g, s, c, by rw [upd_ne (Ne.symm n)]; exact q, a, b⟩
theorem JugAt.ne {H : Hp} {j p : Addr} (h : JugAt H j) (hp : H p = none) : p ≠ j := by
  obtain ⟨g, s, c, q, a, b⟩ := h
  exact fun z => by rw [z, q] at hp; cases hp
theorem JugAt.neL {H : Hp} {j p : Addr} {o : HO} (h : JugAt H j) (hp : H p = some o) (n : ∀ l, o ≠ .lst l) : p ≠ j := by
  obtain ⟨g, s, c, q, a, b⟩ := h
  exact fun z => by
    rw [z, q] at hp
    exact n _ (Option.some.inj hp).symm
theorem chg_new {j p : Addr} {H H' : Hp} {o : HO} (c : Chg j H H') (hp : H p = none) : Chg j H (upd H' p o) := fun b x e n => by
  rw [upd_ne (ne_of_none e hp)]
  exact c b x e n
theorem none_chg {j p : Addr} {H H' : Hp} (c : Chg j H H') (hj : JugAt H' j) (hp : H' p = none) : H p = none := by
  cases e : H p with
  | none => rfl
  | some o => rw [c p o e (hj.ne hp)] at hp; cases hp
theorem near_let : ∀ c ∈ (Str.ofString "xyzuvw").cps.toList, 97 ≤ c ∧ c ≤ 122 := by
  have e : (Str.ofString "xyzuvw").cps.toList = [120, 121, 122, 117, 118, 119] := by decide +kernel
  rw [e]
  decide
theorem all_let : ∀ c ∈ (Str.ofString "abcdefghijklmnopqrstuvwxyz").cps.toList, 97 ≤ c ∧ c ≤ 122 := by
  have e : (Str.ofString "abcdefghijklmnopqrstuvwxyz").cps.toList = (List.range 26).map (· + 97) := by decide +kernel
  rw [e]
  decide
theorem near_n : (Str.ofString "xyzuvw").cps.toList.length = 6 := by decide +kernel
theorem all_n : (Str.ofString "abcdefghijklmnopqrstuvwxyz").cps.toList.length = 26 := by decide +kernel
theorem chg_imm {j : Addr} {H H' : Hp} (c : Chg j H H') (h : JugAt H j) : Imm H H' := by
  obtain ⟨g, s, n, q, _, _⟩ := h
  exact c.imm q trivial
theorem ints_mem {xs : List Int} {x : V} (h : x ∈ xs.map V.int) : ∃ i, x = .int i ∧ i ∈ xs := by
  obtain ⟨i, hi, rfl⟩ := List.mem_map.mp h
  exact ⟨i, rfl, hi⟩
theorem sl_pt {K : PySem.W.Frag} {H : Hp} {a : Addr} {xs : List V} {lo hi : Option Int} {Q : VK} (h : PT H a xs) (k : ∀ t H1, Same H H1 → PT H1 t (cutV xs lo hi) → Q (.ref t) H1) : rSlP K (.ref a) lo hi H Q := by
  refine ⟨a, xs, rfl, h.sq, fun e => k a H (fun _ _ h => h) ?_, fun _ p o hp ho => k p _ (same_new hp) (PT.new ho)⟩
  have : cutV xs lo hi = xs := by
    unfold cutV
    rw [e.1, e.2, List.drop_zero, Nat.sub_zero, List.take_length]
  rw [this]
  exact h
theorem cut_take {xs : List V} {i : Nat} (h : i ≤ xs.length) : cutV xs none (some (i : Int)) = xs.take i := by
  unfold cutV
  rw [HT.sIx_nat]
  show (xs.drop 0).take (min i xs.length - 0) = xs.take i
  rw [List.drop_zero, Nat.min_eq_left h, Nat.sub_zero]
theorem cut_drop {xs : List V} {i : Nat} (h : i < xs.length) : cutV xs (some ((i : Int) + 1)) none = xs.drop (i + 1) := by
  have e : ((i : Int) + 1) = ((i + 1 : Nat) : Int) := by omega
  unfold cutV
  rw [e, HT.sIx_nat]
  show (xs.drop (min (i + 1) xs.length)).take (xs.length - min (i + 1) xs.length) = xs.drop (i + 1)
  rw [Nat.min_eq_left (by omega), List.take_of_length_le (by rw [List.length_drop]; exact Nat.le_refl _)]
theorem set_fst {α β : Type} {g : β} : ∀ {l : List (α × β)} {i : Nat} {q : α × β}, l[i]? = some q → (l.set i (q.1, g)).map (·.1) = l.map (·.1)
  | [], _, _, h => by simp at h
  | x :: t, 0, q, h => by
    simp at h
    subst h
    rfl
  | x :: t, i + 1, q, h => by
    rw [List.set_cons_succ, List.map_cons, List.map_cons, set_fst (by simpa using h)]
theorem Paired.take {α β : Type} {F : α → β → Prop} : ∀ (i : Nat) {l : List α} {m : List β}, Paired F l m → Paired F (l.take i) (m.take i)
  | 0, _, _, _ => .nil
  | _ + 1, _, _, .nil => .nil
  | i + 1, _, _, .cons h t => .cons h (Paired.take i t)
theorem Paired.drop {α β : Type} {F : α → β → Prop} : ∀ (i : Nat) {l : List α} {m : List β}, Paired F l m → Paired F (l.drop i) (m.drop i)
  | 0, _, _, h => h
  | _ + 1, _, _, .nil => .nil
  | i + 1, _, _, .cons _ t => Paired.drop i t
theorem nok_set {ns : List (Nat × Int)} {i : Nat} {q : Nat × Int} {g : Int} (ok : NOk ns) (h : ns[i]? = some q) (h0 : 0 ≤ g) (h9 : g ≤ 999) : NOk (ns.set i (q.1, g)) := by
  have hq := List.mem_of_getElem? h
  refine ⟨by rw [List.length_set]; exact ok.one, by rw [List.length_set]; exact ok.four, fun p hp => ?_, fun p hp => ?_, by rw [set_fst h]; exact ok.asc⟩
  · rcases List.mem_or_eq_of_mem_set hp with z | rfl
    · exact ok.let_ p z
    · exact ok.let_ q hq
  · rcases List.mem_or_eq_of_mem_set hp with z | rfl
    · exact ok.pl p z
    · exact ⟨h0, h9⟩
theorem cok_set {cs : List (Int × Int)} {i : Nat} {q : Int × Int} {g : Int} (ok : COk cs) (h : cs[i]? = some q) (h0 : 0 ≤ g) (h9 : g ≤ 999) : COk (cs.set i (q.1, g)) := by
  have hq := List.mem_of_getElem? h
  refine ⟨by rw [List.length_set]; exact ok.few, fun p hp => ?_, by rw [set_fst h]; exact ok.asc⟩
  rcases List.mem_or_eq_of_mem_set hp with z | rfl
  · exact ok.pl p z
  · obtain ⟨a, b, _, _⟩ := ok.pl q hq
    exact ⟨a, b, h0, h9⟩
/-- a tuple of pairs with the i-th pair changed -/
theorem tp_set {K : PySem.W.Frag} {H : Hp} {t b : Addr} {rs : List Addr} {ls : List (V × V)} {i : Nat} {x : V × V} (hi : i < ls.length) (ht : PT H t ((rs.map V.ref).take i ++ [V.ref b] ++ (rs.map V.ref).drop (i + 1)))
    (hp : Paired (fun b (p : V × V) => SqT K H b [p.1, p.2]) rs ls) (hb : SqT K H b [x.1, x.2]) : TP K H (.ref t) (ls.set i x) := by
  refine ⟨t, rs.take i ++ [b] ++ rs.drop (i + 1), rfl, by rw [List.map_append, List.map_append, List.map_take, List.map_drop]; exact ht, ?_⟩
  rw [List.set_eq_take_append_cons_drop, if_pos hi]
  have e : ls.take i ++ x :: ls.drop (i + 1) = (ls.take i ++ [x]) ++ ls.drop (i + 1) := by simp
  rw [e]
  exact Paired.app (Paired.snoc (F := fun b (p : V × V) => SqT K H b [p.1, p.2]) (x := b) (y := x) hb (Paired.take i hp)) (Paired.drop (i + 1) hp)
/-- a tuple of pairs, the second of one pair changed -/
theorem change {K : PySem.W.Frag} {H : Hp} {a : Addr} {rs : List Addr} {ls : List (V × V)} {i v : Nat} {x y : V} {go : Int} {σ : L2.St} {Q : VK} (hv : σ[v]? = some (some (.ref a))) (h4 : σ[4]? = some (some (.int go))) (h5 : σ[5]? = some (some (.int (i : Int))))
    (ht : PT H a (rs.map V.ref)) (hp : Paired (fun b (p : V × V) => SqT K H b [p.1, p.2]) rs ls) (hx : ls[i]? = some (x, y)) (hz : ls.length ≤ 1000) (k : ∀ t H', Same H H' → TP K H' (.ref t) (ls.set i (x, .int go)) → Q (.ref t) H') :
    tOp (rCatP K) (tOp (rCatP K) (tSl (rSlP K) (tVar v) tNoPart (tPart (tVar 5))) (tTupP (tCons (tTup (tCons (tOp (rIxT K) (tOp (rIxT K) (tVar v) (tVar 5)) (tC (.int 0))) (tCons (tVar 4) tNil))) tNil)))
      (tSl (rSlP K) (tVar v) (tPart (tOp (rI0 fun i j => .int (i + j)) (tVar 5) (tC (.int 1)))) tNoPart) σ H Q := by
  have hl : rs.length = ls.length := Paired.len hp
  have hi : i < ls.length := (List.getElem?_eq_some_iff.mp hx).1
  have hlm : (rs.map V.ref).length = ls.length := by rw [List.length_map, hl]
  refine ⟨_, hv, _, h5, i, rfl, ?_⟩
  refine sl_pt ht fun t1 H1 s1 p1 => ?_
  rw [cut_take (by rw [hlm]; omega)] at p1
  have hb : rs[i]? = some (rs[i]'(by omega)) := List.getElem?_eq_getElem _
  obtain ⟨q, e2, hq⟩ := Paired.at (Paired.imm (.of s1) hp) hb
  rw [hx] at e2
  cases e2
  refine ⟨_, hv, _, h5, a, _, (i : Int), _, rfl, rfl, (PT.same s1 ht).sq, at_nat (by rw [List.getElem?_map, hb]; rfl), _, _, 0, _, rfl, rfl, hq, at_first, _, h4, by show 2 ≤ sizeLine; exact sl_le (by decide), fun b hbn => ?_⟩
  have s2 := s1.trans (same_new (o := .tup [x, V.int go]) hbn)
  have b2 : upd H1 b (.tup [x, V.int go]) b = some (.tup [x, V.int go]) := upd_same
  have p2 := PT.same (same_new (o := .tup [x, V.int go]) hbn) p1
  generalize upd H1 b (.tup [x, V.int go]) = H2 at s2 b2 p2 ⊢
  refine ⟨by show 1 ≤ sizeLine; exact sl_le (by decide), fun p3 o3 hp3 ho3 => ?_⟩
  have s3 := same_new (o := .frz o3 (.tup [V.ref b])) hp3
  refine cat_pt (PT.same s3 p2) (PT.new ho3) (by rw [List.length_take]; show min i _ + 1 ≤ 10000; omega) fun t4 H4 s4 p4 => ?_
  have s04 := (s2.trans s3).trans s4
  refine ⟨_, hv, _, h5, _, _, rfl, rfl, _, rfl, ?_⟩
  unfold tNoPart
  dsimp only
  refine sl_pt (PT.same s04 ht) fun t5 H5 s5 p5 => ?_
  rw [cut_drop (by rw [hlm]; exact hi)] at p5
  refine cat_pt (PT.same s5 p4) p5 (by rw [List.length_append, List.length_take, List.length_drop, hlm]; show min i _ + 1 + _ ≤ 10000; omega) fun t6 H6 s6 p6 => ?_
  have s06 := (s04.trans s5).trans s6
  exact k t6 H6 s06 (tp_set hi p6 (Paired.imm (.of s06) hp) (.inl (.inl (s6 _ _ (s5 _ _ (s4 _ _ (s3 _ _ b2)))))))
theorem set_map {α β : Type} {f : α → β} (l : List α) (i : Nat) (a : α) : (l.map f).set i (f a) = (l.set i a).map f := by rw [List.map_set]
theorem ix_tupK {X : Cx} {K : PySem.W.Frag} (h : X.K = K) : IxR X (rIxT K) := h ▸ ix_tup
theorem repr_ok {K : PySem.W.Frag} {H : Hp} {a : Addr} {xs : List V} {ds : List PyData} {k m : Nat} (h : SqL K H a xs) (hd : DpAll K H xs ds) (hf : ∀ d ∈ ds, Fit d k m) (hz : (k + 2) * ds.length + 3 ≤ 16000000) (hm : m ≤ 50) :
    Dp K H (.ref a) (.list ds) ∧ (PyData.list ds).showable = true ∧ (PyData.list ds).hasDict = false ∧ (PyData.list ds).depth ≤ 60 ∧ (PyData.list ds).shown.length ≤ sizeLine := by
  have F := fit_list hf
  have e : (PyData.list ds).shown.length ≤ sizeLine := by
    rw [sizeLine_eq]
    have := F.len
    omega
  exact ⟨.lst h hd, F.ok, F.nod, Nat.le_trans F.dep (by omega), e⟩
theorem lTxt_mem {ns : List (Nat × Int)} (ok : NOk ns) : ∀ c ∈ TL.tl (lTxt ns), c < 16 ^ 8 := fun c hc => by
  unfold lTxt at hc
  rw [tl_glue] at hc
  refine Nat.lt_of_le_of_lt (m := 122) ?_ (by decide)
  rcases mem_glue hc with h | ⟨q, hq, h⟩
  · exact absurd h (by show c ∉ TL.tl Str.empty; intro z; cases z)
  · obtain ⟨r, hr, rfl⟩ := List.mem_map.mp hq
    obtain ⟨p, hp, rfl⟩ := List.mem_map.mp hr
    have := List.mem_singleton.mp h
    rw [this]
    exact (ok.let_ p hp).2
theorem lTxt_len {ns : List (Nat × Int)} (ok : NOk ns) : (lTxt ns).length ≤ 4 := by
  have h := glue_len (k := 1) (y := Str.empty) (l := ns.map fun p => ch p.1) fun y hy => by
    obtain ⟨p, hp, rfl⟩ := List.mem_map.mp hy
    exact Nat.le_refl _
  have e : Str.empty.length = 0 := rfl
  have := ok.four
  rw [List.length_map, e] at h
  unfold lTxt
  omega
theorem stTxt_len {ns : List (Nat × Int)} {cs : List (Int × Int)} (ok : NOk ns) (ck : COk cs) : (stTxt ns cs).length ≤ 3231 := by
  have a := nTxt_len ok
  have b := cTxt_len ck
  unfold stTxt
  rw [len_app, len_app, bar_len]
  omega
def tellD (ns : List (Nat × Int)) (cs : List (Int × Int)) : List PyData := [nD ns, cD cs, .str (lTxt ns), .str (stTxt ns cs)]
theorem fit_tell {ns : List (Nat × Int)} {cs : List (Int × Int)} (ok : NOk ns) (ck : COk cs) : ∀ d ∈ tellD ns cs, Fit d 32312 2 := fun d hd => by
  simp only [tellD, List.mem_cons, List.not_mem_nil, or_false] at hd
  rcases hd with rfl | rfl | rfl | rfl
  · exact fit_le (fit_n ok) (by decide) (by decide)
  · exact fit_le (fit_c ck) (by decide) (by decide)
  · exact fit_le (fit_str (lTxt_mem ok) (lTxt_len ok)) (by decide) (by decide)
  · exact fit_le (fit_str (fun c hc => stTxt_mem ok ck hc) (stTxt_len ok ck)) (by decide) (by decide)
theorem fit_ints {ps : List Int} (h : ∀ i ∈ ps, 0 ≤ i ∧ i ≤ 999) : ∀ d ∈ ps.map PyData.int, Fit d 5 0 := fun d hd => by
  obtain ⟨i, hi, rfl⟩ := List.mem_map.mp hd
  exact fit_int (h i hi).1 (h i hi).2
theorem andV_bl {ta tb : TE} {σ : L2.St} {H : Hp} {Q : VK} {c1 c2 : Bool} (h1 : ∀ R : VK, R (.bl c1) H → ta σ H R) (h2 : ∀ R : VK, R (.bl c2) H → tb σ H R) (q : Q (.bl (c1 && c2)) H) : tAndV ta tb σ H Q :=
  h1 _ ⟨c1, rfl, by
    cases c1 with
    | true => exact iteT (h2 _ q)
    | false => exact iteF q⟩
theorem inV_int (z : Int) : ∀ l : List Int, inV (.int z) (l.map V.int) = decide (z ∈ l)
  | [] => by simp [inV]
  | a :: t => by
    have ih := inV_int z t
    unfold inV at ih ⊢
    rw [List.map_cons, List.any_cons, ih]
    have : eqV (.int a) (.int z) = decide (a = z) := by
      show (a == z) = _
      rw [Bool.eq_iff_iff, beq_iff_eq, decide_eq_true_eq]
    rw [this, Bool.eq_iff_iff, Bool.or_eq_true, decide_eq_true_eq, decide_eq_true_eq, decide_eq_true_eq, List.mem_cons]
    exact ⟨fun h => h.imp Eq.symm id, fun h => h.imp Eq.symm id⟩
theorem flat_int (l : List Int) : (l.map V.int).all flatV = true := by
  rw [List.all_map, List.all_eq_true]
  intro c _
  rfl
def lookD (cs : List (Int × Int)) (i : Int) : PyData := match cs.find? (fun p => decide (p.1 = i)) with
  | some p => .int p.2
  | none => .none
theorem dp_look {K : PySem.W.Frag} {H : Hp} (cs : List (Int × Int)) (i : Int) : Dp K H (lookC cs i) (lookD cs i) := by
  unfold lookC lookD
  cases cs.find? fun p => decide (p.1 = i) with
  | none => exact .non
  | some p => exact .int _
theorem fit_look {cs : List (Int × Int)} (ck : COk cs) (i : Int) : Fit (lookD cs i) 5 0 := by
  unfold lookD
  cases h : cs.find? fun p => decide (p.1 = i) with
  | none => exact fit_non
  | some p =>
    obtain ⟨_, _, a, b⟩ := ck.pl p (List.mem_of_find?_eq_some h)
    exact fit_int a b
theorem scal_look (cs : List (Int × Int)) (i : Int) : scal (lookC cs i) (lookC cs i) = true := by
  unfold lookC
  cases cs.find? fun p => decide (p.1 = i) <;> rfl
theorem St.ins {K : PySem.W.Frag} {C : Addr} {H : Hp} {x : Addr} {ns : List (Nat × Int)} {cs : List (Int × Int)} (h : St K C H x ns cs) :
    ∃ (dx : Addr) (fs : List (Str × V)), H x = some (.ins C dx fs) ∧ fs.lookup (Str.ofString "at") = none ∧ fs.lookup (Str.ofString "arrow") = none ∧ fs.lookup (Str.ofString "is_gone") = none := by
  obtain ⟨v, u, dx, pd, ad, ld, ks, S⟩ := h
  exact ⟨dx, _, S.ob, rfl, rfl, rfl⟩
theorem bl_ne {α : Type} [DecidableEq α] (x : α) : V.bl (!decide (x = x)) = V.bl false := by simp
theorem ne0_eq (z : Int) : (!decide (V.int z = V.int 0)) = !decide (z = 0) := by simp
/-- for over a list that a local holds -/
theorem forL {K : PySem.W.Frag} {v : Nat} {l : Addr} {xs : List V} {g : TG} {tb : TS} {D : Ends} {σ : L2.St} {H : Hp} (Pv : Nat → L2.St → Hp → Prop) (hv : σ[v]? = some (some (.ref l))) (h0 : Pv 0 σ H) (hl : ∀ i σ H, i ≤ xs.length → Pv i σ H → SqL K H l xs)
    (hs : ∀ i x σ H, xs[i]? = some x → Pv i σ H → g x σ H fun σ2 H2 => tb { D with nx := Pv (i + 1), ct := Pv (i + 1), bk := D.nx } σ2 H2) (hd : ∀ σ H, Pv xs.length σ H → D.nx σ H) : tFor (iList K (tVar v)) g tb D σ H :=
  ⟨_, hv, l, rfl, ⟨_, hl 0 _ _ (Nat.zero_le _) h0⟩, for_list Pv h0 hl hs hd⟩
end K1
/-! What stands while one turn of the law runs. -/
namespace K1
open PySem PySem.Spec L2 Z
structure RS (K : PySem.W.Frag) (H0 H : Hp) (j : Addr) (v u : V) (pg : Addr) (ns : List (Nat × Int)) (cs : List (Int × Int)) (gs : List Int) : Prop where
  chg : Chg j H0 H
  jug : JugAt H j
  tn : TP K H v (ns.map nV)
  tc : TP K H u (cs.map cV)
  g : H pg = some (.lst (gs.map V.int))
  npg : pg ≠ j
theorem RS.same {K : PySem.W.Frag} {H0 H H' : Hp} {j pg : Addr} {v u : V} {ns : List (Nat × Int)} {cs : List (Int × Int)} {gs : List Int} (e : Same H H') (r : RS K H0 H j v u pg ns cs gs) : RS K H0 H' j v u pg ns cs gs :=
  ⟨r.chg.trans (Chg.of e), r.jug.same e, TP.imm (.of e) r.tn, TP.imm (.of e) r.tc, e _ _ r.g, r.npg⟩
theorem RS.cj {K : PySem.W.Frag} {H0 H H' : Hp} {j pg : Addr} {v u : V} {ns : List (Nat × Int)} {cs : List (Int × Int)} {gs : List Int} (e : Chg j H H') (hj : JugAt H' j) (r : RS K H0 H j v u pg ns cs gs) : RS K H0 H' j v u pg ns cs gs :=
  ⟨r.chg.trans e, hj, TP.imm (chg_imm e r.jug) r.tn, TP.imm (chg_imm e r.jug) r.tc, e _ _ r.g r.npg, r.npg⟩
theorem St.cj {K : PySem.W.Frag} {C j x : Addr} {H H' : Hp} {ns : List (Nat × Int)} {cs : List (Int × Int)} (e : Chg j H H') (hj : JugAt H j) (h : St K C H x ns cs) : St K C H' x ns cs := by
  obtain ⟨g, s, c, q, _, _⟩ := hj
  exact St.chg e q h
theorem same_mk {C : Addr} {H H' : Hp} {x dx : Addr} (hx : H x = none) (hdx : H dx = none) (hne : dx ≠ x) (c : Chg x (upd (upd H dx (.own x)) x (.ins C dx [])) H') : Same H H' := fun b o e => by
  have n1 : b ≠ x := ne_of_none e hx
  have n2 : b ≠ dx := ne_of_none e hdx
  exact c b o (by rw [upd_ne n1, upd_ne n2]; exact e) n1
theorem same_raw {C : Addr} {H : Hp} {x dx : Addr} (hx : H x = none) (hdx : H dx = none) (hne : dx ≠ x) : Same H (upd (upd H dx (.own x)) x (.ins C dx [])) := fun b o e => by
  have n1 : b ≠ x := ne_of_none e hx
  have n2 : b ≠ dx := ne_of_none e hdx
  rw [upd_ne n1, upd_ne n2]
  exact e
theorem names_of : ∀ {lcs : List Nat} {qs : List (V × V)}, Paired (fun c (q : V × V) => ∃ g : Int, q = (cS c, V.int g) ∧ 0 ≤ g ∧ g ≤ 999) lcs qs →
    ∃ ns : List (Nat × Int), qs = ns.map nV ∧ ns.map (·.1) = lcs ∧ ∀ p ∈ ns, 0 ≤ p.2 ∧ p.2 ≤ 999
  | _, _, .nil => ⟨[], rfl, rfl, by simp⟩
  | c :: _, _, .cons ⟨g, e, h⟩ t => by
    obtain ⟨ns, e1, e2, e3⟩ := names_of t
    refine ⟨(c, g) :: ns, by rw [e, e1]; rfl, by rw [List.map_cons, e2], fun p hp => ?_⟩
    rcases List.mem_cons.mp hp with rfl | hp
    · exact h
    · exact e3 p hp
theorem fit_bls {bs : List Bool} : ∀ d ∈ bs.map PyData.bool, Fit d 5 0 := fun d hd => by
  obtain ⟨b, _, rfl⟩ := List.mem_map.mp hd
  exact fit_bl b
theorem dp_bls {K : PySem.W.Frag} {H : Hp} : ∀ bs : List Bool, DpAll K H (bs.map V.bl) (bs.map PyData.bool)
  | [] => .nil
  | _ :: t => .cons (.bl _) (dp_bls t)
theorem repr_bls {K : PySem.W.Frag} {H : Hp} {a : Addr} (bs : List Bool) (h : H a = some (.lst (bs.map V.bl))) (hz : bs.length ≤ 100) :
    Dp K H (.ref a) (.list (bs.map PyData.bool)) ∧ (PyData.list (bs.map PyData.bool)).showable = true ∧ (PyData.list (bs.map PyData.bool)).hasDict = false ∧ (PyData.list (bs.map PyData.bool)).depth ≤ 60 ∧ (PyData.list (bs.map PyData.bool)).shown.length ≤ sizeLine :=
  repr_ok (.inl (.inl h)) (dp_bls bs) fit_bls (by rw [List.length_map]; omega) (by decide)
def two (ns : List (Nat × Int)) (cs : List (Int × Int)) : PyData := .tuple [nD ns, cD cs]
theorem dp_two {K : PySem.W.Frag} {H : Hp} {t : Addr} {v u : V} {ns : List (Nat × Int)} {cs : List (Int × Int)} (h : H t = some (.tup [v, u])) (tn : TP K H v (ns.map nV)) (tc : TP K H u (cs.map cV)) : Dp K H (.ref t) (two ns cs) :=
  .tup (.inl (.inl h)) (.cons (dp_n tn) (.cons (dp_c tc) .nil))
theorem shape_two {ns : List (Nat × Int)} {cs : List (Int × Int)} (ok : NOk ns) (ck : COk cs) : SeqAt.shaped (two ns cs) = true := by
  have a := shape_n ok
  have b := shape_c ck
  have c := (fit_n ok).dep
  have d := (fit_c ck).dep
  unfold SeqAt.shaped at a b ⊢
  rw [Bool.and_eq_true, decide_eq_true_eq] at a b ⊢
  refine ⟨?_, ?_⟩
  · simp only [two, PyData.canLay0, PyData.canLayAll0, a.1, b.1, Bool.and_true]
  · simp only [two, PyData.depth, PyData.depthAll]
    omega
theorem eqv_two (ns ns' : List (Nat × Int)) (cs cs' : List (Int × Int)) : (two ns' cs').eqv (two ns cs) = decide (ns = ns' ∧ cs = cs') := by
  have e : (two ns' cs').eqv (two ns cs) = (decide (ns' = ns) && (decide (cs' = cs) && true)) := by
    simp only [two, PyData.eqv, PyData.eqvAll, eqv_n, eqv_c]
  rw [e, Bool.and_true, Bool.eq_iff_iff, Bool.and_eq_true, decide_eq_true_eq, decide_eq_true_eq, decide_eq_true_eq]
  exact ⟨fun h => ⟨h.1.symm, h.2.symm⟩, fun h => ⟨h.1.symm, h.2.symm⟩⟩
theorem dec_sym (ns ns' : List (Nat × Int)) (cs cs' : List (Int × Int)) : decide (ns' = ns ∧ cs' = cs) = decide (ns = ns' ∧ cs = cs') := by
  rw [Bool.eq_iff_iff, decide_eq_true_eq, decide_eq_true_eq]
  exact ⟨fun h => ⟨h.1.symm, h.2.symm⟩, fun h => ⟨h.1.symm, h.2.symm⟩⟩
theorem at_end {gs : List Int} (h : gs ≠ []) : ∃ z, z ∈ gs ∧ atI (gs.map V.int) (-1) = some (V.int z) := by
  refine ⟨gs.getLast h, List.getLast_mem h, ?_⟩
  have e : gs.map V.int = (gs.dropLast).map V.int ++ [V.int (gs.getLast h)] := by
    conv => lhs; rw [← List.dropLast_concat_getLast h]
    rw [List.map_append]
    rfl
  rw [e]
  exact atI_last _ _
theorem St.get {K : PySem.W.Frag} {C : Addr} {H : Hp} {x : Addr} {ns : List (Nat × Int)} {cs : List (Int × Int)} (h : St K C H x ns cs) :
    ∃ (dx : Addr) (fs : List (Str × V)), H x = some (.ins C dx fs) ∧ fs.lookup (Str.ofString "text") = some (.str (stTxt ns cs)) := by
  obtain ⟨v, u, dx, pd, ad, ld, ks, S⟩ := h
  exact ⟨dx, _, S.ob, rfl⟩
theorem dec_same (ns : List (Nat × Int)) (cs : List (Int × Int)) : decide (ns = ns ∧ cs = cs) = true := by simp
end K1
/-! Sets of lengths: data, promises, walks. -/
namespace K1
open PySem PySem.Spec L2 Z K2
open PySem.W (maxOf DatumOrd)
/-! ### texts -/
def tailT (s : Nat) : Str := if s = 0 then Str.ofString "" else if s = 1 then Str.ofString "+" else Str.ofString "+" ++ numS (s : Int)
def wordT (w : Nat × Nat) : Str := numS (w.1 : Int) ++ tailT w.2
def setT (ws : List (Nat × Nat)) : Str := if ws = [] then Str.ofString "none" else Txt.join sp1 (ws.map wordT)
def nI (l : List Nat) : List V := l.map fun (n : Nat) => V.int (n : Int)
/-! ### words in the heap -/
def wV (w : Nat × Nat) : V × V := (.int (w.1 : Int), .int (w.2 : Int))
/-- a list of words -/
def WL (K : PySem.W.Frag) (H : Hp) (v : V) (ws : List (Nat × Nat)) : Prop := ∃ (l : Addr) (rs : List Addr), v = .ref l ∧ H l = some (.lst (rs.map V.ref)) ∧ Paired (fun b (p : V × V) => SqT K H b [p.1, p.2]) rs (ws.map wV)
theorem WL.same {K : PySem.W.Frag} {H H' : Hp} {v : V} {ws : List (Nat × Nat)} (e : Same H H') (h : WL K H v ws) : WL K H' v ws := by
  obtain ⟨l, rs, ev, hl, hp⟩ := h
  exact ⟨l, rs, ev, e _ _ hl, Paired.imm (.of e) hp⟩
theorem WL.chg {K : PySem.W.Frag} {j : Addr} {H H' : Hp} {v : V} {ws : List (Nat × Nat)} (e : Chg j H H') (hj : JugAt H j) (n : v ≠ .ref j) (h : WL K H v ws) : WL K H' v ws := by
  obtain ⟨l, rs, ev, hl, hp⟩ := h
  exact ⟨l, rs, ev, e _ _ hl (fun z => n (by rw [ev, z])), Paired.imm (chg_imm e hj) hp⟩
structure WOk (ws : List (Nat × Nat)) (P : Nat) : Prop where
  few : ws.length ≤ 999
  p0 : 0 < P
  p60 : P ≤ 60
  steps : StepsOk ws P
  first : ∀ w ∈ ws, w.1 ≤ 500
/-! ### a set in the heap -/
def leastV (l : List Nat) : V := match l with
  | [] => .non
  | n :: _ => .int (n : Int)
def flds2 (r bt ct : Addr) (f : Nat → Bool) (st p : Nat) : List (Str × V) :=
  [("rounded", .ref r), ("start", .int (st : Int)), ("step", .int (p : Int)), ("below", .ref bt), ("cycle", .ref ct), ("least", leastV (belowL f st ++ cycL f st p)), ("is_endless", .bl (!decide (cycL f st p = []))), ("text", .str (setT (normW f st p)))]
structure LAt (K : PySem.W.Frag) (C : Addr) (H : Hp) (x dx r bt ct : Addr) (f : Nat → Bool) (st p b : Nat) : Prop where
  ob : H x = some (.ins C dx (flds2 r bt ct f st p))
  rd : SqT K H r [.int (st : Int), .int (p : Int), .int (b : Int)]
  be : SqT K H bt (nI (belowL f st))
  cy : SqT K H ct (nI (cycL f st p))
  rnd : Rnd f st p b
  sm : st ≤ 600 ∧ p ≤ 60
def LSt (K : PySem.W.Frag) (C : Addr) (H : Hp) (x : Addr) (f : Nat → Bool) : Prop := ∃ dx r bt ct st p b, LAt K C H x dx r bt ct f st p b
theorem LAt.same {K : PySem.W.Frag} {C : Addr} {H H' : Hp} {x dx r bt ct : Addr} {f : Nat → Bool} {st p b : Nat} (e : Same H H') (h : LAt K C H x dx r bt ct f st p b) : LAt K C H' x dx r bt ct f st p b :=
  ⟨e _ _ h.ob, SqT.imm (.of e) h.rd, SqT.imm (.of e) h.be, SqT.imm (.of e) h.cy, h.rnd, h.sm⟩
theorem LSt.same {K : PySem.W.Frag} {C : Addr} {H H' : Hp} {x : Addr} {f : Nat → Bool} (e : Same H H') (h : LSt K C H x f) : LSt K C H' x f := by
  obtain ⟨dx, r, bt, ct, st, p, b, S⟩ := h
  exact ⟨dx, r, bt, ct, st, p, b, S.same e⟩
theorem LSt.chg {K : PySem.W.Frag} {C j x : Addr} {H H' : Hp} {f : Nat → Bool} (e : Chg j H H') (hj : JugAt H j) (h : LSt K C H x f) : LSt K C H' x f := by
  obtain ⟨dx, r, bt, ct, st, p, b, S⟩ := h
  have im := chg_imm e hj
  obtain ⟨g, s0, c, hj, _⟩ := hj
  exact ⟨dx, r, bt, ct, st, p, b, ⟨e _ _ S.ob (ne_of S.ob hj fun z => nomatch z), SqT.imm im S.rd, SqT.imm im S.be, SqT.imm im S.cy, S.rnd, S.sm⟩⟩
/-! ### promises -/
/-- a value, and whether it is a number -/
def Num (K : PySem.W.Frag) (H : Hp) (v : V) (b : Bool) : Prop := (b = true ∧ ∃ i, v = .int i) ∨ (b = false ∧ ((∃ z, v = .bl z) ∨ v = .non ∨ (∃ z, v = .str z) ∨ (∃ a xs, v = .ref a ∧ SqT K H a xs) ∨ ∃ a xs, v = .ref a ∧ H a = some (.lst xs)))
section
variable (K : PySem.W.Frag) (C : Addr)
def sp2_is_number : Sp := fun vs H Q _ => ∃ (v : V) (b : Bool), vs = [v] ∧ Num K H v b ∧ Q (.bl b) H
def sp2_number_in : Sp := fun vs H Q _ => ∃ (i hi : Int), vs = [.str (numS i), .int hi] ∧ (hi = 1000 ∨ hi = 60) ∧ 0 ≤ i ∧ i ≤ hi ∧ i ≤ 999 ∧ Q (.int i) H
def sp2_all_bits : Sp := fun vs H Q _ => ∃ m : Nat, vs = [.int (m : Int)] ∧ m ≤ 100000 ∧ Q (.int ((2 ^ m - 1 : Nat) : Int)) H
def sp2_repeated : Sp := fun vs H Q _ => ∃ c s m : Nat, vs = [.int (c : Int), .int (s : Int), .int (m : Int)] ∧ c < 2 ^ s ∧ 0 < s ∧ s ≤ 10000 ∧ m ≤ 10000 ∧ ∀ b : Nat, (∀ i, b.testBit i = (decide (i < m) && c.testBit (i % s))) → Q (.int (b : Int)) H
def sp2_settled : Sp := fun vs H Q _ => ∃ (s p b : Nat) (f : Nat → Bool), vs = [.int (s : Int), .int (p : Int), .int (b : Int)] ∧ 0 < p ∧ p ≤ 10000 ∧ s ≤ 10000 ∧ Per f s p ∧ (∀ i, i < s + p → b.testBit i = f i) ∧
  ∀ (H' : Hp) (t : Addr) (st m b' : Nat), Same H H' → SqT K H' t [.int (st : Int), .int (m : Int), .int (b' : Int)] → Rnd f st m b' → st ≤ s → m ≤ p → Q (.ref t) H'
def sp2_numbers_in : Sp := fun vs H Q _ => ∃ b : Nat, vs = [.int (b : Int)] ∧ b < 2 ^ 900 ∧ ∀ H' l, Same H H' → H l = none → H' l = some (.lst (nI ((List.range (bl b)).filter b.testBit))) → Q (.ref l) H'
def sp2_has_number : Sp := fun vs H Q _ => ∃ (t : Addr) (st p b n : Nat) (f : Nat → Bool), vs = [.ref t, .int (n : Int)] ∧ SqT K H t [.int (st : Int), .int (p : Int), .int (b : Int)] ∧ Rnd f st p b ∧ st ≤ 600 ∧ p ≤ 60 ∧ Q (.bl (f n)) H
def sp2_init : Sp := fun vs H Q _ => ∃ (x dx : Addr) (ws : List (Nat × Nat)) (P : Nat), vs = [.ref x, .str (setT ws)] ∧ H x = some (.ins C dx []) ∧ WOk ws P ∧ ∀ H', LSt K C H' x (has ws) → Chg x H H' → Q .non H'
def sp2_eq : Sp := fun vs H Q _ => ∃ (x : Addr) (y : V) (f : Nat → Bool), vs = [.ref x, y] ∧ LSt K C H x f ∧
  ((∃ (x' : Addr) (g : Nat → Bool), y = .ref x' ∧ LSt K C H x' g ∧ ∀ c : Bool, (c = true ↔ f = g) → Q (.bl c) H) ∨ ((∃ z, y = .str z) ∧ Q (.bl false) H))
def sp2_contains : Sp := fun vs H Q _ => ∃ (x : Addr) (v : V) (f : Nat → Bool), vs = [.ref x, v] ∧ LSt K C H x f ∧ ((∃ n : Nat, v = .int (n : Int) ∧ Q (.bl (f n)) H) ∨ ((Num K H v false ∨ ∃ i : Int, v = .int i ∧ i < 0) ∧ Q (.bl false) H))
def sp2_take : Sp := fun vs H Q _ => ∃ (x dx r : Addr) (f : Nat → Bool) (st p b : Nat), vs = [.ref x, .ref r] ∧ H x = some (.ins C dx []) ∧ SqT K H r [.int (st : Int), .int (p : Int), .int (b : Int)] ∧ Rnd f st p b ∧ st ≤ 600 ∧ p ≤ 60 ∧
  ∀ H', LSt K C H' x f → Chg x H H' → Q .non H'
def WT (H : Hp) (v : V) (ws : List (Nat × Nat)) : Prop := TP K H v (ws.map wV)
def sp2_words_in : Sp := fun vs H Q _ => ∃ (ws : List (Nat × Nat)) (P : Nat), vs = [.str (setT ws)] ∧ WOk ws P ∧ ∀ H' v, Same H H' → WT K H' v ws → Q v H'
def sp2_word_in : Sp := fun vs H Q _ => ∃ w : Nat × Nat, vs = [.str (wordT w)] ∧ w.1 ≤ 999 ∧ w.2 ≤ 60 ∧ ∀ H' t, Same H H' → SqT K H' t [(wV w).1, (wV w).2] → Q (.ref t) H'
def sp2_common_step : Sp := fun vs H Q _ => ∃ (v : V) (ws : List (Nat × Nat)) (P : Nat), vs = [v] ∧ WT K H v ws ∧ WOk ws P ∧ Q (.int (common ws : Int)) H
def sp2_rounded_words : Sp := fun vs H Q _ => ∃ (v : V) (ws : List (Nat × Nat)) (P : Nat), vs = [v, .int (common ws : Int)] ∧ WT K H v ws ∧ WOk ws P ∧
  ∀ (H' : Hp) (t : Addr) (st m b' : Nat), Same H H' → SqT K H' t [.int (st : Int), .int (m : Int), .int (b' : Int)] → Rnd (has ws) st m b' → st ≤ 600 → m ≤ 60 → Q (.ref t) H'
def sp2_normal_text : Sp := fun vs H Q _ => ∃ (a b : Addr) (f : Nat → Bool) (st p : Nat), vs = [.ref a, .ref b, .int (p : Int)] ∧ SqT K H a (nI (belowL f st)) ∧ SqT K H b (nI (cycL f st p)) ∧ 0 < p ∧ p ≤ 60 ∧ st ≤ 600 ∧ ∀ H', Same H H' → Q (.str (setT (normW f st p))) H'
def sp2_set_text : Sp := fun vs H Q _ => ∃ (v : V) (ws : List (Nat × Nat)), vs = [v] ∧ WL K H v ws ∧ ws.length ≤ 100 ∧ (∀ w ∈ ws, w.1 ≤ 999 ∧ w.2 ≤ 999) ∧ ∀ H', Same H H' → Q (.str (setT ws)) H'
def sp2_law_has : Sp := fun vs H Q _ => ∃ (v : V) (ws : List (Nat × Nat)) (n : Nat), vs = [v, .int (n : Int)] ∧ WL K H v ws ∧ Q (.bl (has ws n)) H
def sp2_law_normal : Sp := fun vs H Q _ => ∃ (l : Addr) (T P : Nat) (f : Nat → Bool) (M : Nat), vs = [.ref l, .int (T : Int), .int (P : Int)] ∧ SqL K H l (((List.range M).map f).map V.bl) ∧ T + 2 * P ≤ M ∧ M ≤ 5000 ∧ Per f T P ∧ 0 < P ∧ P ≤ 72 ∧ T ≤ 500 ∧
  ∀ (H' : Hp) (t : Addr) (m st : Nat) (a b : Addr), Same H H' → SqT K H' t [.int (m : Int), .int (st : Int), .ref a, .ref b, .str (setT (normW f st m))] → H' a = some (.lst (nI (belowL f st))) → H' b = some (.lst (nI (cycL f st m))) → Canon f st m → Q (.ref t) H'
def sp2_drawn_words : Sp := fun vs H Q _ => ∃ (j l : Addr) (ss : List Nat) (hi : Nat), vs = [.ref j, .ref l, .int (hi : Int)] ∧ JugAt H j ∧ l ≠ j ∧ H l = some (.lst (nI ss)) ∧ ss ≠ [] ∧ ss.length ≤ 100 ∧ hi ≤ 400 ∧
  ∀ (H' : Hp) (v : V) (ws : List (Nat × Nat)), Chg j H H' → JugAt H' j → v ≠ .ref j → WL K H' v ws → ws.length ≤ 4 → (∀ w ∈ ws, w.1 ≤ hi ∧ w.2 ∈ ss) → Q v H'
def sp2_law_steps : Sp := fun vs H Q _ => ∃ (j : Addr), vs = [.ref j] ∧ JugAt H j ∧ ∀ (H' : Hp) (t l : Addr) (P : Nat) (ss : List Nat), Chg j H H' → JugAt H' j → SqT K H' t [.int (P : Int), .ref l] → l ≠ j → H' l = some (.lst (nI ss)) → 0 < P → P ≤ 12 → (∀ s ∈ ss, s = 0 ∨ s ∣ P) → ss ≠ [] → ss.length ≤ 20 → Q (.ref t) H'
def sp2_law_top : Sp := fun vs H Q _ => ∃ (v : V) (ws : List (Nat × Nat)), vs = [v] ∧ WL K H v ws ∧ ws.length ≤ 100 ∧ ∀ H', Same H H' → Q (.int (top ws : Int)) H'
def sp2_law_bits : Sp := fun vs H Q _ => ∃ (v : V) (ws : List (Nat × Nat)) (m : Nat), vs = [v, .int (m : Int)] ∧ WL K H v ws ∧ m ≤ 1000 ∧ ∀ H' l, Same H H' → H l = none → H' l = some (.lst (((List.range m).map (has ws)).map V.bl)) → Q (.ref l) H'
def sp2_is_set : Sp := fun vs H Q _ => ∃ (x l : Addr) (T P : Nat) (f : Nat → Bool) (M : Nat), vs = [.ref x, .ref l, .int (T : Int), .int (P : Int)] ∧ LSt K C H x f ∧ SqL K H l (((List.range M).map f).map V.bl) ∧ T + 2 * P ≤ M ∧ M ≤ 5000 ∧ Per f T P ∧ 0 < P ∧ P ≤ 72 ∧ T ≤ 500 ∧ ∀ H', Same H H' → Q (.bl true) H'
end
/-! ### walks -/
/-- a comprehension that makes nothing but its list -/
theorem lc_pure {J : It} {n : Nat} {g : TG} {tt : TT} {te : TE} {vs : List Nat} {σ : L2.St} {H1 : Hp} {D : Addr} {Qd : Hp → Prop} (Xs : Nat → V) (c : Nat → Bool) (F : Nat → V) (hD : H1 D = none) (hn : n ≤ 10000)
    (go : ∀ i H, i < n → Same H1 H → J.go i H) (stop : ∀ H, Same H1 H → J.stop n H) (yl : ∀ i H x H', i < n → Same H1 H → J.yld i H x H' → H' = H ∧ x = Xs i)
    (hs : ∀ i H' (R1 : Hp → Prop) (R2 : V → Hp → Prop), i < n → Same H1 H' → (∀ H'', Same H' H'' → c i = false → R1 H'') → (∀ H'', Same H' H'' → c i = true → R2 (F i) H'') →
      g (Xs i) (wipe σ vs) H' fun σ2 H2 => wipe σ2 vs = wipe σ vs ∧ tt σ2 H2 fun b H3 => if b = true then te σ2 H3 R2 else R1 H3)
    (hd : ∀ H, Same H1 H → H D = some (.lst (((List.range n).filter c).map F)) → Qd H) :
    ∃ W : Nat → Nat → Hp → Prop, (∃ m, W 0 m (upd H1 D (.lst []))) ∧ ∀ i m H, W i m H →
      (J.stop i H ∧ Qd H) ∨ (J.go i H ∧ ∃ Nx : Hp → Prop, (∀ H', Nx H' → ∃ m', m' < m ∧ W (i + 1) m' H') ∧ ∀ x H', J.yld i H x H' → g x (wipe σ vs) H' fun σ2 H2 => wipe σ2 vs = wipe σ vs ∧ tt σ2 H2 fun b H3 =>
        if b = true then te σ2 H3 fun y H4 => ∃ acc, H4 D = some (.lst acc) ∧ acc.length < sizeLine ∧ Nx (upd H4 D (.lst (acc ++ [y]))) else Nx H3) := by
  refine lc_it (n := n) (fun i H => Same H1 H ∧ H D = some (.lst (((List.range i).filter c).map F))) ⟨same_new hD, upd_same⟩ (fun i H hi h => go i H hi h.1) (fun H h => stop H h.1) (fun i x H H2 hi h y => ?_) (fun H h => hd H h.1 h.2)
  obtain ⟨sm, hk⟩ := h
  obtain ⟨rfl, rfl⟩ := yl i H x H2 hi sm y
  refine hs i H2 _ _ hi sm (fun H3 s3 hc => ⟨sm.trans s3, ?_⟩) (fun H3 s3 hc => ⟨_, s3 _ _ hk, ?_, ?_, ?_⟩)
  · rw [s3 _ _ hk, List.range_succ, List.filter_append]
    simp [hc]
  · rw [List.length_map]
    have := List.length_filter_le c (List.range i)
    rw [List.length_range] at this
    exact Nat.lt_of_lt_of_le (show _ < 20000 by omega) (sl_le (by decide))
  · intro b o e
    rw [upd_ne (ne_of_none e hD)]
    exact s3 _ _ (sm _ _ e)
  · rw [upd_same, List.range_succ, List.filter_append, List.map_append]
    simp [hc]
theorem filter_map' {α β : Type} (l : List α) (c : α → Bool) (F : α → β) : (l.filter c).map F = (l.filter c).map F := rfl
/-- over a list that stays, by an expression -/
theorem lcL {α : Type} {K : PySem.W.Frag} {te0 : TE} {g : TG} {tt : TT} {te : TE} {vs : List Nat} {σ : L2.St} {H : Hp} {Q : VK} (ls : List α) (wd : α → V) (c : α → Bool) (F : α → V) (hz : ls.length ≤ 10000)
    (hte : ∀ R : VK, (∀ l H1, Same H H1 → SqL K H1 l (ls.map wd) → R (.ref l) H1) → te0 σ H R)
    (hs : ∀ x H' (R1 : Hp → Prop) (R2 : V → Hp → Prop), x ∈ ls → Same H H' → (∀ H'', Same H' H'' → c x = false → R1 H'') → (∀ H'', Same H' H'' → c x = true → R2 (F x) H'') →
      g (wd x) (wipe σ vs) H' fun σ2 H2 => wipe σ2 vs = wipe σ vs ∧ tt σ2 H2 fun b H3 => if b = true then te σ2 H3 R2 else R1 H3)
    (hd : ∀ H' D, Same H H' → H D = none → H' D = some (.lst ((ls.filter c).map F)) → Q (.ref D) H') : tLc (iList K te0) g tt te vs σ H Q := by
  refine hte _ fun l H1 s1 hl => ⟨l, rfl, ⟨_, hl⟩, fun D hD => ?_⟩
  by_cases h0 : ls = []
  · subst h0
    refine lc_pure (n := 0) (fun _ => V.non) (fun _ => true) (fun _ => V.non) hD (by omega) (fun i H' hi => by omega) (fun H' sm => ⟨_, SqL_same sm hl, Nat.le_refl _⟩) (fun i H' x H2 hi => by omega) (fun i _ _ _ hi => by omega) (fun H' sm hk => ?_)
    exact hd H' D (s1.trans sm) (none_of s1 hD) hk
  · obtain ⟨a0, l0, e0⟩ := List.exists_cons_of_ne_nil h0
    haveI : Inhabited α := ⟨a0⟩
    have at_ : ∀ i, i < ls.length → ls[i]? = some (ls.getD i default) := fun i hi => by
      rw [List.getD_eq_getElem?_getD, List.getElem?_eq_getElem hi]; rfl
    have ex : (List.range ls.length).map (fun i => ls.getD i default) = ls := by
      apply List.ext_getElem?
      intro i
      rw [List.getElem?_map]
      by_cases hi : i < ls.length
      · rw [List.getElem?_range hi, at_ i hi]; rfl
      · rw [List.getElem?_eq_none (by simpa using hi), List.getElem?_eq_none (by omega)]; rfl
    refine lc_pure (n := ls.length) (fun i => wd (ls.getD i default)) (fun i => c (ls.getD i default)) (fun i => F (ls.getD i default)) hD hz
      (fun i H' hi sm => ⟨ls.map wd, wd (ls.getD i default), SqL_same sm hl, by rw [List.getElem?_map, at_ i hi]; rfl⟩) (fun H' sm => ⟨ls.map wd, SqL_same sm hl, by simp⟩) (fun i H' x H2 hi sm y => ?_)
      (fun i H' R1 R2 hi sm h1 h2 => hs _ H' R1 R2 (List.mem_of_getElem? (at_ i hi)) (s1.trans sm) h1 h2) (fun H' sm hk => ?_)
    · obtain ⟨e1, y⟩ := y
      have y2 := y _ (SqL_same sm hl)
      rw [List.getElem?_map, at_ i hi] at y2
      exact ⟨e1, (Option.some.inj y2).symm⟩
    · refine hd H' D (s1.trans sm) (none_of s1 hD) ?_
      rw [hk]
      congr 2
      conv => rhs; rw [← ex]
      rw [List.filter_map, List.map_map]
      rfl
/-- over a tuple -/
theorem lcT {α : Type} {K : PySem.W.Frag} {te0 : TE} {g : TG} {tt : TT} {te : TE} {vs : List Nat} {σ : L2.St} {H : Hp} {Q : VK} (ls : List α) (wd : α → V) (c : α → Bool) (F : α → V) (hz : ls.length ≤ 10000)
    (hte : ∀ R : VK, (∀ l H1, Same H H1 → SqT K H1 l (ls.map wd) → R (.ref l) H1) → te0 σ H R)
    (hs : ∀ x H' (R1 : Hp → Prop) (R2 : V → Hp → Prop), x ∈ ls → Same H H' → (∀ H'', Same H' H'' → c x = false → R1 H'') → (∀ H'', Same H' H'' → c x = true → R2 (F x) H'') →
      g (wd x) (wipe σ vs) H' fun σ2 H2 => wipe σ2 vs = wipe σ vs ∧ tt σ2 H2 fun b H3 => if b = true then te σ2 H3 R2 else R1 H3)
    (hd : ∀ H' D, Same H H' → H D = none → H' D = some (.lst ((ls.filter c).map F)) → Q (.ref D) H') : tLc (iTup K te0) g tt te vs σ H Q := by
  refine hte _ fun l H1 s1 hl => ⟨l, rfl, ⟨_, hl⟩, fun D hD => ?_⟩
  by_cases h0 : ls = []
  · subst h0
    refine lc_pure (n := 0) (fun _ => V.non) (fun _ => true) (fun _ => V.non) hD (by omega) (fun i H' hi => by omega) (fun H' sm => ⟨_, SqT.imm (.of sm) hl, Nat.le_refl _⟩) (fun i H' x H2 hi => by omega) (fun i _ _ _ hi => by omega) (fun H' sm hk => ?_)
    exact hd H' D (s1.trans sm) (none_of s1 hD) hk
  · obtain ⟨a0, l0, e0⟩ := List.exists_cons_of_ne_nil h0
    haveI : Inhabited α := ⟨a0⟩
    have at_ : ∀ i, i < ls.length → ls[i]? = some (ls.getD i default) := fun i hi => by
      rw [List.getD_eq_getElem?_getD, List.getElem?_eq_getElem hi]; rfl
    have ex : (List.range ls.length).map (fun i => ls.getD i default) = ls := by
      apply List.ext_getElem?
      intro i
      rw [List.getElem?_map]
      by_cases hi : i < ls.length
      · rw [List.getElem?_range hi, at_ i hi]; rfl
      · rw [List.getElem?_eq_none (by simpa using hi), List.getElem?_eq_none (by omega)]; rfl
    refine lc_pure (n := ls.length) (fun i => wd (ls.getD i default)) (fun i => c (ls.getD i default)) (fun i => F (ls.getD i default)) hD hz
      (fun i H' hi sm => ⟨ls.map wd, wd (ls.getD i default), SqT.imm (.of sm) hl, by rw [List.getElem?_map, at_ i hi]; rfl⟩) (fun H' sm => ⟨ls.map wd, SqT.imm (.of sm) hl, by simp⟩) (fun i H' x H2 hi sm y => ?_)
      (fun i H' R1 R2 hi sm h1 h2 => hs _ H' R1 R2 (List.mem_of_getElem? (at_ i hi)) (s1.trans sm) h1 h2) (fun H' sm hk => ?_)
    · obtain ⟨e1, y⟩ := y
      have y2 := y _ (SqT.imm (.of sm) hl)
      rw [List.getElem?_map, at_ i hi] at y2
      exact ⟨e1, (Option.some.inj y2).symm⟩
    · refine hd H' D (s1.trans sm) (none_of s1 hD) ?_
      rw [hk]
      congr 2
      conv => rhs; rw [← ex]
      rw [List.filter_map, List.map_map]
      rfl
theorem lcR1 {ta : TA} {g : TG} {tt : TT} {te : TE} {vs : List Nat} {σ : L2.St} {H : Hp} {Q : VK} (n : Nat) (c : Nat → Bool) (F : Nat → V) (hn : n ≤ 10000) (hta : ∀ R : List V → Hp → Prop, R [V.int (n : Int)] H → ta σ H R)
    (hs : ∀ i H' (R1 : Hp → Prop) (R2 : V → Hp → Prop), i < n → Same H H' → (∀ H'', Same H' H'' → c i = false → R1 H'') → (∀ H'', Same H' H'' → c i = true → R2 (F i) H'') →
      g (.int (i : Int)) (wipe σ vs) H' fun σ2 H2 => wipe σ2 vs = wipe σ vs ∧ tt σ2 H2 fun b H3 => if b = true then te σ2 H3 R2 else R1 H3)
    (hd : ∀ H' D, Same H H' → H D = none → H' D = some (.lst (((List.range n).filter c).map F)) → Q (.ref D) H') : tLc (iRng1 ta) g tt te vs σ H Q := by
  refine hta _ ⟨n, rfl, by omega, by omega, fun D hD => ?_⟩
  refine lc_pure (n := n) (fun i => V.int (i : Int)) c F hD hn (fun i H' hi _ => by show i < (n : Int).toNat; omega) (fun H' _ => by show (n : Int).toNat ≤ n; omega) (fun i H' x H2 hi _ y => ?_) hs (fun H' sm hk => hd H' D sm hD hk)
  obtain ⟨e1, e2⟩ := y
  exact ⟨e1, by rw [e2, Int.zero_add]⟩
theorem lcR2 {ta : TA} {g : TG} {tt : TT} {te : TE} {vs : List Nat} {σ : L2.St} {H : Hp} {Q : VK} (lo n : Nat) (hi : Int) (hhi : hi = ((lo + n : Nat) : Int)) (c : Nat → Bool) (F : Nat → V) (hn : n ≤ 10000) (hlo : lo ≤ 10000) (hta : ∀ R : List V → Hp → Prop, R [V.int (lo : Int), V.int hi] H → ta σ H R)
    (hs : ∀ i H' (R1 : Hp → Prop) (R2 : V → Hp → Prop), lo ≤ i → i < lo + n → Same H H' → (∀ H'', Same H' H'' → c i = false → R1 H'') → (∀ H'', Same H' H'' → c i = true → R2 (F i) H'') →
      g (.int (i : Int)) (wipe σ vs) H' fun σ2 H2 => wipe σ2 vs = wipe σ vs ∧ tt σ2 H2 fun b H3 => if b = true then te σ2 H3 R2 else R1 H3)
    (hd : ∀ H' D, Same H H' → H D = none → H' D = some (.lst (((List.range' lo n).filter c).map F)) → Q (.ref D) H') : tLc (iRng2 ta) g tt te vs σ H Q := by
  refine hta _ ⟨lo, hi, rfl, ⟨by omega, by omega, by omega, by omega⟩, fun D hD => ?_⟩
  refine lc_pure (n := n) (fun i => V.int ((lo + i : Nat) : Int)) (fun i => c (lo + i)) (fun i => F (lo + i)) hD hn (fun i H' hi' _ => by show i < (hi - (lo : Int)).toNat; omega) (fun H' _ => by show (hi - (lo : Int)).toNat ≤ n; omega) (fun i H' x H2 hi' _ y => ?_)
    (fun i H' R1 R2 hi' sm h1 h2 => hs (lo + i) H' R1 R2 (by omega) (by omega) sm h1 h2) (fun H' sm hk => hd H' D sm hD ?_)
  · obtain ⟨e1, e2⟩ := y
    exact ⟨e1, by rw [e2]; congr 1⟩
  · rw [hk, List.range'_eq_map_range, List.filter_map, List.map_map]
    rfl
theorem bit_and1 (b n : Nat) : (b >>> n) &&& 1 = if b.testBit n then 1 else 0 := by
  rw [Nat.and_one_is_mod, Nat.testBit_eq_decide_div_mod_eq, Nat.shiftRight_eq_div_pow]
  by_cases h : b / 2 ^ n % 2 = 1
  · rw [h]; simp
  · have : b / 2 ^ n % 2 = 0 := by omega
    rw [this]; simp
theorem castN (i : Int) (h : 0 ≤ i) : ∃ n : Nat, i = (n : Int) := ⟨i.toNat, by omega⟩
theorem ifT {c : Bool} {A B : Prop} (hc : c = true) (h : A) : if c = true then A else B := by
  rw [if_pos hc]
  exact h
theorem ifF {c : Bool} {A B : Prop} (hc : c = false) (h : B) : if c = true then A else B := by
  rw [hc, if_neg Bool.false_ne_true]
  exact h
theorem fmodN (a b : Nat) : Int.fmod (a : Int) (b : Int) = ((a % b : Nat) : Int) := by
  rw [Int.fmod_eq_emod_of_nonneg _ (by omega)]
  omega
theorem fdivN (a b : Nat) : Int.fdiv (a : Int) (b : Int) = ((a / b : Nat) : Int) := by
  rw [Int.fdiv_eq_ediv_of_nonneg _ (by omega)]
  omega
theorem eqIN (a b : Nat) : decide (V.int (a : Int) = V.int (b : Int)) = decide (a = b) := by
  by_cases h : a = b
  · subst h; simp
  · rw [decide_eq_false h]
    exact decide_eq_false fun z => h (by injection z with z; omega)
theorem maxOf_spec : ∀ (l : List Int) (x : Int), maxOf x l ∈ x :: l ∧ ∀ y ∈ x :: l, y ≤ maxOf x l
  | [], x => ⟨List.mem_cons_self, fun y hy => by cases List.mem_singleton.mp hy; exact Int.le_refl _⟩
  | a :: l, x => by
    have e : maxOf x (a :: l) = maxOf (if DatumOrd.lt x a = true then a else x) l := rfl
    have hl : DatumOrd.lt x a = decide (x < a) := rfl
    rw [e, hl]
    obtain ⟨h1, h2⟩ := maxOf_spec l (if decide (x < a) = true then a else x)
    by_cases c : x < a
    · rw [decide_eq_true c, if_pos rfl] at h1 h2 ⊢
      refine ⟨List.mem_cons_of_mem _ h1, fun y hy => ?_⟩
      rcases List.mem_cons.mp hy with rfl | hy
      · have := h2 a List.mem_cons_self; omega
      · exact h2 y hy
    · rw [decide_eq_false c, if_neg Bool.false_ne_true] at h1 h2 ⊢
      refine ⟨?_, fun y hy => ?_⟩
      · rcases List.mem_cons.mp h1 with h | h
        · rw [h]; exact List.mem_cons_self
        · exact List.mem_cons_of_mem _ (List.mem_cons_of_mem _ h)
      · rcases List.mem_cons.mp hy with rfl | hy
        · exact h2 y List.mem_cons_self
        · rcases List.mem_cons.mp hy with rfl | hy
          · have := h2 x List.mem_cons_self; omega
          · exact h2 y (List.mem_cons_of_mem _ hy)
/-- the least start that is taken -/
def sN (ws : List (Nat × Nat)) : Nat := max (top ws) 1
theorem head_start {ws : List (Nat × Nat)} {v : V} (h : headMax (ws.map fun w => (w.1 : Int)) (.int 0) v) : v = .int ((sN ws : Nat) - 1 : Int) := by
  cases ws with
  | nil => exact h
  | cons w r =>
    have h' : v = .int (maxOf (w.1 : Int) (r.map fun w => (w.1 : Int))) := h
    obtain ⟨h1, h2⟩ := maxOf_spec (r.map fun w => (w.1 : Int)) (w.1 : Int)
    rw [h']
    have e : ((w.1 : Int) :: r.map fun w => (w.1 : Int)) = (w :: r).map fun w => (w.1 : Int) := rfl
    rw [e] at h1 h2
    obtain ⟨u, hu, eu⟩ := List.mem_map.mp h1
    have t := top_is (ws := w :: r) (m := (maxOf (w.1 : Int) (r.map fun w => (w.1 : Int)) + 1).toNat) (.inr ⟨u, hu, by omega⟩) (fun z hz => by
      have := h2 _ (List.mem_map_of_mem (f := fun w : Nat × Nat => (w.1 : Int)) hz)
      omega)
    congr 1
    unfold sN
    omega
theorem taken {ws : List (Nat × Nat)} {i : Nat} {w : Nat × Nat} (e : ws[i]? = some w) (n : Nat) : has (ws.take (i + 1)) n = (has (ws.take i) n || hasW w n) := by
  unfold has
  rw [List.take_add_one, e, List.any_append]
  simp
end K1
/-! The texts of sets. -/
namespace K1
open PySem PySem.Spec L2 Z K2
theorem plus_tl : TL.tl (Str.ofString "+") = [43] := by decide +kernel
theorem plus_len : (Str.ofString "+").length = 1 := by decide +kernel
theorem none0_len : (Str.ofString "").length = 0 := by decide +kernel
theorem app_emp (a : Str) : a ++ Str.ofString "" = a := TL.ext_tl (by rw [TL.tl_append, e_tl, List.append_nil])
theorem tailT_len {s : Nat} (h : s ≤ 999) : (tailT s).length ≤ 4 := by
  unfold tailT
  split
  · rw [none0_len]; omega
  · split
    · rw [plus_len]; omega
    · rw [len_app, plus_len]
      have := num_len (i := (s : Int)) (by omega) (by omega)
      omega
theorem wordT_len {w : Nat × Nat} (h : w.1 ≤ 999) (h2 : w.2 ≤ 999) : (wordT w).length ≤ 7 := by
  unfold wordT
  rw [len_app]
  have := num_len (i := (w.1 : Int)) (by omega) (by omega)
  have := tailT_len h2
  omega
theorem wordT_pos {w : Nat × Nat} (h : w.1 ≤ 999) : 1 ≤ (wordT w).length := by
  unfold wordT
  rw [len_app]
  have := num_pos (i := (w.1 : Int)) (by omega) (by omega)
  omega
theorem tailT_mem {s : Nat} {c : Nat} (hc : c ∈ TL.tl (tailT s)) : 43 ≤ c ∧ c ≤ 57 := by
  unfold tailT at hc
  split at hc
  · rw [e_tl] at hc; cases hc
  · split at hc
    · rw [plus_tl] at hc
      cases List.mem_singleton.mp hc
      omega
    · rw [TL.tl_append, plus_tl] at hc
      rcases List.mem_append.mp hc with h | h
      · cases List.mem_singleton.mp h
        omega
      · have := num_dig (i := (s : Int)) (by omega) c h
        omega
theorem wordT_mem {w : Nat × Nat} {c : Nat} (hc : c ∈ TL.tl (wordT w)) : 43 ≤ c ∧ c ≤ 57 := by
  unfold wordT at hc
  rw [TL.tl_append] at hc
  rcases List.mem_append.mp hc with h | h
  · have := num_dig (i := (w.1 : Int)) (by omega) c h
    omega
  · exact tailT_mem h
theorem setT_nil : setT [] = Str.ofString "none" := rfl
theorem setT_cons {ws : List (Nat × Nat)} (h : ws ≠ []) : setT ws = Txt.join sp1 (ws.map wordT) := if_neg h
theorem words_le {ws : List (Nat × Nat)} (h : ∀ w ∈ ws, w.1 ≤ 999 ∧ w.2 ≤ 999) : ∀ y ∈ ws.map wordT, y.length ≤ 7 := fun y hy => by
  obtain ⟨w, hw, rfl⟩ := List.mem_map.mp hy
  exact wordT_len (h w hw).1 (h w hw).2
theorem joinW_len {ws : List (Nat × Nat)} (h : ∀ w ∈ ws, w.1 ≤ 999 ∧ w.2 ≤ 999) : (Txt.join sp1 (ws.map wordT)).length ≤ 8 * ws.length := by
  have := glue_len (k := 7) (y := sp1) (words_le h)
  have e : sp1.length = 1 := sp1_len
  rw [List.length_map, e] at this
  omega
theorem setT_len {ws : List (Nat × Nat)} (h : ∀ w ∈ ws, w.1 ≤ 999 ∧ w.2 ≤ 999) : (setT ws).length ≤ 8 * ws.length + 4 := by
  by_cases e : ws = []
  · subst e
    rw [setT_nil, none_len]; omega
  · rw [setT_cons e]
    have := joinW_len h
    omega
theorem joinW_pos {ws : List (Nat × Nat)} (e : ws ≠ []) (h : ∀ w ∈ ws, w.1 ≤ 999) : 1 ≤ (Txt.join sp1 (ws.map wordT)).length := by
  rw [TL.len_tl, tl_glue]
  refine glue_pos (k := 7) (by simpa using e) fun y hy => ?_
  obtain ⟨z, hz, rfl⟩ := List.mem_map.mp hy
  obtain ⟨w, hw, rfl⟩ := List.mem_map.mp hz
  rw [← TL.len_tl]
  exact wordT_pos (h w hw)
theorem joinW_mem {ws : List (Nat × Nat)} {c : Nat} (hc : c ∈ TL.tl (Txt.join sp1 (ws.map wordT))) : 32 ≤ c ∧ c ≤ 57 := by
  rw [tl_glue, sp_tl] at hc
  rcases mem_glue hc with h | ⟨p, hp, h⟩
  · cases List.mem_singleton.mp h
    omega
  · obtain ⟨z, hz, rfl⟩ := List.mem_map.mp hp
    obtain ⟨w, hw, rfl⟩ := List.mem_map.mp hz
    have := wordT_mem h
    omega
theorem setT_mem {ws : List (Nat × Nat)} {c : Nat} (hc : c ∈ TL.tl (setT ws)) : c < 16 ^ 8 := by
  by_cases e : ws = []
  · subst e
    rw [setT_nil, none_tl] at hc
    simp at hc
    omega
  · rw [setT_cons e] at hc
    have := joinW_mem hc
    omega
theorem set_none {ws : List (Nat × Nat)} (e : ws ≠ []) : decide (V.str (setT ws) = V.str (Str.ofString "none")) = false := str_ne fun z => by
  rw [setT_cons e, none_tl] at z
  have : 110 ∈ TL.tl (Txt.join sp1 (ws.map wordT)) := by rw [z]; simp
  have := joinW_mem this
  omega
theorem split_w {ws : List (Nat × Nat)} (e : ws ≠ []) : Txt.split (setT ws) (Str.ofString " ") = ws.map wordT := by
  rw [setT_cons e]
  refine TL.split_join (s := 32) (S := []) sp_tl (by decide +kernel) (by simpa using e) ?_
  intro q hq h
  obtain ⟨w, hw, rfl⟩ := List.mem_map.mp hq
  have := wordT_mem h
  omega
theorem no_plus {n : Nat} : 43 ∉ TL.tl (numS (n : Int)) := fun h => by
  have := num_dig (i := (n : Int)) (by omega) _ h
  omega
theorem part_w (w : Nat × Nat) : Txt.partition (wordT w) (Str.ofString "+") = (numS (w.1 : Int), if w.2 = 0 then Str.empty else Str.ofString "+", if w.2 ≤ 1 then Str.empty else numS (w.2 : Int)) := by
  unfold wordT tailT
  by_cases h0 : w.2 = 0
  · rw [if_pos h0, if_pos h0, if_pos (by omega), app_emp]
    exact TL.partition_none plus_tl no_plus
  · rw [if_neg h0, if_neg h0]
    by_cases h1 : w.2 = 1
    · rw [if_pos h1, if_pos (by omega)]
      have := TL.partition_app (y := Str.ofString "+") (a := numS (w.1 : Int)) (b := Str.empty) plus_tl no_plus
      rw [show numS (w.1 : Int) ++ Str.ofString "+" ++ Str.empty = numS (w.1 : Int) ++ Str.ofString "+" from TL.ext_tl (by rw [TL.tl_append]; show _ ++ [] = _; rw [List.append_nil])] at this
      exact this
    · rw [if_neg h1, if_neg (by omega)]
      have := TL.partition_app (y := Str.ofString "+") (a := numS (w.1 : Int)) (b := numS (w.2 : Int)) plus_tl no_plus
      rw [show numS (w.1 : Int) ++ Str.ofString "+" ++ numS (w.2 : Int) = numS (w.1 : Int) ++ (Str.ofString "+" ++ numS (w.2 : Int)) from TL.ext_tl (by rw [TL.tl_append, TL.tl_append, TL.tl_append, TL.tl_append, List.append_assoc])] at this
      exact this
theorem n1000 : (Str.ofString (toString (1000 : Int))).length = 4 := by decide +kernel
theorem n60 : (Str.ofString (toString (60 : Int))).length = 2 := by decide +kernel
theorem num_facts60 : ∀ n : Fin 61, (TL.numL n.val).length ≤ 2 := by decide +kernel
theorem num_len60 {i : Int} (h : 0 ≤ i) (h2 : i ≤ 60) : (numS i).length ≤ 2 := by
  rw [TL.len_tl, tl_numS h]
  exact num_facts60 ⟨i.toNat, by omega⟩
theorem numS_ne {i : Int} (h : 0 ≤ i) : decide (V.str (numS i) = V.str (Str.ofString "")) = false := str_ne (by
  rw [e_tl, tl_numS h]
  exact TL.numL_ne _)
theorem forP {K : PySem.W.Frag} {v : Nat} {rs : List Addr} {ls : List (V × V)} {a : Addr} {g : TG} {tb : TS} {D : Ends} {σ : L2.St} {H H0 : Hp} (Pv : Nat → L2.St → Hp → Prop) (hv : σ[v]? = some (some (.ref a))) (h0 : Pv 0 σ H)
    (hT : PT H0 a (rs.map V.ref)) (hp : Paired (fun b (p : V × V) => SqT K H0 b [p.1, p.2]) rs ls) (hI : ∀ i σ H, Pv i σ H → Imm H0 H)
    (hs : ∀ i b p σ H, rs[i]? = some b → ls[i]? = some p → SqT K H b [p.1, p.2] → Pv i σ H → g (.ref b) σ H fun σ2 H2 => tb { D with nx := Pv (i + 1), ct := Pv (i + 1), bk := D.nx } σ2 H2) (hd : ∀ σ H, Pv ls.length σ H → D.nx σ H) : tFor (iTup K (tVar v)) g tb D σ H :=
  ⟨_, hv, a, rfl, ⟨_, (PT.imm (hI 0 _ _ h0) hT).sq⟩, for_pairs Pv h0 hT hp hI hs hd⟩
/-- for over a list that an expression makes -/
theorem forE {K : PySem.W.Frag} {te : TE} {g : TG} {tb : TS} {D : Ends} {σ : L2.St} {H : Hp} (Pre : Addr → Hp → Prop) (hte : ∀ R : VK, (∀ l H1, Pre l H1 → R (.ref l) H1) → te σ H R)
    (hb : ∀ l H1, Pre l H1 → ∃ (xs : List V) (Pv : Nat → L2.St → Hp → Prop), Pv 0 σ H1 ∧ (∀ i σ H, i ≤ xs.length → Pv i σ H → SqL K H l xs) ∧
      (∀ i x σ H, xs[i]? = some x → Pv i σ H → g x σ H fun σ2 H2 => tb { D with nx := Pv (i + 1), ct := Pv (i + 1), bk := D.nx } σ2 H2) ∧ (∀ σ H, Pv xs.length σ H → D.nx σ H)) : tFor (iList K te) g tb D σ H := by
  refine hte _ fun l H1 pre => ?_
  obtain ⟨xs, Pv, h0, hl, hs, hd⟩ := hb l H1 pre
  exact ⟨l, rfl, ⟨_, hl 0 _ _ (Nat.zero_le _) h0⟩, for_list Pv h0 hl hs hd⟩
def wD (w : Nat × Nat) : PyData := .tuple [.int (w.1 : Int), .int (w.2 : Int)]
theorem shape_words (ws : List (Nat × Nat)) : SeqAt.shaped (.list (ws.map wD)) = true := by
  have e1 : PyData.canLayAll0 (ws.map wD) = true := shaped_all (dat := wD) (fun a => by simp only [wD, PyData.canLay0, PyData.canLayAll0, Bool.and_true]) ws
  have e2 : PyData.depthAll (ws.map wD) ≤ 1 := by
    clear e1
    induction ws with
    | nil => simp [PyData.depthAll]
    | cons a t ih =>
      have e : (wD a).depth = 1 := by simp [wD, PyData.depth, PyData.depthAll]
      rw [List.map_cons, PyData.depthAll, e]
      omega
  unfold SeqAt.shaped
  rw [Bool.and_eq_true, decide_eq_true_eq]
  refine ⟨by simp only [PyData.canLay0, e1], ?_⟩
  simp only [PyData.depth]
  omega
theorem none_words (ws : List (Nat × Nat)) : ((ws.map wD).any fun z => PyData.eqv z .none) = false := by
  rw [List.any_eq_false]
  intro z hz
  obtain ⟨w, hw, rfl⟩ := List.mem_map.mp hz
  simp [wD, PyData.eqv]
theorem dp_words {K : PySem.W.Frag} {H : Hp} {rs : List Addr} {ws : List (Nat × Nat)} (hp : Paired (fun b (p : V × V) => SqT K H b [p.1, p.2]) rs (ws.map wV)) : DpAll K H (rs.map V.ref) (ws.map wD) :=
  dp_pairs (emb := wV) (dat := wD) (fun b p h => .tup h (.cons (.int _) (.cons (.int _) .nil))) hp
theorem yesI {σ : L2.St} {H : Hp} {A B : Hp → Prop} (h : A H) : tYes σ H fun b H3 => if b = true then A H3 else B H3 := by
  show if true = true then A H else B H
  rw [if_pos rfl]
  exact h
theorem minOf_head : ∀ (l : List Int) (x : Int), (∀ y ∈ l, x ≤ y) → PySem.W.minOf x l = x
  | [], x, _ => rfl
  | a :: l, x, h => by
    have e : PySem.W.minOf x (a :: l) = PySem.W.minOf (if PySem.W.DatumOrd.lt a x = true then a else x) l := rfl
    have hl : PySem.W.DatumOrd.lt a x = decide (a < x) := rfl
    have := h a List.mem_cons_self
    rw [e, hl, decide_eq_false (by omega), if_neg Bool.false_ne_true]
    exact minOf_head l x fun y hy => h y (List.mem_cons_of_mem _ hy)
theorem asc_both (f : Nat → Bool) (st p : Nat) : (belowL f st ++ cycL f st p).Pairwise (· < ·) := by
  rw [List.pairwise_append]
  refine ⟨List.Pairwise.filter _ List.pairwise_lt_range, List.Pairwise.filter _ List.pairwise_lt_range', fun a ha b hb => ?_⟩
  have := mem_belowL.mp ha
  have := mem_cycL.mp hb
  omega
theorem head_least_v {f : Nat → Bool} {st p : Nat} {v : V} (h : headMin ((belowL f st ++ cycL f st p).map fun (n : Nat) => (n : Int)) .non v) : v = leastV (belowL f st ++ cycL f st p) := by
  have asc := asc_both f st p
  generalize belowL f st ++ cycL f st p = l at h asc
  cases l with
  | nil => exact h
  | cons a l =>
    have h' : v = .int (PySem.W.minOf (a : Int) (l.map fun (n : Nat) => (n : Int))) := h
    rw [h', minOf_head]
    · rfl
    · intro y hy
      obtain ⟨n, hn, rfl⟩ := List.mem_map.mp hy
      have := (List.pairwise_cons.mp asc).1 n hn
      omega
theorem nI_app (a b : List Nat) : nI a ++ nI b = ((a ++ b).map fun (n : Nat) => (n : Int)).map V.int := by
  unfold nI
  rw [← List.map_append, List.map_map]
  rfl
def nD2 (l : List Nat) : List PyData := l.map fun (n : Nat) => PyData.int (n : Int)
theorem dp_nI {K : PySem.W.Frag} {H : Hp} (l : List Nat) : DpAll K H (nI l) (nD2 l) := by
  induction l with
  | nil => exact .nil
  | cons a l ih => exact .cons (.int _) ih
theorem shape_nI (l : List Nat) : SeqAt.shaped (.tuple (nD2 l)) = true := by
  have e1 : PyData.canLayAll0 (nD2 l) = true := shaped_all (dat := fun (n : Nat) => PyData.int (n : Int)) (fun a => by simp only [PyData.canLay0]) l
  have e2 : PyData.depthAll (nD2 l) = 0 := by
    clear e1
    unfold nD2
    induction l with
    | nil => simp [PyData.depthAll]
    | cons a t ih => simp only [List.map_cons, PyData.depthAll, PyData.depth, ih, Nat.max_self]
  unfold SeqAt.shaped
  rw [Bool.and_eq_true, decide_eq_true_eq]
  refine ⟨by simp only [PyData.canLay0, e1], ?_⟩
  simp only [PyData.depth, e2]
  decide
theorem eqv_nil (l : List Nat) : PyData.eqv (.tuple (nD2 l)) (.tuple []) = decide (l = []) := by
  cases l with
  | nil => simp [nD2, PyData.eqv, PyData.eqvAll]
  | cons a l => simp [nD2, PyData.eqv, PyData.eqvAll]
def tr3 (a b c : Nat) : PyData := .tuple [.int (a : Int), .int (b : Int), .int (c : Int)]
theorem shape_tr3 (a b c : Nat) : SeqAt.shaped (tr3 a b c) = true := by
  unfold SeqAt.shaped tr3
  rw [Bool.and_eq_true, decide_eq_true_eq]
  refine ⟨by simp only [PyData.canLay0, PyData.canLayAll0, Bool.and_true], ?_⟩
  simp only [PyData.depth, PyData.depthAll]
  decide
theorem dp_tr3 {K : PySem.W.Frag} {H : Hp} {t : Addr} {a b c : Nat} (h : SqT K H t [.int (a : Int), .int (b : Int), .int (c : Int)]) : Dp K H (.ref t) (tr3 a b c) := .tup h (.cons (.int _) (.cons (.int _) (.cons (.int _) .nil)))
theorem eqv_tr3 (a b c a' b' c' : Nat) : PyData.eqv (tr3 a b c) (tr3 a' b' c') = decide (a = a' ∧ b = b' ∧ c = c') := by
  rw [Bool.eq_iff_iff, decide_eq_true_eq]
  simp only [tr3, PyData.eqv, PyData.eqvAll, Bool.and_true, Bool.and_eq_true, beq_iff_eq]
  omega
theorem rnd_eq {f g : Nat → Bool} {st p b st' p' b' : Nat} (h : Rnd f st p b) (k : Rnd g st' p' b') : (decide (st = st' ∧ p = p' ∧ b = b') = true) ↔ f = g := by
  rw [decide_eq_true_eq]
  constructor
  · rintro ⟨rfl, rfl, rfl⟩
    exact h.same k
  · intro e
    subst e
    exact h.uniq k
end K1
/-! Walks over words. -/
namespace K1
open PySem PySem.Spec L2 Z K2
theorem zip_snd {α β : Type} : ∀ {l : List α} {m : List β}, l.length = m.length → (l.zip m).map (·.2) = m
  | [], [], _ => rfl
  | a :: l, b :: m, h => by rw [List.zip_cons_cons, List.map_cons, zip_snd (by simpa using h)]
theorem zip_fst {α β : Type} : ∀ {l : List α} {m : List β}, l.length = m.length → (l.zip m).map (·.1) = l
  | [], [], _ => rfl
  | a :: l, b :: m, h => by rw [List.zip_cons_cons, List.map_cons, zip_fst (by simpa using h)]
theorem zip_paired {α β γ : Type} {R : α → γ → Prop} {e : β → γ} : ∀ {l : List α} {m : List β}, Paired R l (m.map e) → ∀ q ∈ l.zip m, R q.1 (e q.2)
  | [], [], _, q, h => by cases h
  | a :: l, b :: m, .cons h t, q, hq => by
    rw [List.zip_cons_cons] at hq
    rcases List.mem_cons.mp hq with rfl | hq
    · exact h
    · exact zip_paired t q hq
theorem lcWL {K : PySem.W.Frag} {i : Nat} {v : V} {g : TG} {tt : TT} {te : TE} {vs : List Nat} {σ : L2.St} {H : Hp} {Q : VK} (ws : List (Nat × Nat)) (c : Nat × Nat → Bool) (F : Nat × Nat → V) (hz : ws.length ≤ 10000) (hv : σ[i]? = some (some v)) (hW : WL K H v ws)
    (hs : ∀ b w H' (R1 : Hp → Prop) (R2 : V → Hp → Prop), w ∈ ws → Same H H' → SqT K H' b [(wV w).1, (wV w).2] → (∀ H'', Same H' H'' → c w = false → R1 H'') → (∀ H'', Same H' H'' → c w = true → R2 (F w) H'') →
      g (.ref b) (wipe σ vs) H' fun σ2 H2 => wipe σ2 vs = wipe σ vs ∧ tt σ2 H2 fun b H3 => if b = true then te σ2 H3 R2 else R1 H3)
    (hd : ∀ H' D, Same H H' → H D = none → H' D = some (.lst ((ws.filter c).map F)) → Q (.ref D) H') : tLc (iList K (tVar i)) g tt te vs σ H Q := by
  obtain ⟨l, rs, rfl, hl, hp⟩ := hW
  have len : rs.length = ws.length := by rw [Paired.len hp, List.length_map]
  refine lcL (rs.zip ws) (fun q => V.ref q.1) (fun q => c q.2) (fun q => F q.2) (by rw [List.length_zip]; omega) (fun R hR => ⟨_, hv, hR l H (fun _ _ h => h) (.inl (.inl ?_))⟩) (fun q H' R1 R2 hq sm h1 h2 => ?_) (fun H' D sm hD hk => hd H' D sm hD ?_)
  · rw [hl]
    congr 2
    conv => lhs; rw [← zip_fst len]
    rw [List.map_map]
    rfl
  · exact hs q.1 q.2 H' R1 R2 (List.of_mem_zip hq).2 sm (SqT.imm (.of sm) (zip_paired hp q hq)) h1 h2
  · rw [hk]
    congr 2
    conv => rhs; rw [← zip_snd len]
    rw [List.filter_map, List.map_map]
    rfl
/-- for over a list of words -/
theorem forWL {K : PySem.W.Frag} {i : Nat} {v : V} {g : TG} {tb : TS} {D : Ends} {σ : L2.St} {H : Hp} {ws : List (Nat × Nat)} (Pv : Nat → L2.St → Hp → Prop) (hv : σ[i]? = some (some v)) (hW : WL K H v ws) (h0 : Pv 0 σ H) (hI : ∀ k σ H', Pv k σ H' → Same H H')
    (hs : ∀ k b w σ H', ws[k]? = some w → SqT K H' b [(wV w).1, (wV w).2] → Pv k σ H' → g (.ref b) σ H' fun σ2 H2 => tb { D with nx := Pv (k + 1), ct := Pv (k + 1), bk := D.nx } σ2 H2) (hd : ∀ σ H', Pv ws.length σ H' → D.nx σ H') : tFor (iList K (tVar i)) g tb D σ H := by
  obtain ⟨l, rs, rfl, hl, hp⟩ := hW
  have len : rs.length = ws.length := by rw [Paired.len hp, List.length_map]
  refine forL (xs := rs.map V.ref) Pv hv h0 (fun k σ H' _ h => .inl (.inl (hI k σ H' h _ _ hl))) (fun k x σ H' hx h => ?_) (fun σ H' h => hd σ H' (by rw [List.length_map, len] at h; exact h))
  obtain ⟨b, p, rfl, e1, e2, hq⟩ := pairs_at (Paired.imm (.of (hI k σ H' h)) hp) hx
  obtain ⟨w, ew, rfl⟩ := map_at e2
  exact hs k b w σ H' ew hq h
def sD (l : List Str) : List PyData := l.map PyData.str
theorem dp_strs {K : PySem.W.Frag} {H : Hp} (l : List Str) : DpAll K H (l.map V.str) (sD l) := by
  induction l with
  | nil => exact .nil
  | cons a l ih => exact .cons (.str _) ih
theorem strOk_small {x : Str} (h : ∀ c ∈ TL.tl x, c < 0x110000) : PyData.strOk x = true := by
  show x.cps.all (· < 0x110000) = true
  rw [Array.all_eq_true_iff_forall_mem]
  intro c hc
  exact decide_eq_true (h c (Array.mem_toList_iff.mpr hc))
theorem shape_strs (l : List Str) (h : ∀ x ∈ l, ∀ c ∈ TL.tl x, c < 0x110000) : SeqAt.shaped (.list (sD l)) = true := by
  have e1 : PyData.canLayAll0 (sD l) = true := by
    unfold sD
    induction l with
    | nil => simp [PyData.canLayAll0]
    | cons a t ih => rw [List.map_cons, PyData.canLayAll0, ih fun x hx => h x (List.mem_cons_of_mem _ hx), PyData.canLay0, strOk_small (h a List.mem_cons_self)]; rfl
  have e2 : PyData.depthAll (sD l) = 0 := by
    clear e1 h
    unfold sD
    induction l with
    | nil => simp [PyData.depthAll]
    | cons a t ih => simp only [List.map_cons, PyData.depthAll, PyData.depth, ih, Nat.max_self]
  unfold SeqAt.shaped
  rw [Bool.and_eq_true, decide_eq_true_eq]
  refine ⟨by simp only [PyData.canLay0, e1], ?_⟩
  simp only [PyData.depth, e2]
  decide
theorem shape_ws (ws : List (Nat × Nat)) : SeqAt.shaped (.list (sD (ws.map wordT))) = true := shape_strs _ fun x hx c hc => by
  obtain ⟨w, hw, rfl⟩ := List.mem_map.mp hx
  have := wordT_mem hc
  omega
theorem eqv_snil (l : List Str) : PyData.eqv (.list (sD l)) (.list []) = decide (l = []) := by
  cases l with
  | nil => simp [sD, PyData.eqv, PyData.eqvAll]
  | cons a l => simp [sD, PyData.eqv, PyData.eqvAll]
theorem hasW_iff {w : Nat × Nat} {n : Nat} : hasW w n = true ↔ n = w.1 ∨ (0 < w.2 ∧ w.1 < n ∧ (n - w.1) % w.2 = 0) := by
  unfold hasW
  simp
def compSc (st : Stmt) (i : Nat) : Scope := match (defBody st)[i]? with
  | some (.Assign _ (.ListComp _ _ sc _) _) => sc
  | _ => defScope st
def relS (sc outer : Scope) : Scope := { sc with names := sc.names.map fun (n, k) => if (k == .free && outer.kind == .function && outer.names.lookup n == some .cell) then (n, .cell) else (n, k) }
theorem ix_listK {X : Cx} {K : PySem.W.Frag} (h : X.K = K) : IxR X (rIxL K) := h ▸ ix_list
theorem op_eqDK {X : Cx} {K : PySem.W.Frag} (h : X.K = K) (hu : X.A.units + 64 < cLine) : OpR X (compareOp .Eq) (rEqD K) := h ▸ op_eqD hu
theorem op_neDK {X : Cx} {K : PySem.W.Frag} (h : X.K = K) (hu : X.A.units + 64 < cLine) : OpR X (compareOp .NotEq) (rNeD K) := h ▸ op_neD hu
theorem shape_nL (l : List Nat) : SeqAt.shaped (.list (nD2 l)) = true := by
  have e1 : PyData.canLayAll0 (nD2 l) = true := shaped_all (dat := fun (n : Nat) => PyData.int (n : Int)) (fun a => by simp only [PyData.canLay0]) l
  have e2 : PyData.depthAll (nD2 l) = 0 := by
    clear e1
    unfold nD2
    induction l with
    | nil => simp [PyData.depthAll]
    | cons a t ih => simp only [List.map_cons, PyData.depthAll, PyData.depth, ih, Nat.max_self]
  unfold SeqAt.shaped
  rw [Bool.and_eq_true, decide_eq_true_eq]
  refine ⟨by simp only [PyData.canLay0, e1], ?_⟩
  simp only [PyData.depth, e2]
  decide
theorem eqv_nilL (l : List Nat) : PyData.eqv (.list (nD2 l)) (.list []) = decide (l = []) := by
  cases l with
  | nil => simp [nD2, PyData.eqv, PyData.eqvAll]
  | cons a l => simp [nD2, PyData.eqv, PyData.eqvAll]
theorem bit_at_ {f : Nat → Bool} {N n : Nat} (h : n < N) : atI (((List.range N).map f).map V.bl) (n : Int) = some (.bl (f n)) := by
  refine at_nat ?_
  rw [List.getElem?_map, List.getElem?_map, List.getElem?_range h]
  rfl
theorem eqB (a b : Bool) : decide (V.bl a = V.bl b) = (a == b) := by cases a <;> cases b <;> rfl
/-- the steps that are left, the first one -/
theorem law_step {f : Nat → Bool} {T P m : Nat} (per : Per f T P) (hP : 0 < P) (L : Least f T m) :
    ∃ r, (((List.range' 1 P).filter fun i => decide (P % i = 0)).filter fun e => decide ((List.range' T P).filter (fun n => f n != f (n + e)) = [])) = m :: r := by
  rw [List.filter_filter]
  have same : ∀ e, Per f T e → (List.range' T P).filter (fun n => f n != f (n + e)) = [] := fun e pe => by
    rw [List.filter_eq_nil_iff]
    intro n hn
    rw [pe n (List.mem_range'_1.mp hn).1]
    simp
  refine head_least L.pos (Nat.le_of_dvd hP (L.dvd per)) ?_ fun e h1 h2 => ?_
  · rw [decide_eq_true (same m L.per), decide_eq_true (Nat.mod_eq_zero_of_dvd (L.dvd per))]; rfl
  · by_cases c : (List.range' T P).filter (fun n => f n != f (n + e)) = []
    · exfalso
      have pe : Per f T e := seen_per per hP fun n a b => by
        have := (List.filter_eq_nil_iff.mp c) n (List.mem_range'_1.mpr ⟨a, b⟩)
        simpa using this
      have := L.min e (by omega) pe
      omega
    · rw [decide_eq_false c]; rfl
/-- for over a range that goes down -/
theorem forR3 {ta : TA} {g : TG} {tb : TS} {D : Ends} {σ : L2.St} {H : Hp} (a : Int) (n : Nat) (j : Int) (Pv : Nat → L2.St → Hp → Prop) (hn : n = (a - j).toNat) (ha : -(2 ^ 62) ≤ a) (ha' : a < 2 ^ 62) (hb : -(2 ^ 62) ≤ j) (hb' : j < 2 ^ 62)
    (hta : ∀ R : List V → Hp → Prop, R [.int a, .int j, .int (-1)] H → ta σ H R) (h0 : Pv 0 σ H)
    (hs : ∀ i σ H, i < n → Pv i σ H → g (.int (a + (i : Nat) * (-1))) σ H fun σ2 H2 => tb { D with nx := Pv (i + 1), ct := Pv (i + 1), bk := D.nx } σ2 H2) (hd : ∀ σ H, Pv n σ H → D.nx σ H) : tFor (iRng3 ta) g tb D σ H := by
  subst hn
  exact hta _ ⟨a, j, -1, _, rfl, RgC.neg ha ha' hb hb', for_it (n := (a - j).toNat) Pv h0 (fun i σ H hi _ => hi) (fun σ H _ => Nat.le_refl _) (fun i v σ H H' hi p y => by obtain ⟨rfl, rfl⟩ := y; exact hs i σ _ hi p) hd⟩
end K1
/-! What the law reads off a set. -/
namespace K1
open PySem PySem.Spec L2 Z K2
def leastD (l : List Nat) : PyData := match l with
  | [] => .none
  | n :: _ => .int (n : Int)
theorem dp_least {K : PySem.W.Frag} {H : Hp} (l : List Nat) : Dp K H (leastV l) (leastD l) := by
  cases l with
  | nil => exact .non
  | cons a l => exact .int _
theorem least_at {l : List Nat} (h : l ≠ []) : atI (nI l) 0 = some (leastV l) := by
  cases l with
  | nil => exact absurd rfl h
  | cons a l => exact at_first
def setD (f : Nat → Bool) (st p : Nat) : List PyData := [.str (setT (normW f st p)), .int (p : Int), .int (st : Int), .tuple (nD2 (belowL f st)), .tuple (nD2 (cycL f st p)), leastD (belowL f st ++ cycL f st p), .bool (!decide (cycL f st p = []))]
def setV (bt ct : Addr) (f : Nat → Bool) (st p : Nat) : List V := [.str (setT (normW f st p)), .int (p : Int), .int (st : Int), .ref bt, .ref ct, leastV (belowL f st ++ cycL f st p), .bl (!decide (cycL f st p = []))]
theorem dp_set {K : PySem.W.Frag} {H : Hp} {bt ct : Addr} {f : Nat → Bool} {st p : Nat} (hb : SqT K H bt (nI (belowL f st))) (hc : SqT K H ct (nI (cycL f st p))) : DpAll K H (setV bt ct f st p) (setD f st p) :=
  .cons (.str _) (.cons (.int _) (.cons (.int _) (.cons (.tup hb (dp_nI _)) (.cons (.tup hc (dp_nI _)) (.cons (dp_least _) (.cons (.bl _) .nil))))))
theorem fit_nI {l : List Nat} (h : ∀ n ∈ l, n ≤ 999) : ∀ d ∈ nD2 l, Fit d 5 0 := fun d hd => by
  obtain ⟨n, hn, rfl⟩ := List.mem_map.mp hd
  exact fit_int (by omega) (by have := h n hn; omega)
theorem fit_set {f : Nat → Bool} {st p : Nat} (hs : st ≤ 600) (hp : p ≤ 60) : ∀ d ∈ setD f st p, Fit d 60000 1 := fun d hd => by
  have bl1 : (belowL f st).length ≤ 600 := by
    unfold belowL
    have := List.length_filter_le f (List.range st)
    rw [List.length_range] at this
    omega
  have cl1 : (cycL f st p).length ≤ 60 := by
    unfold cycL
    have := List.length_filter_le f (List.range' st p)
    rw [List.length_range'] at this
    omega
  have bm : ∀ n ∈ belowL f st, n ≤ 999 := fun n hn => by have := mem_belowL.mp hn; omega
  have cm : ∀ n ∈ cycL f st p, n ≤ 999 := fun n hn => by have := mem_cycL.mp hn; omega
  have nm : ∀ w ∈ normW f st p, w.1 ≤ 999 ∧ w.2 ≤ 999 := fun w hw => by
    rcases mem_normW.mp hw with ⟨e, h, _⟩ | ⟨e, h, _⟩ <;> omega
  have nl : (normW f st p).length ≤ 660 := by
    unfold normW
    rw [List.length_append, List.length_map, List.length_map]
    omega
  have tl := setT_len nm
  have mm : ∀ n ∈ belowL f st ++ cycL f st p, n ≤ 999 := fun n hn => by
    rcases List.mem_append.mp hn with h | h
    · exact bm n h
    · exact cm n h
  have lb : (nD2 (belowL f st)).length ≤ 600 := by unfold nD2; rw [List.length_map]; exact bl1
  have lc : (nD2 (cycL f st p)).length ≤ 60 := by unfold nD2; rw [List.length_map]; exact cl1
  simp only [setD, List.mem_cons, List.not_mem_nil, or_false] at hd
  rcases hd with rfl | rfl | rfl | rfl | rfl | rfl | rfl
  · exact fit_le (fit_str (n := 5300) (fun c hc => setT_mem hc) (by omega)) (by decide) (by decide)
  · exact fit_le (fit_int (by omega) (by omega)) (by decide) (by decide)
  · exact fit_le (fit_int (by omega) (by omega)) (by decide) (by decide)
  · exact fit_le (fit_tup (fit_nI bm)) (by omega) (by decide)
  · exact fit_le (fit_tup (fit_nI cm)) (by omega) (by decide)
  · cases e : belowL f st ++ cycL f st p with
    | nil => exact fit_le fit_non (by decide) (by decide)
    | cons a l => exact fit_le (fit_int (by omega) (by have := mm a (by rw [e]; exact List.mem_cons_self); omega)) (by decide) (by decide)
  · exact fit_le (fit_bl _) (by decide) (by decide)
end K1
/-! While one turn of the law runs. -/
namespace K1
open PySem PySem.Spec L2 Z K2
/-- the draws, the steps that are drawn from, the words -/
structure RS2 (K : PySem.W.Frag) (H0 H : Hp) (j l lw : Addr) (ss : List Nat) (ws : List (Nat × Nat)) : Prop where
  chg : Chg j H0 H
  jug : JugAt H j
  nl : l ≠ j
  st : H l = some (.lst (nI ss))
  nw : lw ≠ j
  wl : WL K H (.ref lw) ws
theorem RS2.same {K : PySem.W.Frag} {H0 H H' : Hp} {j l lw : Addr} {ss : List Nat} {ws : List (Nat × Nat)} (e : Same H H') (r : RS2 K H0 H j l lw ss ws) : RS2 K H0 H' j l lw ss ws :=
  ⟨r.chg.trans (Chg.of e), r.jug.same e, r.nl, e _ _ r.st, r.nw, r.wl.same e⟩
theorem RS2.cj {K : PySem.W.Frag} {H0 H H' : Hp} {j l lw : Addr} {ss : List Nat} {ws : List (Nat × Nat)} (e : Chg j H H') (hj : JugAt H' j) (r : RS2 K H0 H j l lw ss ws) : RS2 K H0 H' j l lw ss ws :=
  ⟨r.chg.trans e, hj, r.nl, e _ _ r.st r.nl, r.nw, r.wl.chg e r.jug (fun z => r.nw (by injection z))⟩
theorem LSt.get {K : PySem.W.Frag} {C : Addr} {H : Hp} {x : Addr} {f : Nat → Bool} (h : LSt K C H x f) :
    ∃ (dx : Addr) (fs : List (Str × V)) (st p : Nat), H x = some (.ins C dx fs) ∧ fs.lookup (Str.ofString "text") = some (.str (setT (normW f st p))) ∧ Canon f st p ∧ p ≤ 60 := by
  obtain ⟨dx, r, bt, ct, st, p, b, S⟩ := h
  exact ⟨dx, _, st, p, S.ob, rfl, S.rnd.can, S.sm.2⟩
theorem Paired.rev {α β : Type} {F : α → β → Prop} : ∀ {l : List α} {m : List β}, Paired F l m → Paired F l.reverse m.reverse
  | _, _, .nil => .nil
  | _, _, .cons h t => by
    rw [List.reverse_cons, List.reverse_cons]
    exact Paired.snoc h (Paired.rev t)
theorem WL.open {K : PySem.W.Frag} {H : Hp} {lw : Addr} {ws : List (Nat × Nat)} (h : WL K H (.ref lw) ws) :
    ∃ rs : List Addr, H lw = some (.lst (rs.map V.ref)) ∧ Paired (fun b (p : V × V) => SqT K H b [p.1, p.2]) rs (ws.map wV) ∧ rs.length = ws.length := by
  obtain ⟨l, rs, e, hl, hp⟩ := h
  injection e with e
  subst e
  exact ⟨rs, hl, hp, by rw [Paired.len hp, List.length_map]⟩
theorem WL.mk' {K : PySem.W.Frag} {H : Hp} {p : Addr} {rs : List Addr} {ws : List (Nat × Nat)} (h : H p = some (.lst (rs.map V.ref))) (hp : Paired (fun b (q : V × V) => SqT K H b [q.1, q.2]) rs (ws.map wV)) : WL K H (.ref p) ws := ⟨p, rs, rfl, h, hp⟩
theorem has_rev (ws : List (Nat × Nat)) : has ws.reverse = has ws := by
  funext n
  unfold has
  rw [List.any_reverse]
theorem repr_bls2 {K : PySem.W.Frag} {H : Hp} {a : Addr} (bs : List Bool) (h : H a = some (.lst (bs.map V.bl))) (hz : bs.length ≤ 1000) :
    Dp K H (.ref a) (.list (bs.map PyData.bool)) ∧ (PyData.list (bs.map PyData.bool)).showable = true ∧ (PyData.list (bs.map PyData.bool)).hasDict = false ∧ (PyData.list (bs.map PyData.bool)).depth ≤ 60 ∧ (PyData.list (bs.map PyData.bool)).shown.length ≤ sizeLine :=
  repr_ok (.inl (.inl h)) (dp_bls bs) fit_bls (by rw [List.length_map]; omega) (by decide)
theorem eqv_bls (bs cs : List Bool) : PyData.eqv (.list (bs.map PyData.bool)) (.list (cs.map PyData.bool)) = decide (bs = cs) :=
  Eq.trans (by simp only [PyData.eqv]) (eqv_all (dat := PyData.bool) (fun a b => by cases a <;> cases b <;> simp [PyData.eqv]) bs cs)
theorem shape_bls (bs : List Bool) : SeqAt.shaped (.list (bs.map PyData.bool)) = true := by
  have e1 : PyData.canLayAll0 (bs.map PyData.bool) = true := shaped_all (dat := PyData.bool) (fun a => by simp only [PyData.canLay0]) bs
  have e2 : PyData.depthAll (bs.map PyData.bool) = 0 := by
    clear e1
    induction bs with
    | nil => simp [PyData.depthAll]
    | cons a t ih => simp only [List.map_cons, PyData.depthAll, PyData.depth, ih, Nat.max_self]
  unfold SeqAt.shaped
  rw [Bool.and_eq_true, decide_eq_true_eq]
  refine ⟨by simp only [PyData.canLay0, e1], ?_⟩
  simp only [PyData.depth, e2]
  decide
theorem bits_same {ws us : List (Nat × Nat)} {P : Nat} (a : StepsOk ws P) (b : StepsOk us P) (hP : 0 < P) : ((List.range (top (ws ++ us) + 2 * P)).map (has ws) = (List.range (top (ws ++ us) + 2 * P)).map (has us)) ↔ has ws = has us := by
  refine ⟨fun h => ?_, fun h => by rw [h]⟩
  refine agree ((has_per a).mono (top_le fun w hw => lt_top (List.mem_append_left _ hw))) ((has_per b).mono (top_le fun w hw => lt_top (List.mem_append_right _ hw))) hP fun i hi => ?_
  have e : ((List.range (top (ws ++ us) + 2 * P)).map (has ws))[i]? = ((List.range (top (ws ++ us) + 2 * P)).map (has us))[i]? := by rw [h]
  rw [List.getElem?_map, List.getElem?_map, List.getElem?_range (by omega)] at e
  simpa using e
/-- the words of the law's second set -/
structure Late (ws : List (Nat × Nat)) (P : Nat) : Prop where
  few : ws.length ≤ 5
  steps : StepsOk ws P
  first : ∀ w ∈ ws, w.1 ≤ 210
theorem Late.app {ws : List (Nat × Nat)} {P a s : Nat} (h : Late ws P) (f : ws.length ≤ 4) (ha : a ≤ 210) (hs : s = 0 ∨ s ∣ P) : Late (ws ++ [(a, s)]) P := by
  refine ⟨by rw [List.length_append]; show _ + 1 ≤ _; omega, fun w hw => ?_, fun w hw => ?_⟩ <;> rcases List.mem_append.mp hw with h1 | h1
  · exact h.steps w h1
  · cases List.mem_singleton.mp h1; exact hs
  · exact h.first w h1
  · cases List.mem_singleton.mp h1; exact ha
theorem Late.small {ws : List (Nat × Nat)} {P : Nat} (h : Late ws P) (P0 : 0 < P) (P12 : P ≤ 12) : ∀ w ∈ ws, w.1 ≤ 999 ∧ w.2 ≤ 999 := fun w hw => by
  refine ⟨by have := h.first w hw; omega, ?_⟩
  rcases h.steps w hw with e | d
  · omega
  · have := Nat.le_of_dvd P0 d; omega
theorem Late.wok {ws : List (Nat × Nat)} {P : Nat} (h : Late ws P) (P0 : 0 < P) (P12 : P ≤ 12) : WOk ws P := ⟨by have := h.few; omega, P0, by omega, h.steps, fun w hw => by have := h.first w hw; omega⟩
theorem WL.app1 {K : PySem.W.Frag} {H H' : Hp} {t p : Addr} {ws : List (Nat × Nat)} {rs : List Addr} {w : Nat × Nat} (s : Same H H') (hp : Paired (fun b (p : V × V) => SqT K H b [p.1, p.2]) rs (ws.map wV)) (ht : H' t = some (.tup [V.int (w.1 : Int), V.int (w.2 : Int)]))
    (k : H' p = some (.lst (rs.map V.ref ++ [V.ref t]))) : WL K H' (.ref p) (ws ++ [w]) := by
  refine ⟨p, rs ++ [t], rfl, by rw [k, List.map_append]; rfl, ?_⟩
  rw [List.map_append]
  exact Paired.snoc (F := fun b (p : V × V) => SqT K _ b [p.1, p.2]) (x := t) (y := wV w) (.inl (.inl ht)) (Paired.imm (.of s) hp)
theorem far_is (t : Nat) : (10 : Int) ^ (30 : Int).toNat + (t : Int) = ((10 ^ 30 + t : Nat) : Int) := by
  have e : (10 : Int) ^ (30 : Int).toNat = ((10 ^ 30 : Nat) : Int) := by decide +kernel
  rw [e, Int.natCast_add]
theorem dec_zero (n : Int) : decide (V.int n = V.int 0) = decide (n = 0) := by
  by_cases h : n = 0
  · subst h; rfl
  · rw [decide_eq_false h]
    exact decide_eq_false fun z => h (by injection z)
theorem cut_tail {xs : List V} : cutV xs (some 1) none = xs.drop 1 := by
  cases xs with
  | nil => rfl
  | cons a l => exact cut_drop (i := 0) (by simp)
theorem set_int {a b : Int} {T : V → Prop} (e : a = b) (h : T (V.int b)) : T (V.int a) := by rw [e]; exact h
theorem Paired.tl {α β : Type} {F : α → β → Prop} : ∀ {l : List α} {m : List β}, Paired F l m → Paired F (l.drop 1) (m.drop 1)
  | _, _, .nil => .nil
  | _, _, .cons _ t => t
theorem by_tail {A B : Type} {Z : Prop} (R : A → B → Prop) (G : A → B → Prop) (use : (∀ a b, R a b → G a b) → Z) (tail : ∀ a b, R a b → G a b) : Z := use tail
end K1
set_option autoImplicit true
namespace K2
theorem below_bits {f : Nat → Bool} {st p b m r : Nat} (rn : Rnd f st p b) (hm : st ≤ m) (hr : ∀ i, r.testBit i = (decide (i < m - st) && (b >>> st).testBit (i % p))) : Bits ((b &&& (2 ^ st - 1)) ||| (r <<< st)) f m := by
  have key : ∀ i, ((b &&& (2 ^ st - 1)) ||| (r <<< st)).testBit i = (decide (i < m) && f i) := fun i => by
    rw [Nat.testBit_or, Nat.testBit_and, Nat.testBit_two_pow_sub_one, Nat.testBit_shiftLeft, hr, Nat.testBit_shiftRight]
    by_cases c : i < st
    · have := rn.bits.at_ i (by omega)
      rw [decide_eq_true c, decide_eq_false (show ¬ i ≥ st by omega), decide_eq_true (show i < m by omega), this]
      simp
    · have := rn.at_ i
      rw [if_pos (show st ≤ i by omega)] at this
      rw [decide_eq_false c, decide_eq_true (show i ≥ st by omega), this]
      by_cases c2 : i < m
      · rw [decide_eq_true c2, decide_eq_true (show i - st < m - st by omega)]
        simp
      · rw [decide_eq_false c2, decide_eq_false (show ¬ i - st < m - st by omega)]
        simp
  exact ⟨Nat.lt_pow_two_of_testBit _ fun i hi => by rw [key, decide_eq_false (by omega)]; rfl, fun i hi => by rw [key, decide_eq_true hi]; rfl⟩
theorem cut_bits {f : Nat → Bool} {st p b m : Nat} (rn : Rnd f st p b) (hm : m ≤ st + p) : Bits (b &&& (2 ^ m - 1)) f m := Bits.cut (n := m) fun i hi => rn.bits.at_ i (by omega)
theorem per_op {f g : Nat → Bool} {st p s2 p2 : Nat} (op : Bool → Bool → Bool) (a : Per f st p) (b : Per g s2 p2) : Per (fun n => op (f n) (g n)) (max st s2) (Nat.lcm p p2) := fun n hn => by
  have e1 := (a.dvd (Nat.dvd_lcm_left p p2)) n (by omega)
  have e2 := (b.dvd (Nat.dvd_lcm_right p p2)) n (by omega)
  show op (f (n + Nat.lcm p p2)) (g (n + Nat.lcm p p2)) = op (f n) (g n)
  rw [e1, e2]
theorem rest_bit (a b i : Nat) : (a ^^^ (a &&& b)).testBit i = (a.testBit i && !b.testBit i) := by
  rw [Nat.testBit_xor, Nat.testBit_and]
  cases a.testBit i <;> cases b.testBit i <;> rfl
theorem lcm_le {p q : Nat} (hp : 0 < p) (hq : 0 < q) (h : p ≤ 60) (k : q ≤ 60) : 0 < Nat.lcm p q ∧ Nat.lcm p q ≤ 3600 := by
  refine ⟨Nat.lcm_pos hp hq, ?_⟩
  have : Nat.lcm p q ≤ p * q := by unfold Nat.lcm; exact Nat.div_le_self _ _
  have := Nat.mul_le_mul h k
  omega
end K2
/-! Two sets: promises. -/
namespace K1
open PySem PySem.Spec L2 Z K2
section
variable (K : PySem.W.Frag) (C : Addr)
def sp3_take : Sp := fun vs H Q _ => ∃ (x dx r : Addr) (f : Nat → Bool) (st p b : Nat) (fs : List (Str × V)), vs = [.ref x, .ref r] ∧ H x = some (.ins C dx fs) ∧ (fs = [] ∨ ∃ r0 bt0 ct0 g st0 p0, fs = flds2 r0 bt0 ct0 g st0 p0) ∧
  SqT K H r [.int (st : Int), .int (p : Int), .int (b : Int)] ∧ Rnd f st p b ∧ st ≤ 600 ∧ p ≤ 60 ∧ ∀ H', LSt K C H' x f → Chg x H H' → Q .non H'
def sp3_bits_below : Sp := fun vs H Q _ => ∃ (f : Nat → Bool) (st p b m : Nat), vs = [.int (st : Int), .int (p : Int), .int (b : Int), .int (m : Int)] ∧ Rnd f st p b ∧ st ≤ 600 ∧ p ≤ 60 ∧ m ≤ 10000 ∧ ∀ b', Bits b' f m → Q (.int (b' : Int)) H
def sp3_bits_of : Sp := fun vs H Q _ => ∃ (r : Addr) (f : Nat → Bool) (st p b m : Nat), vs = [.ref r, .int (m : Int)] ∧ SqT K H r [.int (st : Int), .int (p : Int), .int (b : Int)] ∧ Rnd f st p b ∧ st ≤ 600 ∧ p ≤ 60 ∧ m ≤ 10000 ∧ ∀ b', Bits b' f m → Q (.int (b' : Int)) H
def RAt (H : Hp) (r : Addr) (f : Nat → Bool) (st p : Nat) : Prop := ∃ b : Nat, SqT K H r [.int (st : Int), .int (p : Int), .int (b : Int)] ∧ Rnd f st p b ∧ st ≤ 600 ∧ p ≤ 60
def sp3_side : Sp := fun vs H Q _ => ∃ (r r2 : Addr) (f g : Nat → Bool) (st p st2 p2 : Nat), vs = [.ref r, .ref r2] ∧ RAt K H r f st p ∧ RAt K H r2 g st2 p2 ∧
  ∀ H' t b1 b2, Same H H' → SqT K H' t [.int ((max st st2 : Nat) : Int), .int ((Nat.lcm p p2 : Nat) : Int), .int ((b1 : Nat) : Int), .int ((b2 : Nat) : Int)] → Bits b1 f (max st st2 + Nat.lcm p p2) → Bits b2 g (max st st2 + Nat.lcm p p2) → Q (.ref t) H'
def sp3_op_of (op : Bool → Bool → Bool) : Sp := fun vs H Q _ => ∃ (r r2 : Addr) (f g : Nat → Bool) (st p st2 p2 : Nat), vs = [.ref r, .ref r2] ∧ RAt K H r f st p ∧ RAt K H r2 g st2 p2 ∧
  ∀ H' t s m b', Same H H' → SqT K H' t [.int ((s : Nat) : Int), .int ((m : Nat) : Int), .int ((b' : Nat) : Int)] → Rnd (fun n => op (f n) (g n)) s m b' → Q (.ref t) H'
def sp3_made : Sp := fun vs H Q _ => ∃ (r : Addr) (f : Nat → Bool) (st p : Nat), vs = [.ref r] ∧ RAt K H r f st p ∧ ∀ H' x, Same H H' → LSt K C H' x f → Q (.ref x) H'
def sp3_need : Sp := fun vs H Q _ => ∃ (x : Addr) (f : Nat → Bool), vs = [.ref x] ∧ LSt K C H x f ∧ Q .non H
def sp3_op (op : Bool → Bool → Bool) : Sp := fun vs H Q _ => ∃ (x y : Addr) (f g : Nat → Bool) (T P : Nat), vs = [.ref x, .ref y] ∧ LSt K C H x f ∧ LSt K C H y g ∧ Per (fun n => op (f n) (g n)) T P ∧ 0 < P ∧ P ≤ 60 ∧ T ≤ 600 ∧
  ∀ H' z, Same H H' → LSt K C H' z (fun n => op (f n) (g n)) → Q (.ref z) H'
def sp3_two_sets : Sp := fun vs H Q _ => ∃ (j : Addr), vs = [.ref j] ∧ JugAt H j ∧ ∀ (H' : Hp) (t lw lu : Addr) (P : Nat) (ws us : List (Nat × Nat)), Chg j H H' → JugAt H' j → SqT K H' t [.int (P : Int), .ref lw, .ref lu] → WL K H' (.ref lw) ws → WL K H' (.ref lu) us → lw ≠ j → lu ≠ j → 0 < P → P ≤ 12 →
  Late ws P → Late us P → (∀ w ∈ ws, w.1 ≤ 12) → (∀ w ∈ us, w.1 ≤ 12) → ws.length ≤ 4 → us.length ≤ 4 → Q (.ref t) H'
end
theorem RAt.of {K : PySem.W.Frag} {C : Addr} {H : Hp} {x dx r bt ct : Addr} {f : Nat → Bool} {st p b : Nat} (S : LAt K C H x dx r bt ct f st p b) : RAt K H r f st p := ⟨b, S.rd, S.rnd, S.sm⟩
theorem RAt.same {K : PySem.W.Frag} {H H' : Hp} {r : Addr} {f : Nat → Bool} {st p : Nat} (e : Same H H') (h : RAt K H r f st p) : RAt K H' r f st p := by
  obtain ⟨b, a, c⟩ := h
  exact ⟨b, SqT.imm (.of e) a, c⟩
end K1
namespace K1
open PySem PySem.Spec L2 Z K2
section
variable {P : Program} {w : World} {K : PySem.W.Frag} {mg : Str → Option Value} {base : Heap} {C CN CI : Addr}
theorem ok_law_take (T : Txt K mg C CN CI)  : Pr P w K mg base "_law_take" s_law_take 1 ["_law_jug_here", "_law_many"] sp_law_take := by
  obtain ⟨f, fd, F, gl, bd⟩ := T.d__law_take
  refine ⟨f, fd, F, gl, bd, F.ok sc_law_take (fun vs H Q E h => ?_) (fun cdv A outer s H vs Q E hr h => ?_)⟩
  · obtain ⟨j, m, rfl, _⟩ := h
    rfl
  · obtain ⟨j, m, rfl, ⟨g, s0, c, hj, b1, b2⟩, m1, m2, k⟩ := h
    have hu := hu_of hr
    refine ⟨_, (pss_cons (ps_if (pt_cmpR op_gt (pe_ix ix_list (pv 0) pe_int (fun _ _ => rfl)) pe_int (nomark _)) (pss_cons (ps_asg (pe_callB call_divmod (by rfl) T.b_divmod (by decide +kernel) (pa_cons (pe_ix ix_list (pv 0) pe_int (fun _ _ => rfl)) (pa_cons (pv 1) pa_nil))) (pg_tup rfl (pgs_cons (pg_sub (pv 0) pe_int set_list) (pgs_cons (pg_name (i := 2) sc_law_take.nd rfl (Or.inl rfl)) pgs_nil))))
      (pss_one (ps_ret (pv 2)))) pss_nil)
      (pss_cons (ps_asg (pe_op op_add (pe_ix ix_list (pv 0) pe_int (fun _ _ => rfl)) pe_int) (pg_sub (pv 0) pe_int set_list))
      (pss_cons (ps_asg (pe_op op_modN (pe_callTy call_int1 (by rfl) T.b_int (by decide +kernel) (pa_cons (pe_op op_add (pe_op op_add (pe_op op_mul (pe_ix ix_list (pv 0) pe_int (fun _ _ => rfl)) (pe_op op_add pe_int (pe_op op_mul pe_int (pe_ix ix_list (pv 0) pe_int (fun _ _ => rfl))))) pe_int) (pe_ix ix_list (pv 0) pe_int (fun _ _ => rfl))) pa_nil)) pe_int) (pg_sub (pv 0) pe_int set_list))
      (pss_one (ps_ret (pe_op op_modN (pe_callTy call_int1 (by rfl) T.b_int (by decide +kernel) (pa_cons (pe_op op_fdivN (pe_ix ix_list (pv 0) pe_int (fun _ _ => rfl)) pe_int) pa_nil)) (pv 1))))))), ?_⟩
    refine ⟨_, rfl, j, _, 0, _, rfl, rfl, .inl (.inl hj), at_first, _, _, rfl, rfl, _, rfl, ?_⟩
    by_cases hg : 0 < g
    · rw [decide_eq_true hg]
      refine iteT ⟨_, rfl, j, _, 0, _, rfl, rfl, .inl (.inl hj), at_first, _, rfl, _, _, rfl, ⟨by omega, by omega⟩, fun t ht => ?_⟩
      have nt : j ≠ t := ne_of_none hj ht
      refine ⟨t, _, rfl, .inl (.inl upd_same), rfl, _, _, rfl, _, rfl, j, _, 0, 0, rfl, rfl, by rw [upd_ne nt]; exact hj, rfl, _, _, rfl, rfl, _, rfl, ?_⟩
      exact k _ (g % m) ((Chg.of (same_new ht)).trans Chg.upd) ⟨g / m, s0, c, upd_same, b1, b2⟩ (Int.emod_nonneg _ (by omega)) (Int.emod_lt_of_pos _ (by omega))
    · rw [decide_eq_false hg]
      refine iteF ⟨_, rfl, j, _, 2, _, rfl, rfl, .inl (.inl hj), at_third, _, _, rfl, rfl, _, rfl, j, _, 2, 2, rfl, rfl, hj, rfl, ?_⟩
      have j1 : upd H j (.lst ([V.int g, V.int s0, V.int c].set 2 (V.int (c + 1)))) j = some (.lst [V.int g, V.int s0, V.int (c + 1)]) := upd_same
      have c1 : Chg j H (upd H j (.lst ([V.int g, V.int s0, V.int c].set 2 (V.int (c + 1))))) := Chg.upd
      generalize upd H j (.lst ([V.int g, V.int s0, V.int c].set 2 (V.int (c + 1)))) = H1 at j1 c1 ⊢
      refine ⟨_, rfl, j, _, 1, _, rfl, rfl, .inl (.inl j1), at_snd, _, rfl, j, _, 2, _, rfl, rfl, .inl (.inl j1), at_third, _, _, rfl, rfl, .inl ⟨by decide, by decide⟩, _, _, rfl, rfl, _, _, rfl, rfl, .inl ⟨b1, b2⟩, _, _, rfl, rfl,
        _, rfl, j, _, 2, _, rfl, rfl, .inl (.inl j1), at_third, _, _, rfl, rfl, .inl ⟨_, rfl, _, _, rfl, rfl, nz3, _, rfl, j, _, 1, 1, rfl, rfl, j1, rfl, ?_⟩⟩
      have hr := fm_range (i := s0 * (40014 + 2 * (c + 1)) + 12211 + (c + 1)) (m := 2147483563) (by decide)
      refine ⟨_, rfl, j, _, 1, _, rfl, rfl, .inl (.inl upd_same), at_snd, _, _, rfl, rfl, ⟨by decide, by decide⟩, .inl ⟨_, rfl, _, rfl, _, _, rfl, rfl, by show m ≠ 0; omega, ?_⟩⟩
      have fr := fm_range (i := (Int.fmod (s0 * (40014 + 2 * (c + 1)) + 12211 + (c + 1)) 2147483563).fdiv 131) (m := m) (by omega)
      exact k _ _ (c1.trans Chg.upd) ⟨_, _, _, upd_same, Int.lt_of_lt_of_le (by decide) hr.1, Int.lt_trans hr.2 (by decide)⟩ fr.1 fr.2
end
end K1
namespace K1
open PySem PySem.Spec L2 Z K2
section
variable {P : Program} {w : World} {K : PySem.W.Frag} {mg : Str → Option Value} {base : Heap} {C CN CI : Addr}
theorem ok_law_one_of (T : Txt K mg C CN CI) (G__law_take : Pr P w K mg base "_law_take" s_law_take 1 ["_law_jug_here", "_law_many"] sp_law_take) : Pr P w K mg base "_law_one_of" s_law_one_of 2 ["_law_jug_here", "_law_some"] (sp_law_one_of K) := by
  obtain ⟨f, fd, F, gl, bd⟩ := T.d__law_one_of
  refine ⟨f, fd, F, gl, bd, F.ok sc_law_one_of (fun vs H Q E h => ?_) (fun cdv A outer s H vs Q E hr h => ?_)⟩
  · obtain ⟨j, l, xs, rfl, _⟩ := h
    rfl
  · obtain ⟨j, l, xs, rfl, hj, hne, hl, hx, hm, k⟩ := h
    have hu := hu_of hr
    refine ⟨_, (pss_one (ps_ret (pe_ix ix_list (pv 1) (pcall G__law_take (hr.mono (by decide)) (pa_cons (pv 0) (pa_cons (pe_callB call_len_seq (by rfl) T.b_len (by decide +kernel) (pa_cons (pv 1) pa_nil)) pa_nil))) (fun _ _ => rfl)))), ?_⟩
    have hp := List.length_pos_iff.mpr hx
    refine ⟨_, rfl, _, rfl, _, rfl, l, xs, rfl, .inl hl, j, (xs.length : Int), rfl, hj, by omega, by omega, fun H' i cg hj' i0 im => ?_⟩
    obtain ⟨y, hy, hat⟩ := at_of (xs := xs) i0 im
    exact ⟨l, xs, i, y, rfl, rfl, SqL.chg cg hne hl, hat, k H' y cg hj' hy⟩
end
end K1
namespace K1
open PySem PySem.Spec L2 Z K2
section
variable {P : Program} {w : World} {K : PySem.W.Frag} {mg : Str → Option Value} {base : Heap} {C CN CI : Addr}
theorem ok_law_steps (T : Txt K mg C CN CI) (G__law_one_of : Pr P w K mg base "_law_one_of" s_law_one_of 2 ["_law_jug_here", "_law_some"] (sp_law_one_of K)) : Pr P w K mg base "_law_steps" s_law_steps 3 ["_law_jug_here"] (sp2_law_steps K) := by
  obtain ⟨f, fd, F, gl, bd⟩ := T.d__law_steps
  refine ⟨f, fd, F, gl, bd, F.ok sc_law_steps (fun vs H Q E h => ?_) (fun cdv A outer s H vs Q E hr h => ?_)⟩
  · obtain ⟨j, rfl, _⟩ := h
    rfl
  · obtain ⟨j, rfl, hj, k⟩ := h
    have hu := hu_of hr
    refine ⟨_, (pss_cons (ps_set (i := 1) sc_law_steps.nd rfl (Or.inr rfl) (pcall G__law_one_of (hr.mono (by decide)) (pa_cons (pv 0) (pa_cons (pe_lst (pa_cons pe_int (pa_cons pe_int (pa_cons pe_int (pa_cons pe_int (pa_cons pe_int (pa_cons pe_int (pa_cons pe_int (pa_cons pe_int (pa_cons pe_int (pa_cons pe_int pa_nil))))))))))) pa_nil))))
      (pss_one (ps_ret (pe_tup (pa_cons (pv 1) (pa_cons (pe_op op_cat (pe_lst (pa_cons pe_int (pa_cons pe_int (pa_cons pe_int pa_nil)))) (pe_lc (own := [("_law_each", 2)]) (g := gName 2) rfl sc_law_steps.nd (pi_range2 rfl T.b_range (pa_cons pe_int (pa_cons (pe_op op_add (pv 1) pe_int) pa_nil))) (blkOk_by (own := [("_law_each", 2)]) (N := N_law_steps) (sc := defScope s_law_steps) (by decide +kernel)) (fun _ _ _ _ _ => (pg_name (i := 2) sc_law_steps.nd rfl (Or.inl rfl))) (fun _ _ _ _ _ => (pts_one (pt_cmpR op_eq (pe_op op_modN (pe_callTy call_int1 (by rfl) T.b_int (by decide +kernel) (pa_cons (pv 1) pa_nil)) (pv 2)) pe_int (nomark _)))) (fun _ _ _ _ _ => (pv 2)))) pa_nil)))))), ?_⟩
    refine ⟨_, rfl, by show 10 ≤ sizeLine; exact sl_le (by decide), fun l0 hl0 => ?_⟩
    refine ⟨j, l0, _, rfl, jug_upd (hj.ne hl0) hj, hj.ne hl0, .inl (.inl upd_same), by simp, by show 10 < 1000000; decide, fun H1 x c1 j1 hx => ?_⟩
    obtain ⟨P, rfl, P0, P12⟩ : ∃ P : Nat, x = V.int (P : Int) ∧ 0 < P ∧ P ≤ 12 := by
      simp only [List.mem_cons, List.not_mem_nil, or_false] at hx
      rcases hx with rfl | rfl | rfl | rfl | rfl | rfl | rfl | rfl | rfl | rfl
      · exact ⟨1, rfl, by decide, by decide⟩
      · exact ⟨2, rfl, by decide, by decide⟩
      · exact ⟨3, rfl, by decide, by decide⟩
      · exact ⟨4, rfl, by decide, by decide⟩
      · exact ⟨5, rfl, by decide, by decide⟩
      · exact ⟨6, rfl, by decide, by decide⟩
      · exact ⟨10, rfl, by decide, by decide⟩
      · exact ⟨12, rfl, by decide, by decide⟩
      · exact ⟨6, rfl, by decide, by decide⟩
      · exact ⟨7, rfl, by decide, by decide⟩
    have c01 := (Chg.of (j := j) (same_new (o := .lst [V.int 1, V.int 2, V.int 3, V.int 4, V.int 5, V.int 6, V.int 10, V.int 12, V.int 6, V.int 7]) hl0)).trans c1
    refine ⟨_, rfl, by show 3 ≤ sizeLine; exact sl_le (by decide), fun l1 hl1 => ?_⟩
    have s1 := same_new (o := .lst [V.int 0, V.int 0, V.int 1]) hl1
    dsimp only
    refine lcR2 2 (P - 1) ((P : Int) + 1) (by omega) (fun i => decide (P % i = 0)) (fun i => V.int (i : Int)) (by omega) (by omega) (fun R r => ⟨_, rfl, _, _, rfl, rfl, r⟩) (fun i H' R1 R2 lo hi sm r1 r2 => ?_) (fun H2 D sm hD hk => ?_)
    · refine ⟨rfl, _, rfl, .inl ⟨_, rfl, _, rfl, _, _, rfl, rfl, by show (i : Int) ≠ 0; omega, rfl, _, rfl, ?_⟩⟩
      have em : decide (V.int (Int.fmod (P : Int) (i : Int)) = V.int 0) = decide (P % i = 0) := by rw [fmodN]; exact eqIN _ 0
      by_cases e : P % i = 0
      · exact ifT (em.trans (decide_eq_true e)) ⟨_, rfl, r2 H' (fun _ _ h => h) (decide_eq_true e)⟩
      · exact ifF (em.trans (decide_eq_false e)) (r1 H' (fun _ _ h => h) (decide_eq_false e))
    have fl : ((List.range' 2 (P - 1)).filter fun i => decide (P % i = 0)).length ≤ 11 := by
      have := List.length_filter_le (fun i => decide (P % i = 0)) (List.range' 2 (P - 1))
      rw [List.length_range'] at this
      omega
    refine ⟨l1, D, _, _, rfl, rfl, sm _ _ upd_same, hk, by rw [List.length_map]; exact sl_le (by show 3 + _ ≤ _; omega), fun lg hlg => ?_⟩
    have s3 := same_new (o := .lst ([V.int 0, V.int 0, V.int 1] ++ ((List.range' 2 (P - 1)).filter fun i => decide (P % i = 0)).map (fun (i : Nat) => V.int (i : Int)))) hlg
    refine ⟨by show 2 ≤ sizeLine; exact sl_le (by decide), fun t ht => ?_⟩
    have s4 := same_new (o := .tup [V.int (P : Int), V.ref lg]) ht
    have sA := (s1.trans sm).trans (s3.trans s4)
    have nlg : lg ≠ j := ((j1.same s1).same sm).ne hlg
    refine k _ t lg P ([0, 0, 1] ++ (List.range' 2 (P - 1)).filter fun i => decide (P % i = 0)) (c01.trans (Chg.of sA)) (j1.same sA) (.inl (.inl upd_same)) nlg (s4 _ _ (by rw [upd_same]; unfold nI; rw [List.map_append]; rfl)) P0 P12 (fun s hs => ?_) (by simp) (by rw [List.length_append]; show 3 + _ ≤ 20; omega)
    rcases List.mem_append.mp hs with h | h
    · simp at h
      rcases h with rfl | rfl
      · exact .inl rfl
      · exact .inr (Nat.one_dvd P)
    · have := (List.mem_filter.mp h).2
      exact .inr (Nat.dvd_of_mod_eq_zero (of_decide_eq_true this))
end
end K1
namespace K1
open PySem PySem.Spec L2 Z K2
section
variable {P : Program} {w : World} {K : PySem.W.Frag} {mg : Str → Option Value} {base : Heap} {C CN CI : Addr}
theorem ok_law_drawn_words (T : Txt K mg C CN CI) (G__law_take : Pr P w K mg base "_law_take" s_law_take 1 ["_law_jug_here", "_law_many"] sp_law_take) (G__law_one_of : Pr P w K mg base "_law_one_of" s_law_one_of 2 ["_law_jug_here", "_law_some"] (sp_law_one_of K)) : Pr P w K mg base "_law_drawn_words" s_law_drawn_words 3 ["_law_jug_here", "_law_steps_here", "_law_high"] (sp2_drawn_words K) := by
  obtain ⟨f, fd, F, gl, bd⟩ := T.d__law_drawn_words
  refine ⟨f, fd, F, gl, bd, F.ok sc_law_drawn_words (fun vs H Q E h => ?_) (fun cdv A outer s H vs Q E hr h => ?_)⟩
  · obtain ⟨j, l, ss, hi, rfl, _⟩ := h
    rfl
  · obtain ⟨j, l, ss, hi, rfl, hj, hlj, hl, hne, hlen, hhi, k⟩ := h
    have hu := hu_of hr
    refine ⟨_, (pss_one (ps_ret (pe_lc (own := [("_law_turn", 3)]) (g := gName 3) (tt := tYes) rfl sc_law_drawn_words.nd (pi_range1 rfl T.b_range (pa_cons (pcall G__law_take (hr.mono (by decide)) (pa_cons (pv 0) (pa_cons pe_int pa_nil))) pa_nil)) (blkOk_by (own := [("_law_turn", 3)]) (N := N_law_drawn_words) (sc := defScope s_law_drawn_words) (by decide +kernel)) (fun _ _ _ _ _ => (pg_name (i := 3) sc_law_drawn_words.nd rfl (Or.inl rfl))) (fun _ _ _ _ _ => pts_nil) (fun _ _ _ _ _ => (pe_tup (pa_cons (pcall G__law_take (hr.mono (by decide)) (pa_cons (pv 0) (pa_cons (pe_op op_add (pv 2) pe_int) pa_nil))) (pa_cons (pcall G__law_one_of (hr.mono (by decide)) (pa_cons (pv 0) (pa_cons (pv 1) pa_nil))) pa_nil))))))), ?_⟩
    refine ⟨_, rfl, j, 5, rfl, hj, by decide, by decide, fun H1 n1 c1 j1 h0 h5 => ⟨n1, rfl, by omega, by omega, fun D hD => ?_⟩⟩
    have hD0 := none_chg c1 j1 hD
    have nD : D ≠ j := j1.ne hD
    refine lc_it (n := n1.toNat) (fun i H' => Chg j H H' ∧ JugAt H' j ∧ ∃ (bs : List Addr) (ws : List (Nat × Nat)), H' D = some (.lst (bs.map V.ref)) ∧ Paired (fun b (p : V × V) => SqT K H' b [p.1, p.2]) bs (ws.map wV) ∧ ws.length = i ∧ ∀ w ∈ ws, w.1 ≤ hi ∧ w.2 ∈ ss)
      ⟨chg_new c1 hD0, jug_upd nD j1, [], [], upd_same, .nil, rfl, fun w hw => by cases hw⟩ (fun i H' hi _ => hi) (fun H' _ => Nat.le_refl _) (fun i y H' H2 hi2 h yl => ?_) (fun H' h => ?_)
    · obtain ⟨rfl, rfl⟩ := yl
      obtain ⟨c2, j2, bs, ws, hk, hp, hl2, hw⟩ := h
      refine ⟨rfl, _, rfl, _, rfl, _, _, rfl, rfl, j, (hi : Int) + 1, rfl, j2, by omega, by omega, fun H3 a c3 j3 a0 a1 => ?_⟩
      have im3 := chg_imm c3 j2
      refine ⟨_, rfl, _, rfl, j, l, nI ss, rfl, j3, hlj, .inl (.inl (c3 _ _ (c2 _ _ hl hlj) hlj)), by unfold nI; simpa using hne, by unfold nI; rw [List.length_map]; omega, fun H4 y c4 j4 hy => ?_⟩
      have im4 := chg_imm c4 j3
      obtain ⟨s, hs, rfl⟩ := List.mem_map.mp hy
      obtain ⟨a', rfl⟩ := castN a a0
      refine ⟨by show 2 ≤ sizeLine; exact sl_le (by decide), fun t ht => ?_⟩
      have s5 := same_new (o := .tup [V.int (a' : Int), V.int (s : Int)]) ht
      have hk5 := s5 _ _ (c4 _ _ (c3 _ _ hk nD) nD)
      have bl2 : bs.length = ws.length := by rw [Paired.len hp, List.length_map]
      refine ⟨_, hk5, by rw [List.length_map]; exact Nat.lt_of_lt_of_le (show bs.length < 100 by omega) (sl_le (by decide)), ?_⟩
      have i5 : Imm (upd H4 t (.tup [V.int (a' : Int), V.int (s : Int)])) (upd (upd H4 t (.tup [V.int (a' : Int), V.int (s : Int)])) D (.lst (bs.map V.ref ++ [V.ref t]))) := Chg.imm Chg.upd hk5 trivial
      have iA := ((im3.trans im4).trans (.of s5)).trans i5
      have ht4 := none_chg ((c2.trans c3).trans c4) j4 ht
      refine ⟨?_, ?_, bs ++ [t], ws ++ [(a', s)], by rw [upd_same, List.map_append]; rfl, ?_, by rw [List.length_append, hl2]; rfl, fun w hw2 => ?_⟩
      · intro b o e n
        rw [upd_ne (ne_of_none e hD0)]
        exact s5 _ _ (c4 _ _ (c3 _ _ (c2 _ _ e n) n) n)
      · exact jug_upd nD (j4.same s5)
      · rw [List.map_append]
        exact Paired.snoc (F := fun b (p : V × V) => SqT K _ b [p.1, p.2]) (x := t) (y := wV (a', s)) (SqT.imm i5 (.inl (.inl upd_same))) (Paired.imm iA hp)
      · rcases List.mem_append.mp hw2 with h | h
        · exact hw w h
        · cases List.mem_singleton.mp h
          exact ⟨by show a' ≤ hi; omega, hs⟩
    · obtain ⟨c2, j2, bs, ws, hk, hp, hl2, hw⟩ := h
      exact k H' (.ref D) ws c2 j2 (fun z => nD (by injection z)) ⟨D, bs, rfl, hk, hp⟩ (by omega) hw
end
end K1
namespace K1
open PySem PySem.Spec L2 Z K2
section
variable {P : Program} {w : World} {K : PySem.W.Frag} {mg : Str → Option Value} {base : Heap} {C CN CI : Addr}
theorem ok_law_top (T : Txt K mg C CN CI)  : Pr P w K mg base "_law_top" s_law_top 1 ["_law_words"] (sp2_law_top K) := by
  obtain ⟨f, fd, F, gl, bd⟩ := T.d__law_top
  refine ⟨f, fd, F, gl, bd, F.ok sc_law_top (fun vs H Q E h => ?_) (fun cdv A outer s H vs Q E hr h => ?_)⟩
  · obtain ⟨v, ws, rfl, _⟩ := h
    rfl
  · obtain ⟨v, ws, rfl, hW, hz, k⟩ := h
    have hu := hu_of hr
    refine ⟨_, (pss_one (ps_ret (pe_callB (cr_max rfl) (by rfl) T.b_max (by decide +kernel) (pa_cons (pe_op op_cat (pe_lc (own := [("_law_first", 1), ("_law_step", 2)]) (g := gTup K 2 (gCons (gName 1) (gCons (gName 2) gNil))) (tt := tYes) rfl sc_law_top.nd (pi_list (pv 0)) (blkOk_by (own := [("_law_first", 1), ("_law_step", 2)]) (N := N_law_top) (sc := defScope s_law_top) (by decide +kernel)) (fun _ _ _ _ _ => (pg_tup rfl (pgs_cons (pg_name (i := 1) sc_law_top.nd rfl (Or.inl rfl)) (pgs_cons (pg_name (i := 2) sc_law_top.nd rfl (Or.inl rfl)) pgs_nil)))) (fun _ _ _ _ _ => pts_nil) (fun _ _ _ _ _ => (pe_op op_add (pv 1) pe_int))) (pe_lst (pa_cons pe_int pa_nil))) pa_nil)))), ?_⟩
    unfold tRet tCB tCons tOp
    dsimp only
    refine lcWL ws (fun _ => true) (fun w => V.int ((w.1 + 1 : Nat) : Int)) (by omega) rfl hW (fun b w H' R1 R2 hm sm hq h1 h2 => ?_) (fun H1 D sm hD hk => ?_)
    · refine ⟨b, _, rfl, hq, rfl, _, _, rfl, _, _, rfl, rfl, rfl, yesI ?_⟩
      exact ⟨_, rfl, _, _, rfl, rfl, h2 H' (fun _ _ h => h) rfl⟩
    rw [List.filter_eq_self.mpr (by simp)] at hk
    refine ⟨by show 1 ≤ sizeLine; exact sl_le (by decide), fun E hE => ?_⟩
    have s2 := same_new (o := .lst [V.int 0]) hE
    refine ⟨D, E, _, _, rfl, rfl, s2 _ _ hk, upd_same, by rw [List.length_map]; exact sl_le (by show ws.length + 1 ≤ _; omega), fun g hg => ?_⟩
    have s3 := same_new (o := .lst (ws.map (fun w => V.int ((w.1 + 1 : Nat) : Int)) ++ [V.int 0])) hg
    refine ⟨g, ws.map (fun w => ((w.1 + 1 : Nat) : Int)) ++ [0], rfl, .inl (.inl (by rw [upd_same, List.map_append, List.map_map]; rfl)), by simp, fun m hm hmax => ?_⟩
    have e : m = ((top ws : Nat) : Int) := by
      have m0 := hmax 0 (by simp)
      have t := top_is (ws := ws) (m := m.toNat) (by
        rcases List.mem_append.mp hm with h | h
        · obtain ⟨w, hw, rfl⟩ := List.mem_map.mp h
          exact .inr ⟨w, hw, by omega⟩
        · simp at h
          exact .inl (by omega)) (fun w hw => by
          have := hmax _ (List.mem_append_left _ (List.mem_map_of_mem (f := fun w : Nat × Nat => ((w.1 + 1 : Nat) : Int)) hw))
          omega)
      omega
    rw [e]
    exact k _ ((sm.trans s2).trans s3)
end
end K1
namespace K1
open PySem PySem.Spec L2 Z K2
section
variable {P : Program} {w : World} {K : PySem.W.Frag} {mg : Str → Option Value} {base : Heap} {C CN CI : Addr}
theorem ok_law_has (T : Txt K mg C CN CI)  : Pr P w K mg base "_law_has" s_law_has 1 ["_law_words", "_law_number"] (sp2_law_has K) := by
  obtain ⟨f, fd, F, gl, bd⟩ := T.d__law_has
  refine ⟨f, fd, F, gl, bd, F.ok sc_law_has (fun vs H Q E h => ?_) (fun cdv A outer s H vs Q E hr h => ?_)⟩
  · obtain ⟨v, ws, n, rfl, _⟩ := h
    rfl
  · obtain ⟨v, ws, n, rfl, hW, k⟩ := h
    have hu := hu_of hr
    refine ⟨_, (pss_cons (ps_for PassesOwn.never rfl (pi_list (pv 0)) (pg_tup rfl (pgs_cons (pg_name (i := 2) sc_law_has.nd rfl (Or.inl rfl)) (pgs_cons (pg_name (i := 3) sc_law_has.nd rfl (Or.inl rfl)) pgs_nil)))
      (pss_one (ps_if (PW.pt (pw_or (pt_cmpR op_eq (pv 1) (pv 2) (nomark _)) (pw_or1 (PW.pt (pw_and (pt_cmpR op_gt (pv 3) pe_int (nomark _)) (pw_and (pt_cmpR op_gt (pv 1) (pv 2) (nomark _)) (pw_and1 (pt_cmpR op_eq (pe_op op_modN (pe_callTy call_int1 (by rfl) T.b_int (by decide +kernel) (pa_cons (pe_op op_sub (pv 1) (pv 2)) pa_nil)) (pv 3)) pe_int (nomark _))))))))) (pss_one (ps_ret pe_bl)) pss_nil)))
      (pss_one (ps_ret pe_bl))), ?_⟩
    refine forWL (fun i σ H' => H' = H ∧ has (ws.take i) n = false ∧ ∃ x2 x3, σ = [some v, some (.int (n : Int)), x2, x3]) rfl hW ⟨rfl, rfl, _, _, rfl⟩ (fun i σ H' h => by rw [h.1]; exact fun _ _ h => h) ?_ ?_
    · rintro i b w σ H' ew hq ⟨rfl, hn, x2, x3, rfl⟩
      refine ⟨b, _, rfl, hq, rfl, _, _, rfl, _, _, rfl, rfl, ?_⟩
      have yes : hasW w n = true → tRet (tC (V.bl true)) { nx := fun x H' => Q V.non H', rt := Q } [some v] H' := fun hy => by
        have : has ws n = true := by
          unfold has
          exact List.any_eq_true.mpr ⟨w, List.mem_of_getElem? ew, hy⟩
        rw [this] at k
        exact k
      have no : hasW w n = false → H' = H' ∧ has (ws.take (i + 1)) n = false ∧ ∃ x2' x3', [some v, some (.int (n : Int)), some (V.int ((w.1 : Nat) : Int)), some (V.int ((w.2 : Nat) : Int))] = [some v, some (.int (n : Int)), x2', x3'] := fun hy => ⟨rfl, by rw [taken ew, hn, hy]; rfl, _, _, rfl⟩
      refine ⟨_, rfl, _, rfl, rfl, _, rfl, ?_⟩
      by_cases e : n = w.1
      · refine ifT ((eqIN n w.1).trans (decide_eq_true e)) ?_
        exact ifT rfl (yes (hasW_iff.mpr (.inl e)))
      refine ifF ((eqIN n w.1).trans (decide_eq_false e)) ?_
      refine ⟨_, rfl, _, _, rfl, rfl, _, rfl, ?_⟩
      by_cases e2 : 0 < w.2
      · refine ifT (decide_eq_true (show (0 : Int) < (w.2 : Int) by omega)) ?_
        refine ⟨_, rfl, _, rfl, _, _, rfl, rfl, _, rfl, ?_⟩
        by_cases e3 : w.1 < n
        · refine ifT (decide_eq_true (show (w.1 : Int) < (n : Int) by omega)) ?_
          refine ⟨_, rfl, _, rfl, _, _, rfl, rfl, .inl ⟨_, rfl, _, rfl, _, _, rfl, rfl, by show (w.2 : Int) ≠ 0; omega, rfl, _, rfl, ?_⟩⟩
          have em : decide (V.int (Int.fmod ((n : Int) - (w.1 : Int)) (w.2 : Int)) = V.int 0) = decide ((n - w.1) % w.2 = 0) := by
            rw [show (n : Int) - (w.1 : Int) = ((n - w.1 : Nat) : Int) by omega, fmodN]
            exact eqIN _ 0
          by_cases e4 : (n - w.1) % w.2 = 0
          · exact ifT (em.trans (decide_eq_true e4)) (yes (hasW_iff.mpr (.inr ⟨e2, e3, e4⟩)))
          · refine ifF (em.trans (decide_eq_false e4)) (no ?_)
            rw [Bool.eq_false_iff]
            intro z
            rcases hasW_iff.mp z with z | ⟨_, _, z⟩
            · exact e z
            · exact e4 z
        · refine ifF (decide_eq_false (show ¬ (w.1 : Int) < (n : Int) by omega)) (ifF rfl (no ?_))
          rw [Bool.eq_false_iff]
          intro z
          rcases hasW_iff.mp z with z | ⟨_, z, _⟩
          · exact e z
          · exact e3 z
      · refine ifF (decide_eq_false (show ¬ (0 : Int) < (w.2 : Int) by omega)) (ifF rfl (no ?_))
        rw [Bool.eq_false_iff]
        intro z
        rcases hasW_iff.mp z with z | ⟨z, _⟩
        · exact e z
        · exact e2 z
    · rintro σ H' ⟨rfl, hn, x2, x3, rfl⟩
      rw [List.take_length] at hn
      rw [hn] at k
      exact k
end
end K1
namespace K1
open PySem PySem.Spec L2 Z K2
section
variable {P : Program} {w : World} {K : PySem.W.Frag} {mg : Str → Option Value} {base : Heap} {C CN CI : Addr}
theorem ok_law_bits (T : Txt K mg C CN CI) (G__law_has : Pr P w K mg base "_law_has" s_law_has 1 ["_law_words", "_law_number"] (sp2_law_has K)) : Pr P w K mg base "_law_bits" s_law_bits 2 ["_law_words", "_law_many"] (sp2_law_bits K) := by
  obtain ⟨f, fd, F, gl, bd⟩ := T.d__law_bits
  refine ⟨f, fd, F, gl, bd, F.ok sc_law_bits (fun vs H Q E h => ?_) (fun cdv A outer s H vs Q E hr h => ?_)⟩
  · obtain ⟨v, ws, m, rfl, _⟩ := h
    rfl
  · obtain ⟨v, ws, m, rfl, hW, hm, k⟩ := h
    have hu := hu_of hr
    refine ⟨_, (pss_one (ps_ret (pe_lc (own := [("_law_n", 2)]) (g := gName 2) (tt := tYes) rfl sc_law_bits.nd (pi_range1 rfl T.b_range (pa_cons (pv 1) pa_nil)) (blkOk_by (own := [("_law_n", 2)]) (N := N_law_bits) (sc := defScope s_law_bits) (by decide +kernel)) (fun _ _ _ _ _ => (pg_name (i := 2) sc_law_bits.nd rfl (Or.inl rfl))) (fun _ _ _ _ _ => pts_nil) (fun _ _ _ _ _ => (pcall G__law_has (hr.mono (by decide)) (pa_cons (pv 0) (pa_cons (pv 2) pa_nil))))))), ?_⟩
    refine lcR1 m (fun _ => true) (fun i => V.bl (has ws i)) (by omega) (fun R r => ⟨_, rfl, r⟩) (fun i H' R1 R2 hi sm r1 r2 => ⟨rfl, yesI ?_⟩) (fun H' D sm hD hk => k H' D sm hD ?_)
    · exact ⟨_, rfl, _, rfl, v, ws, i, rfl, hW.same sm, r2 H' (fun _ _ h => h) rfl⟩
    · rw [hk, List.filter_eq_self.mpr (by simp), List.map_map]
      rfl
end
end K1
namespace K1
open PySem PySem.Spec L2 Z K2
section
variable {P : Program} {w : World} {K : PySem.W.Frag} {mg : Str → Option Value} {base : Heap} {C CN CI : Addr}
theorem ok_number_in (T : Txt K mg C CN CI)  : Pr P w K mg base "number_in" s_number_in 1 ["word", "high"] sp2_number_in := by
  obtain ⟨f, fd, F, gl, bd⟩ := T.d_number_in
  refine ⟨f, fd, F, gl, bd, F.ok sc_number_in (fun vs H Q E h => ?_) (fun cdv A outer s H vs Q E hr h => ?_)⟩
  · obtain ⟨i, hi, rfl, _⟩ := h
    rfl
  · obtain ⟨i, hi, rfl, hh, h1, h2, h9, k⟩ := h
    have hu := hu_of hr
    refine ⟨_, (pss_cons (ps_if (PW.pt (pw_or (pt_cmpR op_eq (pv 0) pe_str (nomark _)) (pw_or (pt_cmpR op_gt (pe_callB call_len_str (by rfl) T.b_len (by decide +kernel) (pa_cons (pv 0) pa_nil)) (pe_callB call_len_str (by rfl) T.b_len (by decide +kernel) (pa_cons (pe_callTy call_str_int (by rfl) T.b_str (by decide +kernel) (pa_cons (pv 1) pa_nil)) pa_nil)) (nomark _)) (pw_or1 (PW.pt (pw_and (pt_cmpR op_eq (pe_ix ix_str (pv 0) pe_int (fun _ _ => rfl)) pe_str (nomark _)) (pw_and1 (pt_cmpR op_ne (pv 0) pe_str (nomark _))))))))) (pss_one (ps_ret pe_non)) pss_nil)
      (pss_cons (ps_for PassesOwn.never rfl (pi_str (pv 0)) (pg_name (i := 2) sc_number_in.nd rfl (Or.inl rfl))
      (pss_one (ps_if (pt_cmpR op_notIn_sign (pv 2) (pe_globS rfl T.c_FIGURES) (by rfl)) (pss_one (ps_ret pe_non)) pss_nil)))
      (pss_cons (ps_set (i := 3) sc_number_in.nd rfl (Or.inl rfl) (pe_callTy call_int_str (by rfl) T.b_int (by decide +kernel) (pa_cons (pv 0) pa_nil)))
      (pss_one (ps_ret (pe_ifExp (pt_cmpR op_le (pv 3) (pv 1) (nomark _)) (pv 3) pe_non)))))), ?_⟩
    have e1 := numS_ne h1
    have hl := num_len h1 h9
    have hz : (numS i).length ≤ sizeLine := sl_le (by omega)
    obtain ⟨e2, e5⟩ : decide (((Str.ofString (toString hi)).length : Int) < ((numS i).length : Int)) = false ∧ (Str.ofString (toString hi)).length ≤ 100 ∧ hi.natAbs.log2 < 1920 := by
      rcases hh with rfl | rfl
      · refine ⟨decide_eq_false ?_, ?_, by decide +kernel⟩
        · rw [n1000]; omega
        · rw [n1000]; omega
      · have := num_len60 h1 h2
        refine ⟨decide_eq_false ?_, ?_, by decide +kernel⟩
        · rw [n60]; omega
        · rw [n60]; omega
    obtain ⟨c, t, hc, h0⟩ := num_head h1 h9
    refine ⟨_, rfl, rfl, false, congrArg V.bl e1, iteF ?_⟩
    refine ⟨_, rfl, _, rfl, hz, _, rfl, _, rfl, e5.2, _, rfl, sl_le (Nat.le_trans e5.1 (by decide)), _, _, rfl, rfl, false, congrArg V.bl e2, iteF ?_⟩
    refine ⟨_, rfl, _, _, c, rfl, rfl, hz, ?_, rfl, _, rfl, ?_⟩
    · show atI (TL.tl (numS i)) 0 = some c
      rw [hc]
      exact at_first
    have go : tSeq (tFor (iStr (tVar 0)) (gName 2) (tIfS (tTest (tOp (fun x y H Q => ∃ c z, x = V.str { cps := #[c] } ∧ y = V.str z ∧ Q (V.bl !decide (c ∈ z.cps.toList)) H) (tVar 2) (tC (V.str (Str.ofString "0123456789"))))) (tRet (tC V.non)) tNext))
      (tSeq (tAsg (tCB (fun xs H Q => ∃ a n, xs = [V.str a] ∧ intText? a = some n ∧ a.length ≤ 640 ∧ Q (V.int n) H) (tCons (tVar 0) tNil)) (gName 3))
        (tRet (tIf (tTest (tOp (rI0 fun i j => V.bl (decide (i ≤ j))) (tVar 3) (tVar 1))) (tVar 3) (tC V.non)))) { nx := fun x H' => Q V.non H', rt := Q } (L2.start N_number_in [V.str (numS i), V.int hi]) H := ?_
    · by_cases z : c = 48
      · have e3 : decide (V.str ⟨#[c]⟩ = V.str (Str.ofString "0")) = true := decide_eq_true (by subst z; rfl)
        rw [e3]
        refine iteT ⟨_, rfl, rfl, _, rfl, ?_⟩
        have e4 : decide (V.str (numS i) = V.str (Str.ofString "0")) = true := decide_eq_true (congrArg V.str (h0 z))
        rw [e4]
        exact go
      · have e3 : decide (V.str ⟨#[c]⟩ = V.str (Str.ofString "0")) = false := str_ne (by rw [z0_tl]; intro q; exact z (List.cons.inj q).1)
        rw [e3]
        exact go
    refine ⟨_, rfl, _, rfl, ?_⟩
    refine K1.for_it (n := (numS i).cps.size) (fun k σ H' => H' = H ∧ ∃ x, σ = [some (.str (numS i)), some (.int hi), x, none]) ⟨rfl, _, rfl⟩ (fun k σ H' hk p => hk) (fun σ H' p => Nat.le_refl _) ?_ ?_
    · rintro k v σ H1 H2 hk ⟨rfl, x, rfl⟩ ⟨rfl, d, hd, rfl⟩
      have hm : d ∈ TL.tl (numS i) := by
        have := Array.mem_of_getElem? hd
        simpa using this
      have dg := num_dig h1 d hm
      refine ⟨_, rfl, d, _, rfl, rfl, false, congrArg V.bl (by rw [digit_in dg.1 dg.2]; rfl), iteF ?_⟩
      exact ⟨rfl, _, rfl⟩
    · rintro σ H1 ⟨rfl, x, rfl⟩
      refine ⟨_, rfl, _, i, rfl, num_int h1 h9, by omega, ?_⟩
      refine ⟨_, rfl, _, rfl, _, _, rfl, rfl, true, congrArg V.bl (decide_eq_true h2), iteT ?_⟩
      exact ⟨_, rfl, k⟩
end
end K1
namespace K1
open PySem PySem.Spec L2 Z K2
section
variable {P : Program} {w : World} {K : PySem.W.Frag} {mg : Str → Option Value} {base : Heap} {C CN CI : Addr}
theorem ok_word_in (T : Txt K mg C CN CI) (G_number_in : Pr P w K mg base "number_in" s_number_in 1 ["word", "high"] sp2_number_in) : Pr P w K mg base "_word_in" s_word_in 2 ["word"] (sp2_word_in K) := by
  obtain ⟨f, fd, F, gl, bd⟩ := T.d__word_in
  refine ⟨f, fd, F, gl, bd, F.ok sc_word_in (fun vs H Q E h => ?_) (fun cdv A outer s H vs Q E hr h => ?_)⟩
  · obtain ⟨w, rfl, _⟩ := h
    rfl
  · obtain ⟨w, rfl, w1, w2, k⟩ := h
    have hu := hu_of hr
    refine ⟨_, (pss_cons (ps_asg (pe_partition (pv 0) pe_str) (pg_tup rfl (pgs_cons (pg_name (i := 1) sc_word_in.nd rfl (Or.inl rfl)) (pgs_cons (pg_name (i := 2) sc_word_in.nd rfl (Or.inl rfl)) (pgs_cons (pg_name (i := 3) sc_word_in.nd rfl (Or.inl rfl)) pgs_nil)))))
      (pss_cons (ps_set (i := 4) sc_word_in.nd rfl (Or.inl rfl) (pcall G_number_in (hr.mono (by decide)) (pa_cons (pv 1) (pa_cons (pe_globI rfl T.c_MOST_NUMBER) pa_nil))))
      (pss_cons (ps_if (pt_cmp (pc_isN (pv 4)) rfl) (pss_one (ps_ret pe_non)) pss_nil)
      (pss_cons (ps_if (pt_cmpR op_eq (pv 3) pe_str (nomark _)) (pss_one (ps_ret (pe_tup (pa_cons (pv 4) (pa_cons (pe_callB call_len_str (by rfl) T.b_len (by decide +kernel) (pa_cons (pv 2) pa_nil)) pa_nil))))) pss_nil)
      (pss_cons (ps_set (i := 5) sc_word_in.nd rfl (Or.inl rfl) (pcall G_number_in (hr.mono (by decide)) (pa_cons (pv 3) (pa_cons (pe_globI rfl T.c_MOST_STEP) pa_nil))))
      (pss_one (ps_ret (pe_ifExp (PW.pt (pw_or (pt_cmp (pc_isN (pv 5)) rfl) (pw_or1 (pt_cmpR op_lt (pv 5) pe_int (nomark _))))) pe_non (pe_tup (pa_cons (pv 4) (pa_cons (pv 5) pa_nil))))))))))), ?_⟩
    have wl := wordT_len w1 (show w.2 ≤ 999 by omega)
    refine ⟨_, rfl, ⟨_, rfl⟩, _, _, rfl, rfl, by decide +kernel, sl_le (Nat.le_trans wl (by decide)), fun t ht => ?_⟩
    rw [part_w]
    have s1 := same_new (o := HO.tup [.str (numS (w.1 : Int)), .str (if w.2 = 0 then Str.empty else Str.ofString "+"), .str (if w.2 ≤ 1 then Str.empty else numS (w.2 : Int))]) ht
    refine ⟨t, _, rfl, .inl (.inl upd_same), rfl, _, _, rfl, _, _, rfl, _, _, rfl, rfl, ?_⟩
    dsimp only at s1 ⊢
    generalize upd H t _ = H1 at s1 ⊢
    refine ⟨_, rfl, w.1, 1000, rfl, .inl rfl, by omega, by omega, by omega, ?_⟩
    refine ⟨_, rfl, false, congrArg V.bl (by simp), iteF ?_⟩
    by_cases h1 : w.2 ≤ 1
    · rw [if_pos h1]
      refine ⟨_, rfl, rfl, true, congrArg V.bl (decide_eq_true (congrArg V.str (TL.ext_tl (by rw [e_tl]; rfl)))), iteT ?_⟩
      have ep : ((if w.2 = 0 then Str.empty else Str.ofString "+") : Str).length = w.2 := by
        by_cases h0 : w.2 = 0
        · rw [if_pos h0, h0]; rfl
        · rw [if_neg h0, plus_len]; omega
      refine ⟨_, rfl, _, rfl, _, rfl, by rw [ep]; exact sl_le (by omega), by show 2 ≤ sizeLine; exact sl_le (by decide), fun t2 ht2 => ?_⟩
      dsimp only
      rw [ep]
      exact k _ t2 (s1.trans (same_new ht2)) (.inl (.inl upd_same))
    · rw [if_neg h1]
      refine ⟨_, rfl, rfl, false, congrArg V.bl (numS_ne (by omega)), iteF ?_⟩
      refine ⟨_, rfl, w.2, 60, rfl, .inr rfl, by omega, by omega, by omega, ?_⟩
      refine ⟨_, rfl, false, congrArg V.bl (by simp), iteF ?_⟩
      refine ⟨_, rfl, _, _, rfl, rfl, false, congrArg V.bl (decide_eq_false (by omega)), iteF ?_⟩
      exact ⟨_, rfl, _, rfl, by show 2 ≤ sizeLine; exact sl_le (by decide), fun t2 ht2 => k _ t2 (s1.trans (same_new ht2)) (.inl (.inl upd_same))⟩
end
end K1
namespace K1
open PySem PySem.Spec L2 Z K2
section
variable {P : Program} {w : World} {K : PySem.W.Frag} {mg : Str → Option Value} {base : Heap} {C CN CI : Addr}
theorem ok_words_in (T : Txt K mg C CN CI) (G__word_in : Pr P w K mg base "_word_in" s_word_in 2 ["word"] (sp2_word_in K)) : Pr P w K mg base "words_in" s_words_in 3 ["text"] (sp2_words_in K) := by
  obtain ⟨f, fd, F, gl, bd⟩ := T.d_words_in
  refine ⟨f, fd, F, gl, bd, F.ok sc_words_in (fun vs H Q E h => ?_) (fun cdv A outer s H vs Q E hr h => ?_)⟩
  · obtain ⟨ws, P, rfl, _⟩ := h
    rfl
  · obtain ⟨ws, P, rfl, ok, k⟩ := h
    have hu := hu_of hr
    refine ⟨_, (pss_cons (ps_if (pt_not (pt_val (pe_callB call_isi (by rfl) T.b_isinstance (by decide +kernel) (pa_cons (pv 0) (pa_cons (pe_bty "str" (by rfl) T.b_str (by decide +kernel)) pa_nil))))) (pss_one (ps_ret pe_non)) pss_nil)
      (pss_cons (ps_set (i := 1) sc_words_in.nd rfl (Or.inl rfl) (pe_ifExp (pt_cmpR op_ne (pv 0) pe_str (nomark _)) (pe_lc (own := [("word", 2)]) (g := gName 2) (tt := tYes) rfl sc_words_in.nd (pi_list (pe_split (pv 0) pe_str)) (blkOk_by (own := [("word", 2)]) (N := N_words_in) (sc := defScope s_words_in) (by decide +kernel)) (fun _ _ _ _ _ => (pg_name (i := 2) sc_words_in.nd rfl (Or.inl rfl))) (fun _ _ _ _ _ => pts_nil) (fun _ _ _ _ _ => (pcall G__word_in (hr.mono (by decide)) (pa_cons (pv 2) pa_nil)))) (pe_lst pa_nil)))
      (pss_one (ps_ret (pe_ifExp (pt_cmpR (op_inD (by have h := hr.un; show (Around.deeper A _).units + 65 < cLine; omega)) pe_non (pv 1) (by rfl)) pe_non (pe_callTy call_tupP (by rfl) T.b_tuple (by decide +kernel) (pa_cons (pv 1) pa_nil))))))), ?_⟩
    have few := ok.few
    have p60 := ok.p60
    have hw : ∀ w ∈ ws, w.1 ≤ 999 ∧ w.2 ≤ 60 := fun w hw => ⟨by have := ok.first w hw; omega, by
      rcases ok.steps w hw with e | d
      · omega
      · have := Nat.le_of_dvd ok.p0 d; omega⟩
    have hl := setT_len (ws := ws) fun w h => ⟨(hw w h).1, by have := (hw w h).2; omega⟩
    refine ⟨_, rfl, _, _, _, _, _, rfl, .ty _, .base (.str _), kit_ty (r := true) (by decide +kernel), _, rfl, iteF ?_⟩
    refine ⟨_, rfl, rfl, _, rfl, ?_⟩
    have fin : ∀ (H' : Hp) (D : Addr) (bs : List Addr) (x : Option V), Same H H' → H' D = some (.lst (bs.map V.ref)) → Paired (fun b (p : V × V) => SqT K H' b [p.1, p.2]) bs (ws.map wV) →
        tRet (tIf (tTest (tOp (rInD K) (tC V.non) (tVar 1))) (tC V.non) (tCB (rTupP K) (tCons (tVar 1) tNil))) { nx := fun x H' => Q V.non H', rt := Q } [some (.str (setT ws)), some (.ref D), x] H' := fun H' D bs x sm hD hp => by
      refine ⟨_, rfl, .none, ws.map wD, .non, .lst (.inl (.inl hD)) (dp_words hp), rfl, shape_words ws, _, rfl, ifF (none_words ws) ?_⟩
      refine ⟨_, rfl, D, _, rfl, .inl (.inl hD), fun n o hn ho => k _ _ (sm.trans (same_new hn)) ⟨n, bs, rfl, PT.new ho, Paired.imm (.of (same_new hn)) hp⟩⟩
    by_cases e : ws = []
    · subst e
      refine ifF rfl ?_
      exact ⟨Nat.zero_le _, fun D hD => fin _ D [] _ (same_new hD) upd_same .nil⟩
    · refine ifT (by rw [set_none e]; rfl) ?_
      unfold gName
      dsimp only
      refine lcMk (ls := ws) (fun w => V.str (wordT w)) (fun w q => q = wV w) (fun l2 H2 => Same H H2 ∧ H l2 = none ∧ H2 l2 = some (.lst (ws.map fun w => V.str (wordT w)))) (fun R hR => ?_) (by omega) (fun l2 H2 pre => ⟨_, .inl (.inl pre.2.2)⟩) (fun l2 H2 D pre hD => ?_)
      · refine ⟨_, rfl, ⟨_, rfl⟩, _, _, rfl, rfl, by decide +kernel, sl_le (by omega), fun l2 hl2 => ?_⟩
        rw [split_w e]
        exact hR l2 _ ⟨same_new hl2, hl2, by rw [upd_same, List.map_map]; rfl⟩
      refine ⟨fun H' => Same H2 H', fun _ _ h => h, fun H' o h c u e => ?_, fun H' h => .inl (.inl (h _ _ pre.2.2)), fun w H' acc R hp iv hk hR => ?_, fun H' bs qs iv hk hq hg => ?_⟩
      · rw [upd_ne (ne_of_none e hD)]
        exact h _ _ e
      · exact ⟨rfl, _, rfl, w, rfl, (hw w hp).1, (hw w hp).2, fun H3 b sm hk3 => hR b (wV w) H3 (iv.trans sm) (.of sm) (sm _ _ hk) rfl hk3⟩
      · have eq := paired_map hg
        subst eq
        exact fin H' D bs _ (pre.1.trans iv) hk hq
end
end K1
namespace K1
open PySem PySem.Spec L2 Z K2
section
variable {P : Program} {w : World} {K : PySem.W.Frag} {mg : Str → Option Value} {base : Heap} {C CN CI : Addr}
theorem ok_common_step (T : Txt K mg C CN CI)  : Pr P w K mg base "common_step" s_common_step 1 ["words"] (sp2_common_step K) := by
  obtain ⟨f, fd, F, gl, bd⟩ := T.d_common_step
  refine ⟨f, fd, F, gl, bd, F.ok sc_common_step (fun vs H Q E h => ?_) (fun cdv A outer s H vs Q E hr h => ?_)⟩
  · obtain ⟨v, ws, P, rfl, _⟩ := h
    rfl
  · obtain ⟨v, ws, P, rfl, ⟨a, rs, rfl, ht, hp⟩, ok, k⟩ := h
    have hu := hu_of hr
    refine ⟨_, (pss_cons (ps_set (i := 1) sc_common_step.nd rfl (Or.inl rfl) pe_int)
      (pss_cons (ps_for PassesOwn.never rfl (pi_tup (pv 0)) (pg_tup rfl (pgs_cons (pg_name (i := 2) sc_common_step.nd rfl (Or.inl rfl)) (pgs_cons (pg_name (i := 3) sc_common_step.nd rfl (Or.inl rfl)) pgs_nil)))
      (pss_one (ps_set (i := 1) sc_common_step.nd rfl (Or.inl rfl) (pe_callBfun cr_lcm (by rfl) T.g_lcm (pa_cons (pv 1) (pa_cons (pe_callB (call_max2 rfl) (by rfl) T.b_max (by decide +kernel) (pa_cons (pv 3) (pa_cons pe_int pa_nil))) pa_nil))))))
      (pss_one (ps_ret (pv 1))))), ?_⟩
    have p60 := ok.p60
    refine ⟨_, rfl, _, rfl, ⟨_, ht.sq⟩, ?_⟩
    refine for_pairs (fun i σ H' => H' = H ∧ ∃ x2 x3, σ = [some (.ref a), some (.int (((ws.take i).foldl comF 1 : Nat) : Int)), x2, x3]) ⟨rfl, _, _, rfl⟩ ht hp (fun i σ H' h => by rw [h.1]; exact Imm.refl _) ?_ ?_
    · rintro i b p σ H' eb ep hq ⟨rfl, x2, x3, rfl⟩
      obtain ⟨w, ew, rfl⟩ := map_at ep
      have le1 : (ws.take i).foldl comF 1 ≤ P := Nat.le_of_dvd ok.p0 (com_dvd (fun z hz => ok.steps z (List.mem_of_mem_take hz)) (Nat.one_dvd P))
      have le2 : w.2 ≤ P := by
        rcases ok.steps w (List.mem_of_getElem? ew) with e | d
        · omega
        · exact Nat.le_of_dvd ok.p0 d
      refine ⟨b, _, rfl, hq, rfl, _, _, rfl, _, _, rfl, rfl, _, rfl, _, rfl, _, _, rfl, (ws.take i).foldl comF 1, max w.2 1, ?_, by omega, by omega, ?_⟩
      · show [V.int _, V.int (if (1 : Int) > ((w.2 : Nat) : Int) then 1 else ((w.2 : Nat) : Int))] = _
        congr 3
        split <;> omega
      · refine ⟨rfl, some (wV w).1, some (wV w).2, ?_⟩
        rw [List.take_add_one, ew, List.foldl_append]
        rfl
    · rintro σ H' ⟨rfl, x2, x3, rfl⟩
      rw [List.length_map, List.take_length]
      exact ⟨_, rfl, k⟩
end
end K1
namespace K1
open PySem PySem.Spec L2 Z K2
section
variable {P : Program} {w : World} {K : PySem.W.Frag} {mg : Str → Option Value} {base : Heap} {C CN CI : Addr}
theorem ok_all_bits (T : Txt K mg C CN CI)  : Pr P w K mg base "all_bits" s_all_bits 1 ["many"] sp2_all_bits := by
  obtain ⟨f, fd, F, gl, bd⟩ := T.d_all_bits
  refine ⟨f, fd, F, gl, bd, F.ok sc_all_bits (fun vs H Q E h => ?_) (fun cdv A outer s H vs Q E hr h => ?_)⟩
  · obtain ⟨m, rfl, _⟩ := h
    rfl
  · obtain ⟨m, rfl, hm, k⟩ := h
    have hu := hu_of hr
    refine ⟨_, (pss_one (ps_ret (pe_op op_sub (pe_op op_shlNN pe_int (pv 0)) pe_int))), ?_⟩
    refine ⟨_, rfl, 1, m, rfl, rfl, ⟨1, by decide, by omega⟩, _, _, rfl, rfl, ?_⟩
    have e : (((1 <<< m : Nat) : Int) - 1) = ((2 ^ m - 1 : Nat) : Int) := by
      rw [Nat.one_shiftLeft]
      have := Nat.two_pow_pos m
      omega
    show Q (.int (((1 <<< m : Nat) : Int) - 1)) H
    rw [e]
    exact k
end
end K1
namespace K1
open PySem PySem.Spec L2 Z K2
section
variable {P : Program} {w : World} {K : PySem.W.Frag} {mg : Str → Option Value} {base : Heap} {C CN CI : Addr}
theorem ok_settled (T : Txt K mg C CN CI) (G_all_bits : Pr P w K mg base "all_bits" s_all_bits 1 ["many"] sp2_all_bits) : Pr P w K mg base "settled" s_settled 2 ["start", "step", "bits"] (sp2_settled K) := by
  obtain ⟨f, fd, F, gl, bd⟩ := T.d_settled
  refine ⟨f, fd, F, gl, bd, F.ok sc_settled (fun vs H Q E h => ?_) (fun cdv A outer s H vs Q E hr h => ?_)⟩
  · obtain ⟨s0, p, b, f, rfl, _⟩ := h
    rfl
  · obtain ⟨s0, p, b, f, rfl, hp, hp2, hs, per, at_, k⟩ := h
    have hu := hu_of hr
    refine ⟨_, (pss_cons (ps_set (i := 3) sc_settled.nd rfl (Or.inl rfl) (pe_op op_shrNN (pv 2) (pv 0)))
      (pss_cons (ps_par3 (i := 4) (j := 5) (l := 6) rfl sc_settled.nd rfl rfl rfl (by decide) (by decide) (by decide) rfl rfl rfl (pa_cons (pv 1) (pa_cons (pv 1) (pa_cons pe_int pa_nil))) (by rfl))
      (pss_cons (ps_while PassesOwn.never (pt_cmpR op_gt (pv 5) pe_int (nomark _)) (pss_cons (ps_if (pt_cmpR op_ne (pe_op op_modN (pv 5) (pv 6)) pe_int (nomark _)) (pss_cons (ps_aug (i := 6) sc_settled.nd rfl (Or.inl rfl) pe_int ip_add)
      (pss_one ps_continue)) pss_nil)
      (pss_cons (ps_set (i := 5) sc_settled.nd rfl (Or.inl rfl) (pe_op op_fdivN (pv 5) (pv 6)))
      (pss_cons (ps_set (i := 7) sc_settled.nd rfl (Or.inl rfl) (pe_op op_fdivN (pv 4) (pv 6)))
      (pss_one (ps_if (pt_cmpR op_eq (pe_op op_andNN (pe_op op_xorNN (pv 3) (pe_op op_shrNN (pv 3) (pv 7))) (pcall G_all_bits (hr.mono (by decide)) (pa_cons (pe_op op_sub (pv 1) (pv 7)) pa_nil))) pe_int (nomark _)) (pss_one (ps_set (i := 4) sc_settled.nd rfl (Or.inl rfl) (pv 7))) pss_nil))))))
      (pss_cons (ps_set (i := 8) sc_settled.nd rfl (Or.inl rfl) (pe_op op_andNN (pe_op op_xorNN (pv 2) (pe_op op_shrNN (pv 2) (pv 4))) (pcall G_all_bits (hr.mono (by decide)) (pa_cons (pv 0) pa_nil))))
      (pss_cons (ps_set (i := 0) sc_settled.nd rfl (Or.inl rfl) (pe_bits (pv 8)))
      (pss_one (ps_ret (pe_tup (pa_cons (pv 0) (pa_cons (pv 4) (pa_cons (pe_op op_andNN (pv 2) (pcall G_all_bits (hr.mono (by decide)) (pa_cons (pe_op op_add (pv 0) (pv 4)) pa_nil))) pa_nil))))))))))), ?_⟩
    refine ⟨_, rfl, _, rfl, b, s0, rfl, rfl, ?_⟩
    refine ⟨_, rfl, _, rfl, _, _, _, rfl, ?_⟩
    obtain ⟨m, L, mle⟩ := Least.ex p hp per
    refine ⟨fun μ σ H' => H' = H ∧ ∃ (least rest prime : Nat) (pr : Int) (x7 x8 : Option V), pr = (prime : Int) ∧ σ = [some (.int (s0 : Int)), some (.int (p : Int)), some (.int (b : Int)), some (.int ((b >>> s0 : Nat) : Int)), some (.int (least : Int)), some (.int (rest : Int)), some (.int pr), x7, x8] ∧ μ = rest + (rest - prime) ∧ Srch f s0 p m least rest prime,
      ⟨_, rfl, p, p, 2, 2, _, _, rfl, rfl, rfl, Srch.start hp per L⟩, ?_⟩
    rintro μ σ H' ⟨rfl, least, rest, prime, pr, x7, x8, rfl, rfl, rfl, S⟩
    refine ⟨_, rfl, _, _, rfl, rfl, _, rfl, ?_⟩
    have S0 := S.r0
    have S2 := S.p2
    have Sl : least ≤ p := Nat.le_of_dvd hp S.ls
    have Sr : rest ≤ least := Nat.le_of_dvd S.l0 S.rl
    by_cases r1 : 1 < rest
    · rw [decide_eq_true (show (1 : Int) < (rest : Int) by omega)]
      refine iteT ⟨_, fun _ _ h => h, ?_⟩
      refine ⟨_, rfl, _, rfl, _, _, rfl, rfl, by show (prime : Int) ≠ 0; omega, rfl, _, rfl, ?_⟩
      have em : decide (V.int (Int.fmod (rest : Int) (prime : Int)) = V.int 0) = decide (rest % prime = 0) := by rw [fmodN]; exact eqIN _ 0
      by_cases n : rest % prime = 0
      · have F := S.facts n
        have ple : prime ≤ rest := Nat.le_of_dvd S0 (Nat.dvd_of_mod_eq_zero n)
        refine ifF (by rw [em, decide_eq_true n]; rfl) ⟨_, rfl, _, rfl, _, _, rfl, rfl, ⟨by omega, by omega⟩, ?_⟩
        refine ⟨_, rfl, _, rfl, _, _, rfl, rfl, ⟨by omega, by omega⟩, ?_⟩
        dsimp only
        rw [fdivN, fdivN]
        obtain ⟨sh, hsh⟩ : ∃ sh, sh = least / prime := ⟨_, rfl⟩
        rw [← hsh] at F ⊢
        obtain ⟨f1, f2, f3, f4, f5⟩ := F
        refine ⟨_, rfl, _, rfl, _, rfl, b >>> s0, sh, rfl, rfl, b >>> s0, (b >>> s0) >>> sh, rfl, rfl, ?_⟩
        refine ⟨_, rfl, _, rfl, _, _, rfl, rfl, p - sh, by dsimp only; rw [show (p : Int) - (sh : Int) = ((p - sh : Nat) : Int) by omega], by omega, (b >>> s0) ^^^ ((b >>> s0) >>> sh), 2 ^ (p - sh) - 1, rfl, rfl, rfl, _, rfl, ?_⟩
        have mul : rest / prime * prime = rest := Nat.div_mul_cancel (Nat.dvd_of_mod_eq_zero n)
        have lt2 : rest / prime < rest := Nat.div_lt_self S0 (by omega)
        have un : Bits (((b >>> s0) ^^^ ((b >>> s0) >>> sh)) &&& (2 ^ (p - sh) - 1)) (fun i => f (s0 + i) ^^ f (s0 + i + sh)) (p - sh) := Bits.cut (n := s0) fun i hi => by
          rw [Nat.testBit_xor, Nat.testBit_shiftRight, Nat.testBit_shiftRight, Nat.testBit_shiftRight, at_ _ (by omega), at_ _ (by omega)]
          congr 2
          omega
        obtain ⟨U, hU⟩ : ∃ U, U = ((b >>> s0) ^^^ ((b >>> s0) >>> sh)) &&& (2 ^ (p - sh) - 1) := ⟨_, rfl⟩
        rw [← hU] at un
        have e1 : decide (V.int (((((b >>> s0) ^^^ ((b >>> s0) >>> sh)) &&& (2 ^ (p - sh) - 1) : Nat)) : Int) = V.int 0) = decide (U = 0) := by rw [← hU]; exact eqIN U 0
        by_cases u0 : U = 0
        · have per' : Per f s0 sh := per_seen per hp f2 fun i hi => by
            have := un.at_ i (by omega)
            rw [u0, Nat.zero_testBit] at this
            cases h1 : f (s0 + i) <;> cases h2 : f (s0 + i + sh) <;> simp_all
          refine ifT (e1.trans (decide_eq_true u0)) ⟨_, rfl, ?_⟩
          exact ⟨rest / prime + (rest / prime - prime), by omega, rfl, sh, rest / prime, prime, _, _, _, rfl, rfl, rfl, hsh ▸ S.take L n (hsh ▸ per')⟩
        · have np : ¬ Per f s0 sh := fun per' => u0 (un.ext ⟨Nat.two_pow_pos _, fun i hi => by
            rw [Nat.zero_testBit, per' (s0 + i) (by omega)]
            simp⟩)
          refine ifF (e1.trans (decide_eq_false u0)) ?_
          exact ⟨rest / prime + (rest / prime - prime), by omega, rfl, least, rest / prime, prime, _, _, _, rfl, rfl, rfl, S.leave L n (hsh ▸ np)⟩
      · have lt := S.lt r1 n
        refine ifT (by rw [em, decide_eq_false n]; rfl) ⟨_, rfl, _, _, rfl, rfl, ?_⟩
        exact ⟨rest + (rest - (prime + 1)), by omega, rfl, least, rest, prime + 1, (prime : Int) + 1, _, _, by omega, rfl, rfl, S.next n⟩
    · rw [decide_eq_false (show ¬ (1 : Int) < (rest : Int) by omega)]
      refine iteF ?_
      have em := S.fin r1
      subst em
      have R := settle per hp L at_
      have le0 : bl ((b ^^^ (b >>> least)) &&& (2 ^ s0 - 1)) ≤ s0 := bl_le (by rw [Nat.and_two_pow_sub_one_eq_mod]; exact Nat.mod_lt _ (Nat.two_pow_pos s0))
      refine ⟨_, rfl, _, rfl, _, rfl, b, least, rfl, rfl, b, b >>> least, rfl, rfl, ?_⟩
      refine ⟨_, rfl, s0, rfl, by omega, b ^^^ (b >>> least), 2 ^ s0 - 1, rfl, rfl, ?_⟩
      dsimp only
      generalize (b ^^^ (b >>> least)) &&& (2 ^ s0 - 1) = U at R le0 ⊢
      refine ⟨_, rfl, _, rfl, ?_⟩
      rw [intBits_nat]
      refine ⟨_, rfl, _, rfl, _, rfl, _, rfl, _, rfl, _, _, rfl, rfl, bl U + least, by show [V.int (((bl U : Nat) : Int) + ((least : Nat) : Int))] = _; rw [← Int.natCast_add], by omega, b, 2 ^ (bl U + least) - 1, rfl, rfl, by show 3 ≤ sizeLine; exact sl_le (by decide), fun t ht => ?_⟩
      exact k _ t (bl U) least _ (same_new ht) (.inl (.inl upd_same)) R le0 mle
end
end K1
namespace K1
open PySem PySem.Spec L2 Z K2
section
variable {P : Program} {w : World} {K : PySem.W.Frag} {mg : Str → Option Value} {base : Heap} {C CN CI : Addr}
theorem ok_repeated (T : Txt K mg C CN CI) (G_all_bits : Pr P w K mg base "all_bits" s_all_bits 1 ["many"] sp2_all_bits) : Pr P w K mg base "repeated" s_repeated 2 ["cycle", "step", "many"] sp2_repeated := by
  obtain ⟨f, fd, F, gl, bd⟩ := T.d_repeated
  refine ⟨f, fd, F, gl, bd, F.ok sc_repeated (fun vs H Q E h => ?_) (fun cdv A outer s H vs Q E hr h => ?_)⟩
  · obtain ⟨c, s0, m, rfl, _⟩ := h
    rfl
  · obtain ⟨c, s0, m, rfl, hc, h0, hs, hm, k⟩ := h
    have hu := hu_of hr
    refine ⟨_, (pss_cons (ps_par (i := 3) (j := 4) rfl sc_repeated.nd rfl rfl (by decide) rfl rfl (pa_cons (pv 0) (pa_cons (pv 1) pa_nil)) (by rfl))
      (pss_cons (ps_while PassesOwn.never (pt_cmpR op_lt (pv 4) (pv 2) (nomark _)) (pss_cons (ps_set (i := 3) sc_repeated.nd rfl (Or.inl rfl) (pe_op op_orNN (pv 3) (pe_op op_shlNN (pv 3) (pv 4))))
      (pss_one (ps_set (i := 4) sc_repeated.nd rfl (Or.inl rfl) (pe_op op_mul pe_int (pv 4))))))
      (pss_one (ps_ret (pe_op op_andNN (pv 3) (pcall G_all_bits (hr.mono (by decide)) (pa_cons (pv 2) pa_nil))))))), ?_⟩
    refine ⟨_, rfl, _, rfl, _, _, rfl, ?_⟩
    refine ⟨fun μ σ H' => H' = H ∧ ∃ (bits told : Nat) (t : Int), t = (told : Int) ∧ σ = [some (.int (c : Int)), some (.int (s0 : Int)), some (.int (m : Int)), some (.int (bits : Int)), some (.int t)] ∧ μ = m - told ∧ 0 < told ∧ told ≤ 20000 ∧ s0 ∣ told ∧ (∀ i, bits.testBit i = (decide (i < told) && c.testBit (i % s0))),
      ⟨_, rfl, c, s0, _, rfl, rfl, rfl, h0, by omega, Nat.dvd_refl _, fun i => ?_⟩, ?_⟩
    · by_cases hi : i < s0
      · rw [decide_eq_true hi, Nat.mod_eq_of_lt hi]; rfl
      · rw [decide_eq_false hi]
        exact Nat.testBit_lt_two_pow (Nat.lt_of_lt_of_le hc (Nat.pow_le_pow_right (by omega) (by omega)))
    · rintro μ σ H' ⟨rfl, bits, told, t, rfl, rfl, rfl, t0, t1, hd, hb⟩
      refine ⟨_, rfl, _, rfl, _, _, rfl, rfl, _, rfl, ?_⟩
      have blt : bits < 2 ^ told := Nat.lt_pow_two_of_testBit _ fun i hi => by rw [hb, decide_eq_false (by omega)]; rfl
      by_cases hlt : told < m
      · rw [decide_eq_true (show (told : Int) < (m : Int) by omega)]
        refine iteT ⟨_, fun _ _ h => h, ?_⟩
        refine ⟨_, rfl, _, rfl, _, rfl, bits, told, rfl, rfl, ⟨told, blt, by omega⟩, bits, bits <<< told, rfl, rfl, ?_⟩
        refine ⟨_, rfl, _, _, rfl, rfl, .inl ⟨by decide, by decide⟩, ?_⟩
        refine ⟨m - 2 * told, by omega, rfl, bits ||| bits <<< told, 2 * told, 2 * (told : Int), by omega, rfl, rfl, by omega, by omega, Nat.dvd_trans hd ⟨2, by omega⟩, fun i => ?_⟩
        rw [Nat.testBit_or, Nat.testBit_shiftLeft, hb, hb]
        by_cases h1 : i < told
        · rw [decide_eq_true h1, decide_eq_true (show i < 2 * told by omega), decide_eq_false (show ¬ i ≥ told by omega)]
          simp
        · rw [decide_eq_false h1, decide_eq_true (show i ≥ told by omega)]
          have em : (i - told) % s0 = i % s0 := by
            obtain ⟨q, hq⟩ := hd
            have : i = (i - told) + s0 * q := by omega
            conv => rhs; rw [this]
            rw [Nat.add_mul_mod_self_left]
          rw [em]
          by_cases h2 : i < 2 * told
          · rw [decide_eq_true h2, decide_eq_true (show i - told < told by omega)]
            simp
          · rw [decide_eq_false h2, decide_eq_false (show ¬ i - told < told by omega)]
            simp
      · rw [decide_eq_false (show ¬ (told : Int) < (m : Int) by omega)]
        refine iteF ?_
        refine ⟨_, rfl, _, rfl, m, rfl, by omega, bits, 2 ^ m - 1, rfl, rfl, k _ fun i => ?_⟩
        rw [Nat.testBit_and, hb, Nat.testBit_two_pow_sub_one]
        by_cases h1 : i < m
        · rw [decide_eq_true h1, decide_eq_true (show i < told by omega)]; simp
        · rw [decide_eq_false h1]; simp
end
end K1
namespace K1
open PySem PySem.Spec L2 Z K2
section
variable {P : Program} {w : World} {K : PySem.W.Frag} {mg : Str → Option Value} {base : Heap} {C CN CI : Addr}
theorem ok_rounded_words (T : Txt K mg C CN CI) (G_settled : Pr P w K mg base "settled" s_settled 2 ["start", "step", "bits"] (sp2_settled K)) (G_repeated : Pr P w K mg base "repeated" s_repeated 2 ["cycle", "step", "many"] sp2_repeated) : Pr P w K mg base "rounded_words" s_rounded_words 3 ["words", "step"] (sp2_rounded_words K) := by
  obtain ⟨f, fd, F, gl, bd⟩ := T.d_rounded_words
  refine ⟨f, fd, F, gl, bd, F.ok sc_rounded_words (fun vs H Q E h => ?_) (fun cdv A outer s H vs Q E hr h => ?_)⟩
  · obtain ⟨v, ws, P, rfl, _⟩ := h
    rfl
  · obtain ⟨v, ws, P, rfl, ⟨a, rs, rfl, ht, hp⟩, ok, k⟩ := h
    have hu := hu_of hr
    refine ⟨_, (pss_cons (ps_set (i := 2) sc_rounded_words.nd rfl (Or.inl rfl) (pe_op op_add (pe_maxD rfl hr (by rfl) T.b_max (pa_cons (pe_lc (own := [("first", 4), ("_", 7)]) (g := gTup K 2 (gCons (gName 4) (gCons (gName 7) gNil))) (tt := tYes) rfl sc_rounded_words.nd (pi_tup (pv 0)) (blkOk_by (own := [("first", 4), ("_", 7)]) (N := N_rounded_words) (sc := defScope s_rounded_words) (by decide +kernel)) (fun _ _ _ _ _ => (pg_tup rfl (pgs_cons (pg_name (i := 4) sc_rounded_words.nd rfl (Or.inl rfl)) (pgs_cons (pg_name (i := 7) sc_rounded_words.nd rfl (Or.inl rfl)) pgs_nil)))) (fun _ _ _ _ _ => pts_nil) (fun _ _ _ _ _ => (pv 4))) pa_nil) (pk_cons pe_int pk_nil)) pe_int))
      (pss_cons (ps_set (i := 3) sc_rounded_words.nd rfl (Or.inl rfl) pe_int)
      (pss_cons (ps_for PassesOwn.never rfl (pi_tup (pv 0)) (pg_tup rfl (pgs_cons (pg_name (i := 4) sc_rounded_words.nd rfl (Or.inl rfl)) (pgs_cons (pg_name (i := 5) sc_rounded_words.nd rfl (Or.inl rfl)) pgs_nil)))
      (pss_cons (ps_set (i := 6) sc_rounded_words.nd rfl (Or.inl rfl) (pe_ifExp (pt_int (pv 5)) (pcall G_repeated (hr.mono (by decide)) (pa_cons pe_int (pa_cons (pv 5) (pa_cons (pe_op op_sub (pe_op op_add (pv 2) (pv 1)) (pv 4)) pa_nil)))) pe_int))
      (pss_one (ps_set (i := 3) sc_rounded_words.nd rfl (Or.inl rfl) (pe_op op_orNN (pv 3) (pe_op op_shlNN (pv 6) (pv 4)))))))
      (pss_one (ps_ret (pcall G_settled (hr.mono (by decide)) (pa_cons (pv 2) (pa_cons (pv 1) (pa_cons (pv 3) pa_nil))))))))), ?_⟩
    have few := ok.few
    have p60 := ok.p60
    have L0 := common_pos (ws := ws)
    have LP : common ws ≤ P := Nat.le_of_dvd ok.p0 (common_dvd ok.steps)
    have top_le : top ws ≤ 501 := top_le fun w hw => by have := ok.first w hw; omega
    have sN_le : sN ws ≤ 501 := by unfold sN; omega
    have s0 : 0 < sN ws := by unfold sN; omega
    generalize hL : common ws = Ls at L0 LP ⊢
    unfold tSeq tAsg tOp tMaxD tCons
    dsimp only
    refine lcP wV (fun w => V.int (w.1 : Int)) rfl ht hp (by omega) (fun b p H1 R sm hq hm hR => ⟨b, _, rfl, hq, rfl, _, _, rfl, _, _, rfl, rfl, rfl, _, rfl, hR⟩) (fun H1 D s1 hD hl => ?_)
    refine ⟨D, ws.map fun w => (w.1 : Int), .int 0, rfl, rfl, .inl (.inl (by rw [hl, List.map_map]; rfl)), fun v hv => ?_⟩
    rw [head_start hv]
    refine ⟨_, _, rfl, rfl, ?_⟩
    dsimp only
    rw [show (sN ws : Int) - 1 + 1 = (sN ws : Int) by omega]
    unfold gName tC
    dsimp only
    refine forP (v := 0) (fun i σ H' => H' = H1 ∧ ∃ (bits : Nat) (x4 x5 x6 x7 : Option V), σ = [some (.ref a), some (.int (Ls : Int)), some (.int (sN ws : Int)), some (.int (bits : Int)), x4, x5, x6, x7] ∧ ∀ j, j < sN ws + Ls → bits.testBit j = has (ws.take i) j)
      rfl ⟨rfl, 0, _, _, _, _, rfl, fun j _ => by rw [Nat.zero_testBit]; rfl⟩ (PT.same s1 ht) (Paired.imm (.of s1) hp) (fun i σ H' h => by rw [h.1]; exact Imm.refl _) ?_ ?_
    · rintro i b p σ H' eb ep hq ⟨rfl, bits, x4, x5, x6, x7, rfl, hb⟩
      obtain ⟨w, ew, rfl⟩ := map_at ep
      have hm := List.mem_of_getElem? ew
      have lt := lt_top hm
      have ltN : w.1 < sN ws := by unfold sN; omega
      refine ⟨b, _, rfl, hq, rfl, _, _, rfl, _, _, rfl, rfl, ?_⟩
      have go : ∀ told : Nat, (∀ j, w.1 ≤ j → j < sN ws + Ls → told.testBit (j - w.1) = hasW w j) → ∀ j, j < sN ws + Ls → (bits ||| told <<< w.1).testBit j = has (ws.take (i + 1)) j := fun told ht j hj => by
        rw [Nat.testBit_or, Nat.testBit_shiftLeft, hb j hj, taken ew]
        by_cases c : w.1 ≤ j
        · rw [decide_eq_true (show j ≥ w.1 from c), ht j c hj]; simp
        · rw [decide_eq_false (show ¬ j ≥ w.1 from c)]
          have : hasW w j = false := by
            unfold hasW
            rw [decide_eq_false (show ¬ j = w.1 by omega), decide_eq_false (show ¬ w.1 < j by omega)]; simp
          rw [this]; simp
      have t1 : ∀ x : Nat, (1 : Nat).testBit x = decide (x = 0) := fun x => by
        cases x with
        | zero => rfl
        | succ x => rw [Nat.testBit_lt_two_pow (Nat.lt_of_lt_of_le (show (1 : Nat) < 2 ^ 1 by decide) (Nat.pow_le_pow_right (by omega) (by omega)))]; rfl
      refine ⟨_, rfl, _, rfl, ?_⟩
      by_cases z : w.2 = 0
      · have e0 : (((w.2 : Nat) : Int) != 0) = false := by rw [z]; rfl
        refine ifF e0 ?_
        exact ⟨_, rfl, _, rfl, _, rfl, 1, w.1, rfl, rfl, ⟨1, by decide, by omega⟩, bits, 1 <<< w.1, rfl, rfl, rfl, bits ||| 1 <<< w.1, _, _, _, x7, rfl, go 1 fun j h1 h2 => by
          rw [t1]
          unfold hasW
          rw [z]
          by_cases e : j = w.1
          · rw [decide_eq_true e, decide_eq_true (show j - w.1 = 0 by omega)]; rfl
          · rw [decide_eq_false e, decide_eq_false (show ¬ j - w.1 = 0 by omega)]; rfl⟩
      · have e0 : (((w.2 : Nat) : Int) != 0) = true := by simpa using z
        have w60 : w.2 ≤ P := by
          rcases ok.steps w hm with e | d
          · exact absurd e z
          · exact Nat.le_of_dvd ok.p0 d
        refine ifT e0 ?_
        refine ⟨_, rfl, _, rfl, _, rfl, _, _, rfl, rfl, _, rfl, _, _, rfl, rfl, 1, w.2, sN ws + Ls - w.1, ?_, ?_, by omega, by omega, by omega, fun b hb2 => ?_⟩
        · show [V.int 1, V.int _, V.int _] = _
          congr 3
          congr 1
          show (sN ws : Int) + (Ls : Int) - (w.1 : Int) = _
          omega
        · exact Nat.lt_of_lt_of_le (show (1 : Nat) < 2 ^ 1 by decide) (Nat.pow_le_pow_right (by omega) (by omega))
        · have blt : b < 2 ^ (sN ws + Ls - w.1) := Nat.lt_pow_two_of_testBit _ fun j hj => by rw [hb2, decide_eq_false (by omega)]; rfl
          exact ⟨_, rfl, _, rfl, _, rfl, b, w.1, rfl, rfl, ⟨_, blt, by omega⟩, bits, b <<< w.1, rfl, rfl, rfl, bits ||| b <<< w.1, _, _, _, x7, rfl, go b fun j h1 h2 => by
            rw [hb2, t1, decide_eq_true (show j - w.1 < sN ws + Ls - w.1 by omega)]
            unfold hasW
            by_cases e : j = w.1
            · rw [decide_eq_true e, show j - w.1 = 0 by omega]; simp
            · rw [decide_eq_false e, decide_eq_true (show 0 < w.2 by omega), decide_eq_true (show w.1 < j by omega)]; simp⟩
    · rintro σ H' ⟨rfl, bits, x4, x5, x6, x7, rfl, hb⟩
      rw [List.length_map, List.take_length] at hb
      have per : Per (has ws) (sN ws) Ls := by
        have := has_per (ws := ws) (P := Ls) (by rw [← hL]; exact common_steps)
        exact this.mono (by unfold sN; omega)
      exact ⟨_, rfl, _, rfl, _, rfl, sN ws, Ls, bits, has ws, rfl, L0, by omega, by omega, per, hb, fun H2 t st m b' s2 ht2 rn h1 h2 => k H2 t st m b' (s1.trans s2) ht2 rn (by omega) (by omega)⟩
end
end K1
namespace K1
open PySem PySem.Spec L2 Z K2
section
variable {P : Program} {w : World} {K : PySem.W.Frag} {mg : Str → Option Value} {base : Heap} {C CN CI : Addr}
theorem ok_normal_text (T : Txt K mg C CN CI)  : Pr P w K mg base "_normal_text" s_normal_text 1 ["below", "cycle", "step"] (sp2_normal_text K) := by
  obtain ⟨f, fd, F, gl, bd⟩ := T.d__normal_text
  refine ⟨f, fd, F, gl, bd, F.ok sc_normal_text (fun vs H Q E h => ?_) (fun cdv A outer s H vs Q E hr h => ?_)⟩
  · obtain ⟨a, b, f, st, p, rfl, _⟩ := h
    rfl
  · obtain ⟨a, b, f, st, p, rfl, ha, hb, p0, p1, s1, k⟩ := h
    have hu := hu_of hr
    refine ⟨_, (pss_cons (ps_set (i := 3) sc_normal_text.nd rfl (Or.inr rfl) (pe_ifExp (pt_cmpR op_eq (pv 2) pe_int (nomark _)) pe_str (pe_joined (PJ.cons pe_str (PJ.cons (pe_fmt (pv 2)) PJ.nil)))))
      (pss_cons (ps_set (i := 4) sc_normal_text.nd rfl (Or.inl rfl) (pe_op op_cat (pe_lc (own := [("number", 5)]) (g := gName 5) (tt := tYes) rfl sc_normal_text.nd (pi_tup (pv 0)) (blkOk_by (own := [("number", 5)]) (N := N_normal_text) (sc := defScope s_normal_text) (by decide +kernel)) (fun _ _ _ _ _ => (pg_name (i := 5) sc_normal_text.nd rfl (Or.inl rfl))) (fun _ _ _ _ _ => pts_nil) (fun _ _ _ _ _ => (pe_callTy call_str_int (by rfl) T.b_str (by decide +kernel) (pa_cons (pv 5) pa_nil)))) (pe_lc (own := [("number", 5)]) (g := gName 5) (tt := tYes) rfl sc_normal_text.nd (pi_tup (pv 1)) (blkOk_by (own := [("number", 5)]) (N := N_normal_text) (sc := defScope s_normal_text) (by decide +kernel)) (fun _ _ _ _ _ => (pg_name (i := 5) sc_normal_text.nd rfl (Or.inl rfl))) (fun _ _ _ _ _ => pts_nil) (fun _ _ _ _ _ => (pe_joined (PJ.cons (pe_fmt (pv 5)) (PJ.cons (pe_fmt (pv 3)) PJ.nil)))))))
      (pss_one (ps_ret (pe_orT (pe_join pe_str (pv 4)) (pe_one pe_str)))))), ?_⟩
    have bl1 : (belowL f st).length ≤ 600 := by
      unfold belowL
      have := List.length_filter_le f (List.range st)
      rw [List.length_range] at this
      omega
    have cl1 : (cycL f st p).length ≤ 60 := by
      unfold cycL
      have := List.length_filter_le f (List.range' st p)
      rw [List.length_range'] at this
      omega
    have bm : ∀ n ∈ belowL f st, n ≤ 999 := fun n hn => by have := mem_belowL.mp hn; omega
    have cm : ∀ n ∈ cycL f st p, n ≤ 999 := fun n hn => by have := mem_cycL.mp hn; omega
    have nm : ∀ w ∈ normW f st p, w.1 ≤ 999 ∧ w.2 ≤ 999 := fun w hw => by
      rcases mem_normW.mp hw with ⟨e, h, _⟩ | ⟨e, h, _⟩ <;> omega
    have nl : (normW f st p).length ≤ 660 := by
      unfold normW
      rw [List.length_append, List.length_map, List.length_map]
      omega
    have ewr : (belowL f st).map (fun n => wordT (n, 0)) ++ (cycL f st p).map (fun n => wordT (n, p)) = (normW f st p).map wordT := by
      unfold normW
      rw [List.map_append, List.map_map, List.map_map]
      rfl
    refine ⟨_, rfl, rfl, _, rfl, ?_⟩
    have ed : decide (V.int ((p : Nat) : Int) = V.int 1) = decide (p = 1) := eqIN p 1
    by_cases hp1 : p = 1
    case' pos =>
      refine ifT (by rw [ed, decide_eq_true hp1]) ?_
      rw [show Str.ofString "+" = tailT p by unfold tailT; rw [if_neg (by omega), if_pos hp1]]
      unfold tSeq tAsg tOp gName tC
      dsimp only
    case' neg =>
      refine ifF (by rw [ed, decide_eq_false hp1]) ?_
      have tl := tailT_len (s := p) (by omega)
      have et : tailT p = Str.empty ++ Str.ofString "+" ++ Str.ofString (toString (p : Int)) := by
        unfold tailT
        rw [if_neg (by omega), if_neg hp1, emp_app]
        rfl
      refine ⟨_, rfl, sl_le (by rw [emp_app, plus_len]; decide), _, rfl, .inr ⟨(p : Int), rfl, num_log (by omega) (by omega), _, rfl, ?_, ?_⟩⟩
      · rw [← et]; exact sl_le (by omega)
      rw [← et]
      unfold tSeq tAsg tOp gName tJs
      dsimp only
    all_goals
      have tl := tailT_len (s := p) (by omega)
      refine lcT (belowL f st) (fun (n : Nat) => V.int (n : Int)) (fun _ => true) (fun n => V.str (numS (n : Int))) (by omega) (fun R hR => ⟨_, rfl, hR a H (fun _ _ h => h) ha⟩) (fun x H' R1 R2 hx sm h1 h2 => ?_) (fun H1 D1 sm1 hD1 hk1 => ?_)
      · have := bm x hx
        refine ⟨rfl, yesI ?_⟩
        exact ⟨_, rfl, _, rfl, num_log (by omega) (by omega), h2 H' (fun _ _ h => h) rfl⟩
      refine lcT (cycL f st p) (fun (n : Nat) => V.int (n : Int)) (fun _ => true) (fun n => V.str (wordT (n, p))) (by omega) (fun R hR => ⟨_, rfl, hR b H1 (fun _ _ h => h) (SqT.imm (.of sm1) hb)⟩) (fun x H' R1 R2 hx sm h1 h2 => ?_) (fun H2 D2 sm2 hD2 hk2 => ?_)
      · have := cm x hx
        have nl1 := num_len (i := (x : Int)) (by omega) (by omega)
        refine ⟨rfl, yesI ?_⟩
        refine ⟨_, rfl, .inr ⟨(x : Int), rfl, num_log (by omega) (by omega), _, rfl, sl_le (by rw [emp_app]; exact Nat.le_trans nl1 (by decide)), _, rfl, .inl ⟨_, rfl, sl_le (Nat.le_trans tl (by decide)), _, rfl, ?_, ?_⟩⟩⟩
        · rw [emp_app]; exact sl_le (by rw [len_app]; exact Nat.le_trans (Nat.add_le_add nl1 tl) (by decide))
        · rw [emp_app]
          exact h2 H' (fun _ _ h => h) rfl
      refine ⟨D1, D2, _, _, rfl, rfl, sm2 _ _ hk1, hk2, by simp only [List.length_map]; have := List.length_filter_le (fun _ => true) (belowL f st); have := List.length_filter_le (fun _ => true) (cycL f st p); exact sl_le (by omega), fun lg hlg => ?_⟩
      have el : List.map (fun n => V.str (numS ((n : Nat) : Int))) (List.filter (fun x => true) (belowL f st)) ++ List.map (fun n => V.str (wordT (n, p))) (List.filter (fun x => true) (cycL f st p)) = ((normW f st p).map wordT).map V.str := by
        rw [List.filter_eq_self.mpr (by simp), List.filter_eq_self.mpr (by simp), ← ewr, List.map_append, List.map_map, List.map_map]
        congr 1
      rw [el]
      have sum1 := sum_len (k := 7) (ys := (normW f st p).map wordT) (words_le nm)
      rw [List.length_map] at sum1
      refine ⟨⟨_, rfl⟩, _, rfl, _, lg, (normW f st p).map wordT, rfl, rfl, .inl (.inl (.inl upd_same)), ?_, ?_⟩
      · have e1 : (Str.ofString " ").length = 1 := sp1_len
        rw [List.length_map, e1]
        omega
      have kk := k _ ((sm1.trans sm2).trans (same_new (o := .lst (((normW f st p).map wordT).map V.str)) hlg))
      by_cases hc : normW f st p = []
      · have e : Txt.join (Str.ofString " ") ((normW f st p).map wordT) = Str.empty := by rw [hc]; exact glue_nil
        rw [hc, setT_nil] at kk
        refine ⟨false, ?_, iteF ?_⟩
        · rw [e]
          exact ⟨Nat.zero_le _, rfl⟩
        · rw [hc]
          exact kk
      · have e3 := joinW_pos hc fun w hw => (nm w hw).1
        have e4 := joinW_len nm
        rw [setT_cons hc] at kk
        refine ⟨true, ⟨sl_le (Nat.le_trans e4 (by omega)), ?_⟩, iteT kk⟩
        have : ((Txt.join (Str.ofString " ") ((normW f st p).map wordT)).length : Int) ≠ 0 := by
          unfold sp1 at e3
          omega
        exact (bne_iff_ne.mpr this).symm
end
end K1
namespace K1
open PySem PySem.Spec L2 Z K2
section
variable {P : Program} {w : World} {K : PySem.W.Frag} {mg : Str → Option Value} {base : Heap} {C CN CI : Addr}
theorem ok_numbers_in (T : Txt K mg C CN CI)  : Pr P w K mg base "numbers_in" s_numbers_in 1 ["bits"] sp2_numbers_in := by
  obtain ⟨f, fd, F, gl, bd⟩ := T.d_numbers_in
  refine ⟨f, fd, F, gl, bd, F.ok sc_numbers_in (fun vs H Q E h => ?_) (fun cdv A outer s H vs Q E hr h => ?_)⟩
  · obtain ⟨b, rfl, _⟩ := h
    rfl
  · obtain ⟨b, rfl, hb, k⟩ := h
    have hu := hu_of hr
    refine ⟨_, (pss_one (ps_ret (pe_lc (own := [("number", 1)]) (g := gName 1) rfl sc_numbers_in.nd (pi_range1 rfl T.b_range (pa_cons (pe_bits (pv 0)) pa_nil)) (blkOk_by (own := [("number", 1)]) (N := N_numbers_in) (sc := defScope s_numbers_in) (by decide +kernel)) (fun _ _ _ _ _ => (pg_name (i := 1) sc_numbers_in.nd rfl (Or.inl rfl))) (fun _ _ _ _ _ => (pts_one (pt_int (pe_op op_andNN (pe_op op_shrNN (pv 0) (pv 1)) pe_int)))) (fun _ _ _ _ _ => (pv 1))))), ?_⟩
    have le := bl_le hb
    refine lcR1 (bl b) b.testBit (fun n => V.int (n : Int)) (by omega) (fun R r => ⟨_, rfl, _, rfl, by rw [intBits_nat]; exact r⟩) (fun i H' R1 R2 hi sm r1 r2 => ?_) (fun H' D sm hD hk => k H' D sm hD hk)
    refine ⟨rfl, _, rfl, _, rfl, b, i, rfl, rfl, b >>> i, 1, rfl, rfl, _, rfl, ?_⟩
    have e : ((((b >>> i) &&& 1 : Nat) : Int) != 0) = b.testBit i := by
      rw [bit_and1]
      cases b.testBit i <;> rfl
    cases hb : b.testBit i with
    | true => exact ifT (e.trans hb) ⟨_, rfl, r2 _ (fun _ _ h => h) hb⟩
    | false => exact ifF (e.trans hb) (r1 _ (fun _ _ h => h) hb)
end
end K1
namespace K1
open PySem PySem.Spec L2 Z K2
section
variable {P : Program} {w : World} {K : PySem.W.Frag} {mg : Str → Option Value} {base : Heap} {C CN CI : Addr}
theorem ok_take (T : Txt K mg C CN CI) (G__normal_text : Pr P w K mg base "_normal_text" s_normal_text 1 ["below", "cycle", "step"] (sp2_normal_text K)) (G_numbers_in : Pr P w K mg base "numbers_in" s_numbers_in 1 ["bits"] sp2_numbers_in) (G_all_bits : Pr P w K mg base "all_bits" s_all_bits 1 ["many"] sp2_all_bits) : PrM P w K mg base C "take" "Lengths.take" s_take 2 ["self", "rounded"] (sp3_take K C) := by
  obtain ⟨f, fd, F, gl, bd⟩ := T.d_take
  refine ⟨f, fd, F, gl, bd, F.ok sc_take (fun vs H Q E h => ?_) (fun cdv A outer s H vs Q E hr h => ?_)⟩
  · obtain ⟨x, dx, r, f, st, p, b, fs, rfl, _⟩ := h
    rfl
  · obtain ⟨x, dx, r, f, st, p, b, fs, rfl, hx, hfs, hr2, rn, h1, h2, k⟩ := h
    have hu := hu_of hr
    refine ⟨_, (pss_cons (ps_asg (pv 1) (pg_tup rfl (pgs_cons (pg_name (i := 2) sc_take.nd rfl (Or.inr rfl)) (pgs_cons (pg_name (i := 3) sc_take.nd rfl (Or.inl rfl)) (pgs_cons (pg_name (i := 4) sc_take.nd rfl (Or.inl rfl)) pgs_nil)))))
      (pss_cons (ps_fld (pv 0) (pv 1) rfl)
      (pss_cons (ps_fld (pv 0) (pv 2) rfl)
      (pss_cons (ps_fld (pv 0) (pv 3) rfl)
      (pss_cons (ps_fld (pv 0) (pe_callTy call_tupP (by rfl) T.b_tuple (by decide +kernel) (pa_cons (pcall G_numbers_in (hr.mono (by decide)) (pa_cons (pe_op op_andNN (pv 4) (pcall G_all_bits (hr.mono (by decide)) (pa_cons (pv 2) pa_nil))) pa_nil)) pa_nil)) rfl)
      (pss_cons (ps_fld (pv 0) (pe_callTy call_tupP (by rfl) T.b_tuple (by decide +kernel) (pa_cons (pe_lc (own := [("number", 5)]) (g := gName 5) (tt := tYes) rfl sc_take.nd (pi_list (pcall G_numbers_in (hr.mono (by decide)) (pa_cons (pe_op op_shrNN (pv 4) (pv 2)) pa_nil))) (blkOk_by (own := [("number", 5)]) (N := N_take) (sc := defScope s_take) (by decide +kernel)) (fun _ _ _ _ _ => (pg_name (i := 5) sc_take.nd rfl (Or.inl rfl))) (fun _ _ _ _ _ => pts_nil) (fun _ _ _ _ _ => (pe_op op_add (pv 2) (pv 5)))) pa_nil)) rfl)
      (pss_cons (ps_fld (pv 0) (pe_minD rfl hr (by rfl) T.b_min (pa_cons (pe_op op_catP (pe_fld (pv 0) rfl) (pe_fld (pv 0) rfl)) pa_nil) (pk_cons pe_non pk_nil)) rfl)
      (pss_cons (ps_fld (pv 0) (pe_cmpR (op_neD hr.units) (pe_fld (pv 0) rfl) (pe_tupP pa_nil) (nomark _)) rfl)
      (pss_one (ps_fld (pv 0) (pcall G__normal_text (hr.mono (by decide)) (pa_cons (pe_fld (pv 0) rfl) (pa_cons (pe_fld (pv 0) rfl) (pa_cons (pv 3) pa_nil)))) rfl)))))))))), ?_⟩
    rcases hfs with rfl | ⟨r0, bt0, ct0, g, st0, p0, rfl⟩
    · have pp0 := rn.can.pos
      have bb : b < 2 ^ 900 := Nat.lt_of_lt_of_le rn.bits.lt (Nat.pow_le_pow_right (by omega) (by omega))
      refine ⟨_, rfl, r, _, rfl, hr2, rfl, _, _, rfl, _, _, rfl, _, _, rfl, rfl, ?_⟩
      refine ⟨_, rfl, _, rfl, x, C, dx, _, rfl, hx, T.cl, T.n_rounded, of_decide_eq_true rfl, ?_⟩
      refine ⟨_, rfl, _, rfl, x, C, dx, _, rfl, upd_same, T.cl, T.n_start, of_decide_eq_true rfl, ?_⟩
      refine ⟨_, rfl, _, rfl, x, C, dx, _, rfl, upd_same, T.cl, T.n_step, of_decide_eq_true rfl, ?_⟩
      generalize e3 : upd (upd (upd H x _) x _) x _ = H3
      have c3 : Chg x H H3 := by
        subst e3
        exact (Chg.upd.trans Chg.upd).trans Chg.upd
      have x3 : H3 x = some (.ins C dx [("rounded", .ref r), ("start", .int (st : Int)), ("step", .int (p : Int))]) := by
        subst e3
        exact upd_same
      clear e3
      have i3 : Imm H H3 := c3.imm hx trivial
      have B1 : Bits (b &&& (2 ^ st - 1)) f st := Bits.cut (n := st) fun i hi => rn.bits.at_ i (by omega)
      have b1 := nums_is B1
      have B2 := rn.bits.high
      have b2 := nums_is B2
      refine ⟨_, rfl, _, rfl, st, rfl, by omega, b, 2 ^ st - 1, rfl, rfl, b &&& (2 ^ st - 1), rfl, Nat.lt_of_lt_of_le B1.lt (Nat.pow_le_pow_right (by omega) (by omega)), fun H4 l4 s4 hl4 hk4 => ?_⟩
      rw [b1] at hk4
      refine ⟨l4, _, rfl, .inl (.inl hk4), fun n o hn ho => ?_⟩
      have xn : n ≠ x := fun z => by rw [z, s4 _ _ x3] at hn; cases hn
      refine ⟨_, rfl, x, C, dx, _, rfl, by rw [upd_ne (Ne.symm xn)]; exact s4 _ _ x3, T.cl, T.n_below, of_decide_eq_true rfl, ?_⟩
      generalize e5 : upd (upd H4 n _) x _ = H5
      have c5 : Chg x H H5 := by
        subst e5
        exact c3.trans ((Chg.of (s4.trans (same_new hn))).trans Chg.upd)
      have x5 : H5 x = some (.ins C dx [("rounded", .ref r), ("start", .int (st : Int)), ("step", .int (p : Int)), ("below", .ref n)]) := by
        subst e5
        exact upd_same
      have n5 : PT H5 n (nI (belowL f st)) := by
        subst e5
        exact ⟨o, by rw [upd_ne xn]; exact upd_same, ho⟩
      clear e5
      unfold tSeq sFld tCB tCons
      dsimp only
      refine lcL ((List.range p).filter fun i => f (st + i)) (fun (n : Nat) => V.int (n : Int)) (fun _ => true) (fun (n : Nat) => V.int ((st + n : Nat) : Int)) (by have := List.length_filter_le (fun i => f (st + i)) (List.range p); rw [List.length_range] at this; omega)
        (fun R hR => ⟨_, rfl, _, rfl, b, st, rfl, rfl, b >>> st, rfl, Nat.lt_of_lt_of_le B2.lt (Nat.pow_le_pow_right (by omega) (by omega)), fun H6 l6 s6 hl6 hk6 => hR l6 H6 s6 (.inl (.inl (by rw [hk6, b2]; rfl)))⟩) (fun i H' R1 R2 hi sm r1 r2 => ?_) (fun H6 D s6 hD6 hk6 => ?_)
      · refine ⟨rfl, yesI ?_⟩
        exact ⟨_, rfl, _, rfl, _, _, rfl, rfl, r2 H' (fun _ _ h => h) rfl⟩
      have ec : (((List.range p).filter fun i => f (st + i)).filter fun _ => true).map (fun (n : Nat) => V.int ((st + n : Nat) : Int)) = nI (cycL f st p) := by
        rw [List.filter_eq_self.mpr (by simp), cycL_is]
        unfold nI
        rw [List.map_map]
        rfl
      rw [ec] at hk6
      refine ⟨D, _, rfl, .inl (.inl hk6), fun m o2 hm ho2 => ?_⟩
      have xm : m ≠ x := fun z => by rw [z, s6 _ _ x5] at hm; cases hm
      refine ⟨_, rfl, x, C, dx, _, rfl, by rw [upd_ne (Ne.symm xm)]; exact s6 _ _ x5, T.cl, T.n_cycle, of_decide_eq_true rfl, ?_⟩
      generalize e7 : upd (upd H6 m _) x _ = H7
      have c57 : Chg x H5 H7 := by
        subst e7
        exact (Chg.of (s6.trans (same_new hm))).trans Chg.upd
      have x7 : H7 x = some (.ins C dx [("rounded", .ref r), ("start", .int (st : Int)), ("step", .int (p : Int)), ("below", .ref n), ("cycle", .ref m)]) := by
        subst e7
        exact upd_same
      have m7 : PT H7 m (nI (cycL f st p)) := by
        subst e7
        exact ⟨o2, by rw [upd_ne xm]; exact upd_same, ho2⟩
      clear e7
      have i57 : Imm H5 H7 := c57.imm x5 trivial
      have n7 := PT.imm i57 n5
      have ll : (nI (belowL f st)).length + (nI (cycL f st p)).length ≤ 10000 := by
        unfold nI belowL cycL
        rw [List.length_map, List.length_map]
        have := List.length_filter_le f (List.range st)
        have := List.length_filter_le f (List.range' st p)
        rw [List.length_range] at *
        rw [List.length_range'] at *
        omega
      refine ⟨_, rfl, x, C, dx, _, _, rfl, x7, T.cl, T.n_below, rfl, _, rfl, x, C, dx, _, _, rfl, x7, T.cl, T.n_cycle, rfl, cat_pt n7 m7 ll fun t H8 s8 ht8 => ?_⟩
      refine ⟨t, _, .non, rfl, rfl, by rw [← nI_app]; exact ht8.sq, fun v hv => ?_⟩
      rw [head_least_v hv]
      refine ⟨_, rfl, x, C, dx, _, rfl, s8 _ _ x7, T.cl, T.n_least, of_decide_eq_true rfl, ?_⟩
      generalize e9 : upd H8 x _ = H9
      have c79 : Chg x H7 H9 := by
        subst e9
        exact (Chg.of s8).trans Chg.upd
      have x9 : H9 x = some (.ins C dx [("rounded", .ref r), ("start", .int (st : Int)), ("step", .int (p : Int)), ("below", .ref n), ("cycle", .ref m), ("least", leastV (belowL f st ++ cycL f st p))]) := by
        subst e9
        exact upd_same
      clear e9
      have i79 : Imm H7 H9 := c79.imm x7 trivial
      have n9 := PT.imm i79 n7
      have m9 := PT.imm i79 m7
      refine ⟨_, rfl, x, C, dx, _, _, rfl, x9, T.cl, T.n_cycle, rfl, Nat.zero_le _, fun q o3 hq ho3 => ?_⟩
      have sq := same_new (o := .frz o3 (.tup [])) hq
      have xq : q ≠ x := fun z => by rw [z, x9] at hq; cases hq
      refine ⟨.tuple (nD2 (cycL f st p)), .tuple [], .tup (SqT.imm (.of sq) m9.sq) (dp_nI _), .tup (PT.new ho3).sq .nil, shape_nI _, shape_nI [], ?_⟩
      rw [eqv_nil]
      refine ⟨_, rfl, x, C, dx, _, rfl, by rw [upd_ne (Ne.symm xq)]; exact x9, T.cl, T.n_is_endless, of_decide_eq_true rfl, ?_⟩
      generalize eA : upd (upd H9 q _) x _ = HA
      have c9A : Chg x H9 HA := by
        subst eA
        exact (Chg.of sq).trans Chg.upd
      have xA : HA x = some (.ins C dx [("rounded", .ref r), ("start", .int (st : Int)), ("step", .int (p : Int)), ("below", .ref n), ("cycle", .ref m), ("least", leastV (belowL f st ++ cycL f st p)), ("is_endless", .bl (!decide (cycL f st p = [])))]) := by
        subst eA
        exact upd_same
      clear eA
      have i9A : Imm H9 HA := c9A.imm x9 trivial
      have nA := PT.imm i9A n9
      have mA := PT.imm i9A m9
      refine ⟨_, rfl, x, C, dx, _, _, rfl, xA, T.cl, T.n_below, rfl, _, rfl, x, C, dx, _, _, rfl, xA, T.cl, T.n_cycle, rfl, _, rfl, n, m, f, st, p, rfl, nA.sq, mA.sq, pp0, h2, h1, fun HB sB => ?_⟩
      refine ⟨_, rfl, x, C, dx, _, rfl, sB _ _ xA, T.cl, T.n_text, of_decide_eq_true rfl, ?_⟩
      have cAll : Chg x H (upd HB x (.ins C dx (flds2 r n m f st p))) := (((c5.trans c57).trans c79).trans c9A).trans ((Chg.of sB).trans Chg.upd)
      have iAll : Imm H (upd HB x (.ins C dx (flds2 r n m f st p))) := cAll.imm hx trivial
      have iB : Imm HA (upd HB x (.ins C dx (flds2 r n m f st p))) := Chg.imm ((Chg.of sB).trans Chg.upd) xA trivial
      exact k _ ⟨dx, r, n, m, st, p, b, upd_same, SqT.imm iAll hr2, (PT.imm iB nA).sq, (PT.imm iB mA).sq, rn, h1, h2⟩ cAll
    · have pp0 := rn.can.pos
      have bb : b < 2 ^ 900 := Nat.lt_of_lt_of_le rn.bits.lt (Nat.pow_le_pow_right (by omega) (by omega))
      refine ⟨_, rfl, r, _, rfl, hr2, rfl, _, _, rfl, _, _, rfl, _, _, rfl, rfl, ?_⟩
      refine ⟨_, rfl, _, rfl, x, C, dx, _, rfl, hx, T.cl, T.n_rounded, of_decide_eq_true rfl, ?_⟩
      refine ⟨_, rfl, _, rfl, x, C, dx, _, rfl, upd_same, T.cl, T.n_start, of_decide_eq_true rfl, ?_⟩
      refine ⟨_, rfl, _, rfl, x, C, dx, _, rfl, upd_same, T.cl, T.n_step, of_decide_eq_true rfl, ?_⟩
      generalize e3 : upd (upd (upd H x _) x _) x _ = H3
      have c3 : Chg x H H3 := by
        subst e3
        exact (Chg.upd.trans Chg.upd).trans Chg.upd
      have x3 : H3 x = some (.ins C dx [("rounded", .ref r), ("start", .int (st : Int)), ("step", .int (p : Int)), ("below", .ref bt0), ("cycle", .ref ct0), ("least", leastV (belowL g st0 ++ cycL g st0 p0)), ("is_endless", .bl (!decide (cycL g st0 p0 = []))), ("text", .str (setT (normW g st0 p0)))]) := by
        subst e3
        exact upd_same
      clear e3
      have i3 : Imm H H3 := c3.imm hx trivial
      have B1 : Bits (b &&& (2 ^ st - 1)) f st := Bits.cut (n := st) fun i hi => rn.bits.at_ i (by omega)
      have b1 := nums_is B1
      have B2 := rn.bits.high
      have b2 := nums_is B2
      refine ⟨_, rfl, _, rfl, st, rfl, by omega, b, 2 ^ st - 1, rfl, rfl, b &&& (2 ^ st - 1), rfl, Nat.lt_of_lt_of_le B1.lt (Nat.pow_le_pow_right (by omega) (by omega)), fun H4 l4 s4 hl4 hk4 => ?_⟩
      rw [b1] at hk4
      refine ⟨l4, _, rfl, .inl (.inl hk4), fun n o hn ho => ?_⟩
      have xn : n ≠ x := fun z => by rw [z, s4 _ _ x3] at hn; cases hn
      refine ⟨_, rfl, x, C, dx, _, rfl, by rw [upd_ne (Ne.symm xn)]; exact s4 _ _ x3, T.cl, T.n_below, of_decide_eq_true rfl, ?_⟩
      generalize e5 : upd (upd H4 n _) x _ = H5
      have c5 : Chg x H H5 := by
        subst e5
        exact c3.trans ((Chg.of (s4.trans (same_new hn))).trans Chg.upd)
      have x5 : H5 x = some (.ins C dx [("rounded", .ref r), ("start", .int (st : Int)), ("step", .int (p : Int)), ("below", .ref n), ("cycle", .ref ct0), ("least", leastV (belowL g st0 ++ cycL g st0 p0)), ("is_endless", .bl (!decide (cycL g st0 p0 = []))), ("text", .str (setT (normW g st0 p0)))]) := by
        subst e5
        exact upd_same
      have n5 : PT H5 n (nI (belowL f st)) := by
        subst e5
        exact ⟨o, by rw [upd_ne xn]; exact upd_same, ho⟩
      clear e5
      unfold tSeq sFld tCB tCons
      dsimp only
      refine lcL ((List.range p).filter fun i => f (st + i)) (fun (n : Nat) => V.int (n : Int)) (fun _ => true) (fun (n : Nat) => V.int ((st + n : Nat) : Int)) (by have := List.length_filter_le (fun i => f (st + i)) (List.range p); rw [List.length_range] at this; omega)
        (fun R hR => ⟨_, rfl, _, rfl, b, st, rfl, rfl, b >>> st, rfl, Nat.lt_of_lt_of_le B2.lt (Nat.pow_le_pow_right (by omega) (by omega)), fun H6 l6 s6 hl6 hk6 => hR l6 H6 s6 (.inl (.inl (by rw [hk6, b2]; rfl)))⟩) (fun i H' R1 R2 hi sm r1 r2 => ?_) (fun H6 D s6 hD6 hk6 => ?_)
      · refine ⟨rfl, yesI ?_⟩
        exact ⟨_, rfl, _, rfl, _, _, rfl, rfl, r2 H' (fun _ _ h => h) rfl⟩
      have ec : (((List.range p).filter fun i => f (st + i)).filter fun _ => true).map (fun (n : Nat) => V.int ((st + n : Nat) : Int)) = nI (cycL f st p) := by
        rw [List.filter_eq_self.mpr (by simp), cycL_is]
        unfold nI
        rw [List.map_map]
        rfl
      rw [ec] at hk6
      refine ⟨D, _, rfl, .inl (.inl hk6), fun m o2 hm ho2 => ?_⟩
      have xm : m ≠ x := fun z => by rw [z, s6 _ _ x5] at hm; cases hm
      refine ⟨_, rfl, x, C, dx, _, rfl, by rw [upd_ne (Ne.symm xm)]; exact s6 _ _ x5, T.cl, T.n_cycle, of_decide_eq_true rfl, ?_⟩
      generalize e7 : upd (upd H6 m _) x _ = H7
      have c57 : Chg x H5 H7 := by
        subst e7
        exact (Chg.of (s6.trans (same_new hm))).trans Chg.upd
      have x7 : H7 x = some (.ins C dx [("rounded", .ref r), ("start", .int (st : Int)), ("step", .int (p : Int)), ("below", .ref n), ("cycle", .ref m), ("least", leastV (belowL g st0 ++ cycL g st0 p0)), ("is_endless", .bl (!decide (cycL g st0 p0 = []))), ("text", .str (setT (normW g st0 p0)))]) := by
        subst e7
        exact upd_same
      have m7 : PT H7 m (nI (cycL f st p)) := by
        subst e7
        exact ⟨o2, by rw [upd_ne xm]; exact upd_same, ho2⟩
      clear e7
      have i57 : Imm H5 H7 := c57.imm x5 trivial
      have n7 := PT.imm i57 n5
      have ll : (nI (belowL f st)).length + (nI (cycL f st p)).length ≤ 10000 := by
        unfold nI belowL cycL
        rw [List.length_map, List.length_map]
        have := List.length_filter_le f (List.range st)
        have := List.length_filter_le f (List.range' st p)
        rw [List.length_range] at *
        rw [List.length_range'] at *
        omega
      refine ⟨_, rfl, x, C, dx, _, _, rfl, x7, T.cl, T.n_below, rfl, _, rfl, x, C, dx, _, _, rfl, x7, T.cl, T.n_cycle, rfl, cat_pt n7 m7 ll fun t H8 s8 ht8 => ?_⟩
      refine ⟨t, _, .non, rfl, rfl, by rw [← nI_app]; exact ht8.sq, fun v hv => ?_⟩
      rw [head_least_v hv]
      refine ⟨_, rfl, x, C, dx, _, rfl, s8 _ _ x7, T.cl, T.n_least, of_decide_eq_true rfl, ?_⟩
      generalize e9 : upd H8 x _ = H9
      have c79 : Chg x H7 H9 := by
        subst e9
        exact (Chg.of s8).trans Chg.upd
      have x9 : H9 x = some (.ins C dx [("rounded", .ref r), ("start", .int (st : Int)), ("step", .int (p : Int)), ("below", .ref n), ("cycle", .ref m), ("least", leastV (belowL f st ++ cycL f st p)), ("is_endless", .bl (!decide (cycL g st0 p0 = []))), ("text", .str (setT (normW g st0 p0)))]) := by
        subst e9
        exact upd_same
      clear e9
      have i79 : Imm H7 H9 := c79.imm x7 trivial
      have n9 := PT.imm i79 n7
      have m9 := PT.imm i79 m7
      refine ⟨_, rfl, x, C, dx, _, _, rfl, x9, T.cl, T.n_cycle, rfl, Nat.zero_le _, fun q o3 hq ho3 => ?_⟩
      have sq := same_new (o := .frz o3 (.tup [])) hq
      have xq : q ≠ x := fun z => by rw [z, x9] at hq; cases hq
      refine ⟨.tuple (nD2 (cycL f st p)), .tuple [], .tup (SqT.imm (.of sq) m9.sq) (dp_nI _), .tup (PT.new ho3).sq .nil, shape_nI _, shape_nI [], ?_⟩
      rw [eqv_nil]
      refine ⟨_, rfl, x, C, dx, _, rfl, by rw [upd_ne (Ne.symm xq)]; exact x9, T.cl, T.n_is_endless, of_decide_eq_true rfl, ?_⟩
      generalize eA : upd (upd H9 q _) x _ = HA
      have c9A : Chg x H9 HA := by
        subst eA
        exact (Chg.of sq).trans Chg.upd
      have xA : HA x = some (.ins C dx [("rounded", .ref r), ("start", .int (st : Int)), ("step", .int (p : Int)), ("below", .ref n), ("cycle", .ref m), ("least", leastV (belowL f st ++ cycL f st p)), ("is_endless", .bl (!decide (cycL f st p = []))), ("text", .str (setT (normW g st0 p0)))]) := by
        subst eA
        exact upd_same
      clear eA
      have i9A : Imm H9 HA := c9A.imm x9 trivial
      have nA := PT.imm i9A n9
      have mA := PT.imm i9A m9
      refine ⟨_, rfl, x, C, dx, _, _, rfl, xA, T.cl, T.n_below, rfl, _, rfl, x, C, dx, _, _, rfl, xA, T.cl, T.n_cycle, rfl, _, rfl, n, m, f, st, p, rfl, nA.sq, mA.sq, pp0, h2, h1, fun HB sB => ?_⟩
      refine ⟨_, rfl, x, C, dx, _, rfl, sB _ _ xA, T.cl, T.n_text, of_decide_eq_true rfl, ?_⟩
      have cAll : Chg x H (upd HB x (.ins C dx (flds2 r n m f st p))) := (((c5.trans c57).trans c79).trans c9A).trans ((Chg.of sB).trans Chg.upd)
      have iAll : Imm H (upd HB x (.ins C dx (flds2 r n m f st p))) := cAll.imm hx trivial
      have iB : Imm HA (upd HB x (.ins C dx (flds2 r n m f st p))) := Chg.imm ((Chg.of sB).trans Chg.upd) xA trivial
      exact k _ ⟨dx, r, n, m, st, p, b, upd_same, SqT.imm iAll hr2, (PT.imm iB nA).sq, (PT.imm iB mA).sq, rn, h1, h2⟩ cAll
end
end K1
namespace K1
open PySem PySem.Spec L2 Z K2
section
variable {P : Program} {w : World} {K : PySem.W.Frag} {mg : Str → Option Value} {base : Heap} {C CN CI : Addr}
theorem ok_init (T : Txt K mg C CN CI) (G_words_in : Pr P w K mg base "words_in" s_words_in 3 ["text"] (sp2_words_in K)) (G_common_step : Pr P w K mg base "common_step" s_common_step 1 ["words"] (sp2_common_step K)) (G_rounded_words : Pr P w K mg base "rounded_words" s_rounded_words 3 ["words", "step"] (sp2_rounded_words K)) (G_take : PrM P w K mg base C "take" "Lengths.take" s_take 2 ["self", "rounded"] (sp3_take K C)) : PrI P w K mg base C "Lengths.__init__" s_init 4 ["self", "text"] (sp2_init K C) := by
  obtain ⟨f, fd, F, gl, bd⟩ := T.d_init
  refine ⟨f, fd, F, gl, bd, F.ok sc_init (fun vs H Q E h => ?_) (fun cdv A outer s H vs Q E hr h => ?_)⟩
  · obtain ⟨x, dx, ws, P, rfl, _⟩ := h
    rfl
  · obtain ⟨x, dx, ws, P, rfl, hx, ok, k⟩ := h
    have hu := hu_of hr
    refine ⟨_, (pss_cons (ps_set (i := 2) sc_init.nd rfl (Or.inl rfl) (pcall G_words_in (hr.mono (by decide)) (pa_cons (pv 1) pa_nil)))
      (pss_cons (ps_if (pt_cmp (pc_isN (pv 2)) rfl) (pss_one ps_never) pss_nil)
      (pss_cons (ps_set (i := 3) sc_init.nd rfl (Or.inl rfl) (pcall G_common_step (hr.mono (by decide)) (pa_cons (pv 2) pa_nil)))
      (pss_cons (ps_if (pt_cmpR op_gt (pv 3) (pe_globI rfl T.c_MOST_STEP) (nomark _)) (pss_one ps_never) pss_nil)
      (pss_cons (ps_set (i := 4) sc_init.nd rfl (Or.inl rfl) (pcall G_rounded_words (hr.mono (by decide)) (pa_cons (pv 2) (pa_cons (pv 3) pa_nil))))
      (pss_cons (ps_if (pt_cmpR op_gt (pe_ix ix_tup (pv 4) pe_int (fun _ _ => rfl)) (pe_globI rfl T.c_MOST_START) (nomark _)) (pss_one ps_never) pss_nil)
      (pss_one (ps_expr (pmeth (pv 0) T.cl G_take (hr.mono (by decide)) (pa_cons (pv 4) pa_nil)))))))))), ?_⟩
    have p60 := ok.p60
    refine ⟨_, rfl, ws, P, rfl, ok, fun H1 v s1 hv => ?_⟩
    obtain ⟨a, rs, rfl, ht, hp⟩ := hv
    refine ⟨_, rfl, false, congrArg V.bl (by simp), iteF ?_⟩
    have LP : common ws ≤ P := Nat.le_of_dvd ok.p0 (common_dvd ok.steps)
    refine ⟨_, rfl, .ref a, ws, P, rfl, ⟨a, rs, rfl, ht, hp⟩, ok, ?_⟩
    refine ⟨_, rfl, _, _, rfl, rfl, false, congrArg V.bl (decide_eq_false (by omega)), iteF ?_⟩
    refine ⟨_, rfl, _, rfl, .ref a, ws, P, rfl, ⟨a, rs, rfl, ht, hp⟩, ok, fun H2 t st m b' s2 ht2 rn h1 h2 => ?_⟩
    refine ⟨_, rfl, t, _, 0, _, rfl, rfl, ht2, at_first, _, _, rfl, rfl, false, congrArg V.bl (decide_eq_false (by omega)), iteF ?_⟩
    have s12 := s1.trans s2
    refine ⟨_, rfl, x, dx, _, rfl, s12 _ _ hx, rfl, _, rfl, x, dx, t, has ws, st, m, b', _, rfl, s12 _ _ hx, .inl rfl, ht2, rn, h1, h2, fun H3 L c3 => ?_⟩
    exact k H3 L ((Chg.of s12).trans c3)
end
end K1
namespace K1
open PySem PySem.Spec L2 Z K2
section
variable {P : Program} {w : World} {K : PySem.W.Frag} {mg : Str → Option Value} {base : Heap} {C CN CI : Addr}
theorem ok_law_set_text (T : Txt K mg C CN CI)  : Pr P w K mg base "_law_set_text" s_law_set_text 1 ["_law_words"] (sp2_set_text K) := by
  obtain ⟨f, fd, F, gl, bd⟩ := T.d__law_set_text
  refine ⟨f, fd, F, gl, bd, F.ok sc_law_set_text (fun vs H Q E h => ?_) (fun cdv A outer s H vs Q E hr h => ?_)⟩
  · obtain ⟨v, ws, rfl, _⟩ := h
    rfl
  · obtain ⟨v, ws, rfl, hW, hz, hw, k⟩ := h
    have hu := hu_of hr
    refine ⟨_, (pss_cons (ps_setLc (i := 1) (own := [("_law_first", 2), ("_law_step", 3)]) (g := gTup K 2 (gCons (gName 2) (gCons (gName 3) gNil))) (tt := tYes) rfl sc_law_set_text.nd rfl rfl (sw_true rfl rfl rfl (by decide +kernel)) (pi_list (pv 0)) (blkOk_by (own := [("_law_first", 2), ("_law_step", 3)]) (N := N_law_set_text) (sc := defScope s_law_set_text) (by decide +kernel)) (fun _ _ _ _ _ => (pg_tup rfl (pgs_cons (pg_name (i := 2) sc_law_set_text.nd rfl (Or.inl rfl)) (pgs_cons (pg_name (i := 3) sc_law_set_text.nd rfl (Or.inl rfl)) pgs_nil)))) (fun _ _ _ _ _ => pts_nil) (fun _ _ _ _ _ => (pe_op op_add_str (pe_callTy call_str_int (by rfl) T.b_str (by decide +kernel) (pa_cons (pv 2) pa_nil)) (pe_ifExp (pt_cmpR op_eq (pv 3) pe_int (nomark _)) pe_str (pe_ifExp (pt_cmpR op_eq (pv 3) pe_int (nomark _)) pe_str (pe_op op_add_str pe_str (pe_callTy call_str_int (by rfl) T.b_str (by decide +kernel) (pa_cons (pv 3) pa_nil))))))))
      (pss_one (ps_ret (pe_ifExp (pt_cmpR (op_neD hr.units) (pv 1) (pe_lst pa_nil) (nomark _)) (pe_join pe_str (pv 1)) pe_str)))), ?_⟩
    have hl := joinW_len hw
    unfold tSeq tAsg
    dsimp only
    refine lcWL ws (fun _ => true) (fun w => V.str (wordT w)) (by omega) rfl hW (fun b w H' R1 R2 hm sm hq h1 h2 => ?_) (fun H1 D sm hD hk => ?_)
    · obtain ⟨w1, w2⟩ := hw w hm
      have n1 := num_len (i := (w.1 : Int)) (by omega) (by omega)
      have n2 := num_len (i := (w.2 : Int)) (by omega) (by omega)
      refine ⟨b, _, rfl, hq, rfl, _, _, rfl, _, _, rfl, rfl, rfl, yesI ?_⟩
      refine ⟨_, rfl, _, rfl, num_log (by omega) (by omega), _, rfl, rfl, ?_⟩
      have L3 : ∀ z : Str, z.length ≤ 4 → (Str.ofString (toString ((w.1 : Nat) : Int))).length + z.length ≤ sizeLine := fun z hz => sl_le (Nat.le_trans (Nat.add_le_add n1 hz) (by decide))
      by_cases e0 : w.2 = 0
      · have ew : wordT w = Str.ofString (toString ((w.1 : Nat) : Int)) ++ Str.ofString "" := by
          unfold wordT tailT
          rw [if_pos e0]
          rfl
        rw [ew] at h2
        refine ⟨_, rfl, ifT ((eqIN w.2 0).trans (decide_eq_true e0)) ?_⟩
        exact ⟨_, _, rfl, rfl, L3 _ (by rw [none0_len]; omega), h2 H' (fun _ _ h => h) rfl⟩
      refine ⟨_, rfl, ifF ((eqIN w.2 0).trans (decide_eq_false e0)) ?_⟩
      refine ⟨_, rfl, rfl, _, rfl, ?_⟩
      by_cases e1 : w.2 = 1
      · have ew : wordT w = Str.ofString (toString ((w.1 : Nat) : Int)) ++ Str.ofString "+" := by
          unfold wordT tailT
          rw [if_neg e0, if_pos e1]
          rfl
        rw [ew] at h2
        refine ifT ((eqIN w.2 1).trans (decide_eq_true e1)) ?_
        exact ⟨_, _, rfl, rfl, L3 _ (by rw [plus_len]; omega), h2 H' (fun _ _ h => h) rfl⟩
      · have ew : wordT w = Str.ofString (toString ((w.1 : Nat) : Int)) ++ (Str.ofString "+" ++ Str.ofString (toString ((w.2 : Nat) : Int))) := by
          unfold wordT tailT
          rw [if_neg e0, if_neg e1]
          rfl
        rw [ew] at h2
        have n3 : (Str.ofString (toString ((w.2 : Nat) : Int))).length ≤ 3 := n2
        refine ifF ((eqIN w.2 1).trans (decide_eq_false e1)) ?_
        refine ⟨_, rfl, _, rfl, num_log (by omega) (by omega), _, _, rfl, rfl, sl_le (by rw [plus_len]; exact Nat.le_trans (Nat.add_le_add_left n3 1) (by decide)), ?_⟩
        exact ⟨_, _, rfl, rfl, L3 _ (by rw [len_app, plus_len]; omega), h2 H' (fun _ _ h => h) rfl⟩
    rw [List.filter_eq_self.mpr (by simp)] at hk
    have hk' : H1 D = some (.lst ((ws.map wordT).map V.str)) := by rw [hk, List.map_map]; rfl
    refine ⟨_, rfl, Nat.zero_le _, fun E hE => ?_⟩
    have s2 := same_new (o := .lst []) hE
    refine ⟨.list (sD (ws.map wordT)), .list [], .lst (.inl (.inl (s2 _ _ hk'))) (dp_strs _), .lst (.inl (.inl upd_same)) .nil, shape_ws _, shape_ws [], ?_⟩
    rw [eqv_snil]
    have kk := k _ (sm.trans s2)
    by_cases hc : ws = []
    · subst hc
      exact ⟨_, rfl, ifF rfl kk⟩
    · rw [setT_cons hc] at kk
      have sum1 := sum_len (k := 7) (ys := ws.map wordT) (words_le hw)
      rw [List.length_map] at sum1
      refine ⟨_, rfl, ifT (by rw [decide_eq_false (by simpa using hc)]; rfl) ?_⟩
      refine ⟨⟨_, rfl⟩, _, rfl, _, D, ws.map wordT, rfl, rfl, .inl (.inl (.inl (s2 _ _ hk'))), ?_, kk⟩
      have e1 : (Str.ofString " ").length = 1 := sp1_len
      rw [List.length_map, e1]
      omega
end
end K1
/-! A def that calls the lambda that it got, and tells what came: try: return [S1, repr(a())] / except x as n: return [S2, repr(n.F)]. -/
namespace Z
open PySem PySem.Spec PyProof.Rows L2 LamX
/-- what the def tells: a list of a word and a text -/
def Tells (K : PySem.W.Frag) (S : Str) (v : V) (H : Hp) (Q : VK) : Prop := rShow K [v] H fun t H2 => [V.str S, t].length ≤ sizeLine ∧ ∀ p, H2 p = none → Q (.ref p) (upd H2 p (.lst [.str S, t]))
theorem Tells.intro {K : PySem.W.Frag} {S : Str} {v : V} {H : Hp} {Q : VK} {d : PyData} (h : Sh K H v d) (s : d.showable = true) (dp : d.depth ≤ 60) (z : d.shown.length ≤ sizeLine) (k : ∀ p, H p = none → Q (.ref p) (upd H p (.lst [.str S, .str d.shown]))) : Tells K S v H Q :=
  ⟨v, d, rfl, h, s, dp, z, by show 2 ≤ sizeLine; exact (by decide +kernel), k⟩
def TShow (K : PySem.W.Frag) (CS : Addr) (F S1 S2 : Str) : (XK → Hp → VK → Prop) → Hp → VK → Prop := fun tl H Q =>
  tl (fun cls d H' => cls = .ref CS ∧ ∃ dd v, d = some dd ∧ H' dd = some (.xd [(F, v)]) ∧ Tells K S2 v H' Q) H (fun v H' => Tells K S1 v H' Q)
section
variable {X : Cx}
theorem takes_len {W : WX} (tk : Takes X W) (n : Nat) (hn : X.N.length = n) : Takes X (fun cls d σ H => σ.length = n → W cls d σ H) := fun u s' ⟨a, B, sI, pins, σ, H, cls, d, e, I, nb, up, sky, na, os, ag, w⟩ =>
  tk u s' ⟨a, B, sI, pins, σ, H, cls, d, e, I, nb, up, sky, na, os, ag, w (by rw [I.len, hn])⟩
theorem show_gives {Ng : List Str} {x a e n q F S1 S2 : Str} {sg : Scope} {g CS : Addr} {cdg : Value} {j1 j2 : Nat} {p1 p2 p3 p4 p5 p6 p7 p8 p9 pa pb pc pd pe pf pg ph : Pos}
    (hge : sg.names.lookup e = some .globalImplicit) (hme : X.mg e = some (.ref CS)) (hde : (e == ("__debug__" : Str)) = false) (h0 : ∀ f : Addr, (L2.start Ng [V.ref f])[0]? = some (some (V.ref f)))
    (hgr : sg.names.lookup ("repr" : Str) = some .globalImplicit) (hmr : X.mg "repr" = none) (nd : Ng.Nodup) (hl : Ng.length = 2) (hn : Ng[1]? = some n) (hnl : sg.names.lookup n = some .local) (hdn : (n == ("__debug__" : Str)) = false) (hcn : (n == ("__classdict__" : Str)) = false)
    (te : PySem.W.exmOne X.K (.ref CS) (.ref CS) = some true) (xf : XfC X.K CS) (no : PySem.W.findIn X.K (.ref CS) F = some none) (hgd : X.A.guards = some []) (hu : X.A.units + 80 < cLine) :
    GivesTo X Ng x sg g cdg [.Try [.Return (some (.List [.Constant (.str S1) j1 p3, .Call (.Name "repr" p4) [.Call (.Name a p1) [] [] p2] [] p5] p6)) p7]
      [.ExceptHandler (some (.Name e p8)) (some n) [.Return (some (.List [.Constant (.str S2) j2 p9, .Call (.Name "repr" pa) [.Attribute (.Name n pb) F pc] [] pd] pe)) pf] pg] [] [] ph] a q (TShow X.K CS F S1 S2) := by
  intro f c' s H Q tl act hc h
  let Z := (cxOf C8.CX0 X.prog X.w X.K X.mg X.base Ng x sg g cdg X.A X.stack s H C8.E0).nox
  have hgl : Gl Z e := hge
  have hglr : Gl Z "repr" := hgr
  have hgdZ : Z.A.guards = some [] := by
    show (X.A.deeper _).guards = some []
    simpa [Around.deeper] using hgd
  have huZ : Z.A.units + 64 < cLine := by
    show (X.A.deeper _).units + 64 < cLine
    simp only [Around.deeper]
    omega
  have hb : bootBuiltins ("repr" : Str) = some (.builtin "repr") := by decide +kernel
  let cl : List Clause := [(.ref CS, 1, fun a cls d => tRet (tLst (tCons (tC (.str S2)) (tCons (tCB (rShow X.K) (tCons (tXf a cls d CS F (tVar 1)) tNil)) tNil))))]
  refine ⟨_, pss_one (ps_try_each (X := Z) (l := cl) (tb := fun W D σ H => σ.length = 2 → ∃ Ech : XK, (∀ cls d σ' H', Ech cls d H' → σ'.length = 2 → W cls d σ' H') ∧ σ[0]? = some (some (.ref f)) ∧ H c' = some (CodeO c' q) ∧ tl Ech H (fun v H' => Tells X.K S1 v H' D.rt))
      rfl rfl nd LamX.takes0 (fun W pn xe tk _ => ?_)
      (.cons (i := 1) hn (show sg.names.lookup n = some .local from hnl) ⟨hgl, hde, .inl hme⟩ (fun a oe cls d pn hz hf => pss_one (ps_ret (pe_lst (pa_cons pe_str (pa_cons (pe_callB (id := "repr") (r := rShow X.K) (call_show (X := Z.suite a ((a, oe) :: pn)) hgdZ huZ) hglr hmr hb (pa_cons (pe_xf xf no hz hf (pe_var (i := 1) hn (Or.inl hnl) hdn hcn)) pa_nil)) pa_nil))))) .nil)), ?_⟩
  · refine ⟨fun pins s' σ H' D I h' => ?_⟩
    have e2 : σ.length = 2 := I.len.trans hl
    obtain ⟨Ech, hW, h1, h2, h3⟩ := h' e2
    have hp := act (fun cls d σ H => σ.length = 2 → W cls d σ H) pn xe Ech p1 p2 (takes_len tk 2 hl) hW
    have hq := pss_one (ps_ret (pos := p7) (pe_lst (pos := p6) (pa_cons (pe_str (x := S1) (j := j1) (pos := p3)) (pa_cons (pe_callB (p := p4) (pos := p5) (call_show (X := Z.tr pn xe) hgdZ huZ) hglr hmr hb (pa_cons hp pa_nil)) pa_nil))))
    refine hq.run pins s' σ H' D I ?_
    exact ⟨h1, h2, h3⟩
  · intro hs
    refine ⟨_, fun cls d σ' H' he hl' => ?_, h0 f, hc, h⟩
    obtain ⟨rfl, dd, v, rfl, hd, k⟩ := he
    refine .inl ⟨te, fun a ha => ?_⟩
    have hset : (σ'.set 1 (some (.ref a)))[1]? = some (some (V.ref a)) := by
      rw [List.getElem?_set_self (by omega)]
    exact ⟨_, hset, rfl, rfl, dd, _, v, rfl, hd, by simp, k⟩
end
end Z
/-! A def whose code object is known; a lambda handed to a def that tells what its call did. -/
namespace Z
open PySem PySem.Spec PyProof.Rows L2 LamX
section
variable {P : Program} {w : World} {K : PySem.W.Frag} {mg : Str → Option Value} {base : Heap}
/-- as okG, where the frame's code object is the def's own -/
theorem okGC {x qual : Str} {st : Stmt} {f : Addr} {fd : FuncData} {N ps : List Str} {k : Nat} {sp : Sp} {c : Addr} (F : Fun K x qual st f fd) (hc : fd.code = .ref c) (S : FnScope N ps (defScope st)) (len : ∀ vs H Q E, sp vs H Q E → vs.length = ps.length)
    (hbody : ∀ (A : Around) (outer : List Env) (s : Shared) (H : Hp) (vs : List V) (Q : VK) (E : XK), Room k (A.deeper (envOfC qual (defScope st) s.heap.objs.size f (.ref c))) →
      (A.deeper (envOfC qual (defScope st) s.heap.objs.size f (.ref c))).guards = some [] → sp vs H Q E →
      ∃ t, PSs (cxOf CX0 P w K mg base N qual (defScope st) f (.ref c) A outer s H E).nox (defBody st) t ∧ t { nx := fun _ H' => Q .non H', rt := Q } (start N vs) H) : FnG P w K mg base (k + 1) f fd ps sp := by
  obtain ⟨oc, od, kV, doc, pm, an, cdv, ct, osl, rfl, lk, hcd⟩ := F.ex
  obtain rfl : cdv = .ref c := hc
  refine ⟨len, fun A outer s H args us vs Q E hr hgd e0 hb r hsp => ?_⟩
  have keepB : ∀ b o, base.get? b = some o → s.heap.get? b = some o := fun b o e => (e0.bs b o e).1
  have KX : K.In s.heap := e0.mod.kin.keeps keepB
  have lim : s.heap.NoLimit := e0.mod.nolimit.keeps keepB
  refine codeAny_call_function hr.depth (KX _ _ lk) rfl S.co S.gen rfl (PySem.W.codeRec_of KX hcd) (hb _ _ _ _ ?_)
  refine wpAny_newFunctionEnv_cells S.kind (fun y hy => ?_) fun env he s1 x => ?_
  · rcases S.par y.1 (List.of_mem_zip (a := y.1) (b := y.2) hy).1 with q | q
    · exact .inl q
    · exact .inr ⟨q, PySem.W.cellsFrom_some _ _ _ (.inl q)⟩
  subst he
  refine ⟨lim.keeps x.toInCall.keep, codeAny_func ?_⟩
  obtain ⟨t, ht, hq⟩ := hbody A outer s H vs Q E (hr.deeper _) (by simpa [Around.deeper] using hgd) hsp
  have I0 := inv_start (CX := CX0) (E := E) (cd := .ref c) (qual := qual) (f := f) (N := N) S hr.hd e0 (len _ _ _ _ hsp) r x
  refine wpAny_mono (ht.nox.run [] s1 (start N vs) H _ I0 hq) (fun fl s' hs => ?_) fun e s' hs => hs
  have fin : ∀ {σ' : L2.St} {H' : Hp} {v : V} {u : Value}, Inv (cxOf CX0 P w K mg base N qual (defScope st) f (.ref c) A outer s H E) [] σ' H' s' → RelV v u → Q v H' → CE outer P w H s Q u s' :=
    fun J rv q => ⟨_, _, J.os, J.bare, J.base, J.hok, rv, q⟩
  match fl, hs with
  | .ret u, ⟨v, σ', H', J, rv, q⟩ => exact fin J rv q
  | .next, ⟨σ', H', J, q⟩ => exact fin (v := V.non) (u := Value.none) J rfl q
  | .brk, ⟨_, _, _, q⟩ => exact q.elim
  | .cont, ⟨_, _, _, q⟩ => exact q.elim
end
section
variable {X : Cx} {T : List (Addr × Str)} {x a e n F S1 S2 : Str} {st : Stmt} {g CS c P : Addr} {k : Nat} {fd : FuncData} {Ng : List Str} {params : Arguments} {body : Expr} {scope : Scope} {t : XK → TE} {p lpos pos : Pos} {j1 j2 : Nat} {p1 p2 p3 p4 p5 p6 p7 p8 p9 pa pb pc pd pe pf pg ph : Pos}
/-- x(lambda: body), x a def that tells what the call did -/
theorem pe_lamTell (Fg : Fun X.K x x st g fd) (hg : Gl X x) (hm : X.mg x = some (.ref g)) (hb : L2.Binds X.K fd [a] []) (Sg : FnScope Ng [a] (defScope st)) (hNg : Ng[0]? = some a) (hva : Vis (defScope st) a)
    (hbd : defBody st = [.Try [.Return (some (.List [.Constant (.str S1) j1 p3, .Call (.Name "repr" p4) [.Call (.Name a p1) [] [] p2] [] p5] p6)) p7]
      [.ExceptHandler (some (.Name e p8)) (some n) [.Return (some (.List [.Constant (.str S2) j2 p9, .Call (.Name "repr" pa) [.Attribute (.Name n pb) F pc] [] pd] pe)) pf] pg] [] [] ph])
    (hge : (defScope st).names.lookup e = some .globalImplicit) (hme : X.mg e = some (.ref CS)) (hgr : (defScope st).names.lookup ("repr" : Str) = some .globalImplicit) (hmr : X.mg "repr" = none) (h0 : ∀ f : Addr, (L2.start Ng [V.ref f])[0]? = some (some (V.ref f)))
    (hl : Ng.length = 2) (hn : Ng[1]? = some n) (hnl : (defScope st).names.lookup n = some .local)
    (te : PySem.W.exmOne X.K (.ref CS) (.ref CS) = some true) (xf : XfC X.K CS) (no : PySem.W.findIn X.K (.ref CS) F = some none) (hgd : X.A.guards = some []) (hu : X.A.units + 80 < cLine)
    (TB : TabB X.base X.mg c P) (hcode : X.env.code = .ref c) (hmT : (P, X.env.qual ++ "<lambda>") ∈ T) (hu2 : ∀ p ∈ T, p.1 = P → p.2 = X.env.qual ++ "<lambda>") (hr : Room (k + 2) X.A) (L : LamS X.env.scope scope) (hdef : defaultsOf params X.env = ([], []))
    (hbind : ∀ (q : Str) (cl : List (Str × Addr)) (pm cv ctv : Value), bindArgs (PySem.W.kla_fn "<lambda>" q params body scope cl pm cv ctv) ⟨[], []⟩ = pure [])
    (hbody : ∀ (A : Around) (outer : List Env) (s : Shared) (H : Hp) (E : XK) (f c' : Addr), Room k (A.deeper (lamEnv X scope s.heap.objs.size f c')) → PE (lamCx X A outer s H E scope f c') body (t E))
    (hde : (e == ("__debug__" : Str)) = false := by decide) (hdn : (n == ("__debug__" : Str)) = false := by decide) (hcn : (n == ("__classdict__" : Str)) = false := by decide)
    (hdb : (x == ("__debug__" : Str)) = false := by decide) (hd : (a == ("__debug__" : Str)) = false := by decide) (hcd : (a == ("__classdict__" : Str)) = false := by decide) :
    PE X (.Call (.Name x p) [.Lambda params body scope lpos] [] pos) (tLam T (TShow X.K CS F S1 S2) t) := by
  obtain ⟨oc, od, kV, doc, pm, an, cdv, ct, osl, rfl, lk, hcd2⟩ := Fg.ex
  have G := show_gives (X := X) (x := x) (q := X.env.qual ++ "<lambda>") (g := g) (cdg := cdv) (j1 := j1) (j2 := j2) (p1 := p1) (p2 := p2) (p3 := p3) (p4 := p4) (p5 := p5) (p6 := p6) (p7 := p7) (p8 := p8) (p9 := p9) (pa := pa) (pb := pb) (pc := pc) (pd := pd) (pe := pe) (pf := pf) (pg := pg) (ph := ph) (a := a) (S1 := S1) (S2 := S2) hge hme hde h0 hgr hmr Sg.nd hl hn hnl hdn hcn te xf no hgd hu
  rw [← hbd] at G
  exact pe_lamcall hg hm Fg.kp lk hcd2 hb Sg hNg hva G TB hcode hmT hu2 hr L hdef hbind hbody hdb hd hcd
end
end Z
/-! `x in l`, l a list of texts, x any thing that can be shown (a dict too). -/
namespace Z
open PySem PySem.Spec PyProof.Rows L2 PySem.SeqAt
open PyProof
theorem dict_eq_declines_str (a : Addr) (es : Array DictEntry) (ep : Nat) (b : Str) (u : Tok) :
    Meets (Builtin.«dict.__eq__» ⟨[.ref a, .str b u], []⟩) (fun _ R s => s.heap.get? a = some { cls := .type "dict", dict := none, data := .dict es ep, slots := #[] } ∧ R (.ok (.ret .notImplemented)) s) :=
  .of_wp fun prog w A R s h => by
    obtain ⟨hp, g, d, tk, os⟩ := s
    obtain ⟨hl, h⟩ := h
    have f1 := F.sub_str_dict
    wp_walk using wpAny_load hl
    exact ⟨_, rfl, h⟩
theorem str_eq_declines_dict (b : Str) (u : Tok) (a : Addr) (es : Array DictEntry) (ep : Nat) :
    Meets (Builtin.«str.__eq__» ⟨[.str b u, .ref a], []⟩) (fun _ R s => s.heap.get? a = some { cls := .type "dict", dict := none, data := .dict es ep, slots := #[] } ∧ R (.ok (.ret .notImplemented)) s) :=
  .of_wp fun prog w A R s h => by
    obtain ⟨hp, g, d, tk, os⟩ := s
    obtain ⟨hl, h⟩ := h
    wp_walk using wpAny_load hl
    exact ⟨_, rfl, h⟩
section
variable {A : Around} {s : Shared}
theorem rc_str_dict {a : Addr} {es : Array DictEntry} {ep : Nat} (b : Str) (u : Tok) (ho : s.heap.get? a = some { cls := .type "dict", dict := none, data := .dict es ep, slots := #[] }) (hu : A.units < cLine) : RcAt A s (.str b u) (.ref a) false := fun prog w E Q h =>
  rc_eq_decline_or (k := false) (typeIs_str s b u) ⟨_, ho, rfl⟩ (by decide) F.sub_dict_str F.slot_str_eq F.slot_dict_eq_refl
    (fun _ hq => call_meets F.slot_str_eq (typeIs_str s b u) F.entry_str_eq (F.args_str_eq_2 _ _) (str_eq_declines_dict b u a es ep) ⟨ho, hq⟩)
    (fun _ hq => call_meets F.slot_dict_eq_refl ⟨_, ho, rfl⟩ F.entry_dict_eq (F.args_dict_eq_2 _ _) (dict_eq_declines_str a es ep b u) ⟨ho, hq⟩)
    (fun _ hq => wpAny_of_eq (rfl : isSame (.str b u) (.ref a) = pure false) hq) (.inr hu) h
theorem eq_str_dict {a : Addr} {es : Array DictEntry} {ep : Nat} (b : Str) (u : Tok) (ho : s.heap.get? a = some { cls := .type "dict", dict := none, data := .dict es ep, slots := #[] }) (hu : A.units < cLine) : EqAt A s (.str b u) (.ref a) false := fun prog w E Q h => by
  unfold eqBool
  refine wpAny_holding ?_
  refine wpAny_ite_split (fun hab => absurd (eq_of_beq hab) nofun) (fun _ => ?_)
  exact wpAny_bind (rc_str_dict b u ho hu prog w E _ (wpAny_truthy_bool h))
end
section
variable {X : Cx}
/-- is the thing one of the texts -/
def rInT (K : PySem.W.Frag) : R2 := fun x y H Q => ∃ (p : Addr) (ws : List Str), y = .ref p ∧ SqL K H p (ws.map V.str) ∧ (∀ z ∈ ws, PyData.strOk z = true) ∧ ((∃ d, Dp K H x d ∧ SeqAt.shaped d = true ∧ Q (.bl (ws.any fun z => PyData.eqv (.str z) d)) H) ∨ ∃ a kvs, x = .ref a ∧ H a = some (.dK kvs) ∧ Q (.bl false) H)
theorem dp_strs {K : PySem.W.Frag} {H : Hp} : ∀ ws : List Str, DpAll K H (ws.map V.str) (ws.map PyData.str)
  | [] => .nil
  | x :: r => .cons (.str x) (dp_strs r)
theorem shaped_strs (ws : List Str) (ok : ∀ z ∈ ws, PyData.strOk z = true) : SeqAt.shaped (.list (ws.map PyData.str)) = true := by
  have h1 : ∀ ws : List Str, (∀ z ∈ ws, PyData.strOk z = true) → PyData.canLayAll0 (ws.map PyData.str) = true ∧ PyData.depthAll (ws.map PyData.str) ≤ 1 := by
    intro ws
    induction ws with
    | nil => exact fun _ => ⟨rfl, by simp [PyData.depthAll]⟩
    | cons x r ih => exact fun k => ⟨by simp [PyData.canLayAll0, PyData.canLay0, (ih fun z hz => k z (List.mem_cons_of_mem _ hz)).1, k x List.mem_cons_self], by simp [PyData.depthAll, PyData.depth]; exact (ih fun z hz => k z (List.mem_cons_of_mem _ hz)).2⟩
  have h2 := (h1 ws ok).2
  have h3 := (h1 ws ok).1
  unfold SeqAt.shaped
  rw [show (PyData.list (ws.map PyData.str)).canLay0 = true from by simpa [PyData.canLay0] using h3]
  have h4 : (PyData.list (ws.map PyData.str)).depth ≤ 2 := by
    simp only [PyData.depth]
    omega
  simp only [Bool.true_and, decide_eq_true_eq]
  omega
theorem reads_strs {h : Heap} : ∀ (ws : List Str) (vs : List Value) (as : List Addr), ReadsAll h vs (ws.map PyData.str) as → ∀ y ∈ vs, ∃ b u, y = .str b u
  | [], _, _, r, y, hy => by cases r; cases hy
  | x :: ws, _, _, r, y, hy => by
    cases r with
    | cons r1 r2 =>
      rcases List.mem_cons.mp hy with rfl | hy
      · cases r1
        exact ⟨_, _, rfl⟩
      · exact reads_strs ws _ _ r2 y hy
theorem op_inT (hu : X.A.units + 65 < cLine) : OpR X (compareOp .In) (rInT X.K) := by
  intro pins s σ H x y v u Q I rx ry h
  obtain ⟨p, ws, rfl, hl, ok, ⟨d, hd, sd, q⟩ | ⟨a, kvs, rfl, ha, q⟩⟩ := h
  · refine op_inD hu pins s σ H x (.ref p) v u Q I rx ry ⟨d, ws.map PyData.str, hd, .lst hl (dp_strs ws), sd, shaped_strs ws ok, ?_⟩
    rw [List.any_map]
    exact q
  · cases rx
    obtain ⟨bs, r2⟩ := Dp.reads I (.list (ws.map PyData.str)) (.ref p) u (.lst hl (dp_strs ws)) ry
    obtain ⟨_, _, _, _, ⟨cl, dd, dt, sl⟩, es, ep, ho, ⟨x1, x2, x3⟩, hdat, _⟩ := dk_of I.hok ha
    simp only at x1 x2 x3 hdat
    subst x1 x2 x3 hdat
    cases r2 with
    | list h1 h2 h3 h4 =>
      refine in_listAt (fun _ => false) ⟨_, h1, h2, _, h3⟩ (fun y hy => ?_) ?_
      · obtain ⟨b, t, rfl⟩ := reads_strs ws _ _ h4 y (by simpa using hy)
        exact eq_str_dict b t ho (by show X.A.units + 1 < cLine; omega)
      · rw [show Array.any _ (fun _ => false) = false from by simp]
        exact ⟨.bl false, H, I, rfl, q⟩
end
end Z
/-! Members and counts: maths, promises. -/
namespace Z
open PySem PySem.Spec L2
theorem pe_fldK {X : Cx} {K : PySem.W.Frag} {e : Expr} {ta : TE} {f : Str} {pos : Pos} (h : X.K = K) (he : PE X e ta) (hb : attributeBase e f X.env (eval e X.env) = eval e X.env) : PE X (.Attribute e f pos) (tFld K ta f) := h ▸ pe_fld he hb
theorem tAnd_two {ta tb : TT} {σ : L2.St} {H : Hp} {Q : Bool → Hp → Prop} (a b : Bool) (ha : ∀ R : Bool → Hp → Prop, R a H → ta σ H R) (hb : a = true → ∀ R : Bool → Hp → Prop, R b H → tb σ H R) (q : Q (a && b) H) : tAnd ta tb σ H Q := by
  refine ha _ ?_
  cases a with
  | true => exact hb rfl _ q
  | false => exact q
end Z
namespace K1
open PySem PySem.Spec L2 Z K2 LamX
/-- no number -/
def NN (K : PySem.W.Frag) (H : Hp) (v : V) : Prop := (∃ z, v = .bl z) ∨ v = .non ∨ (∃ z, v = .str z) ∨ (∃ a xs, v = .ref a ∧ SqT K H a xs) ∨ (∃ a xs, v = .ref a ∧ H a = some (.lst xs)) ∨ ∃ a xs, v = .ref a ∧ H a = some (.dK xs)
def In (v : V) (lo hi : Int) : Prop := ∃ i, v = .int i ∧ lo ≤ i ∧ i ≤ hi
def Out (K : PySem.W.Frag) (H : Hp) (v : V) (lo hi : Int) : Prop := NN K H v ∨ ∃ i, v = .int i ∧ ¬ (lo ≤ i ∧ i ≤ hi)
/-- a drawn thing, shown as d -/
def OddN (K : PySem.W.Frag) (H : Hp) (v : V) (d : PyData) : Prop := ((∃ i, v = .int i) ∨ NN K H v) ∧ Sh K H v d
def OddOk (d : PyData) : Bool := PyData.strOk d.shown && d.showable && decide (d.depth ≤ 60) && decide (d.shown.length ≤ sizeLine)
theorem jugS {H H' : Hp} {j : Addr} (s : Same H H') (h : JugAt H j) : JugAt H' j := by
  obtain ⟨g, t, c, q, a, b⟩ := h
  exact ⟨g, t, c, s _ _ q, a, b⟩
theorem same_new2 {H : Hp} {p : Addr} {a b : HO} (h : H p = none) : Same H (upd (upd H p a) p b) := fun q x e => by
  have n := ne_of_none e h
  rw [upd_ne n, upd_ne n]
  exact e
/-- all but the jug and the tables is as it was -/
def ChT (j : Addr) (H H' : Hp) : Prop := ∀ b o, H b = some o → b ≠ j → (∀ ps, o ≠ .tbl ps) → H' b = some o
theorem ChT.of {j : Addr} {H H' : Hp} (c : Chg j H H') : ChT j H H' := fun b o e n _ => c b o e n
theorem ChT.ext {j : Addr} {H H' : Hp} (c : ExtN H H') : ChT j H H' := fun b o e _ t => c b o e t
theorem ChT.trans {j : Addr} {H H1 H2 : Hp} (a : ChT j H H1) (b : ChT j H1 H2) : ChT j H H2 := fun c o e n t => b c o (a c o e n t) n t
theorem jugN {H H' : Hp} {j : Addr} (s : ExtN H H') (h : JugAt H j) : JugAt H' j := by
  obtain ⟨g, t, c, q, a, b⟩ := h
  exact ⟨g, t, c, s _ _ q (fun _ z => by cases z), a, b⟩
theorem immN {H H' : Hp} (s : ExtN H H') : Imm H H' := ⟨fun b xs h => s b _ h (fun _ z => by cases z), fun b o u h => s b _ h (fun _ z => by cases z)⟩
theorem LSt.ext {K : PySem.W.Frag} {C x : Addr} {H H' : Hp} {f : Nat → Bool} (e : ExtN H H') (h : LSt K C H x f) : LSt K C H' x f := by
  obtain ⟨dx, r, bt, ct, st, p, b, S⟩ := h
  have im := immN e
  exact ⟨dx, r, bt, ct, st, p, b, ⟨e _ _ S.ob (fun _ z => by cases z), SqT.imm im S.rd, SqT.imm im S.be, SqT.imm im S.cy, S.rnd, S.sm⟩⟩
theorem WL.ext {K : PySem.W.Frag} {H H' : Hp} {v : V} {ws : List (Nat × Nat)} (e : ExtN H H') (h : WL K H v ws) : WL K H' v ws := by
  obtain ⟨l, rs, ev, hl, hp⟩ := h
  exact ⟨l, rs, ev, e _ _ hl (fun _ z => by cases z), Paired.imm (immN e) hp⟩
theorem tabs_chg {H H' : Hp} {j P : Addr} {q : Str} (c : Chg j H H') (hj : JugAt H j) (t : TabS H P q) : TabS H' P q := by
  obtain ⟨ps, h1, h2, h3⟩ := t
  have n1 : P ≠ j := hj.neL h1 (fun _ z => by cases z)
  refine ⟨ps, c _ _ h1 n1, h2, fun pos cv hc => ?_⟩
  obtain ⟨a, e1, e2⟩ := h3 pos cv hc
  exact ⟨a, e1, c _ _ e2 (hj.neL e2 (fun _ z => by cases z))⟩
/-! ### members and counts of a set -/
def grow (f : Nat → Bool) (st p T : Nat) : List Nat := belowL f st ++ ((List.range T).map fun t => (cycL f st p).map fun n => n + t * p).flatten
def membF (f : Nat → Bool) (st p many : Nat) : List Nat := (grow f st p many).take many
theorem grow_zero (f : Nat → Bool) (st p : Nat) : grow f st p 0 = belowL f st := by simp [grow]
theorem grow_succ (f : Nat → Bool) (st p T : Nat) : grow f st p (T + 1) = grow f st p T ++ (cycL f st p).map fun n => n + T * p := by
  unfold grow
  rw [List.range_succ, List.map_append, List.flatten_append, List.append_assoc]
  simp
theorem grow_no {f : Nat → Bool} {st p : Nat} (h : cycL f st p = []) : ∀ T, grow f st p T = belowL f st
  | 0 => grow_zero f st p
  | T + 1 => by rw [grow_succ, grow_no h T, h]; simp
theorem grow_pre (f : Nat → Bool) (st p T : Nat) : ∀ k, ∃ r, grow f st p (T + k) = grow f st p T ++ r
  | 0 => ⟨[], by simp⟩
  | k + 1 => by
    obtain ⟨r, hr⟩ := grow_pre f st p T k
    exact ⟨r ++ (cycL f st p).map fun n => n + (T + k) * p, by rw [show T + (k + 1) = T + k + 1 by omega, grow_succ, hr, List.append_assoc]⟩
theorem grow_len {f : Nat → Bool} {st p : Nat} (h : cycL f st p ≠ []) : ∀ T, T ≤ (grow f st p T).length
  | 0 => Nat.zero_le _
  | T + 1 => by
    have := grow_len h T
    rw [grow_succ, List.length_append, List.length_map]
    have : 0 < (cycL f st p).length := List.length_pos_iff.mpr h
    omega
theorem grow_take {f : Nat → Bool} {st p many T : Nat} (hT : T ≤ many) (h : cycL f st p = [] ∨ many ≤ (grow f st p T).length ∨ T = many) : (grow f st p T).take many = membF f st p many := by
  unfold membF
  rcases h with h | h | h
  · rw [grow_no h, grow_no h]
  · obtain ⟨r, hr⟩ := grow_pre f st p T (many - T)
    rw [show T + (many - T) = many by omega] at hr
    rw [hr, List.take_append_of_le_length h]
  · rw [h]
def countF (f : Nat → Bool) (st p : Nat) (high : Int) : Int := (((belowL f st).filter fun (n : Nat) => decide ((n : Int) ≤ high)).length : Int) + (((cycL f st p).filter fun (n : Nat) => decide ((n : Int) ≤ high)).map fun (n : Nat) => (high - (n : Int)) / (p : Int) + 1).sum
theorem count_cyc {st p : Nat} {high : Int} (hp : 0 < p) (h : (st : Int) ≤ high) : ∀ L : List Nat, (∀ n ∈ L, st ≤ n ∧ n < st + p) →
    ((L.filter fun (n : Nat) => decide ((n : Int) ≤ high)).map fun (n : Nat) => (high - (n : Int)) / (p : Int) + 1).sum = (high - st) / p * (L.length : Int) + ((L.filter fun (n : Nat) => decide ((n : Int) - st ≤ (high - st) % p)).length : Int)
  | [], _ => by simp
  | n :: L, hL => by
    obtain ⟨h1, h2⟩ := hL n List.mem_cons_self
    have ih := count_cyc hp h L (fun m hm => hL m (List.mem_cons_of_mem _ hm))
    have p0 : (0 : Int) < (p : Int) := by omega
    obtain ⟨q, hq⟩ : ∃ q, q = (high - (st : Int)) / (p : Int) := ⟨_, rfl⟩
    obtain ⟨r, hr⟩ : ∃ r, r = (high - (st : Int)) % (p : Int) := ⟨_, rfl⟩
    have e1 : (p : Int) * q + r = high - st := by rw [hq, hr]; exact Int.mul_ediv_add_emod _ _
    have r0 : 0 ≤ r := by rw [hr]; exact Int.emod_nonneg _ (by omega)
    have r1 : r < p := by rw [hr]; exact Int.emod_lt_of_pos _ p0
    have q0 : 0 ≤ q := by rw [hq]; exact Int.ediv_nonneg (by omega) (by omega)
    rw [← hq, ← hr] at ih ⊢
    have key : (if (n : Int) ≤ high then (high - (n : Int)) / (p : Int) + 1 else 0) = q + (if (n : Int) - st ≤ r then 1 else 0) := by
      by_cases c : (n : Int) - st ≤ r
      · have c2 : (n : Int) ≤ high := by
          have : 0 ≤ (p : Int) * q := Int.mul_nonneg (by omega) q0
          omega
        rw [if_pos c, if_pos c2]
        have : (high - (n : Int)) / (p : Int) = q := by
          rw [show high - (n : Int) = (r - ((n : Int) - st)) + (p : Int) * q by omega, Int.add_mul_ediv_left _ _ (by omega), Int.ediv_eq_zero_of_lt (by omega) (by omega)]
          omega
        omega
      · rw [if_neg c]
        by_cases c2 : (n : Int) ≤ high
        · rw [if_pos c2]
          have : (high - (n : Int)) / (p : Int) = q - 1 := by
            rw [show high - (n : Int) = (r - ((n : Int) - st) + p) + (p : Int) * (q - 1) by rw [Int.mul_sub]; omega, Int.add_mul_ediv_left _ _ (by omega), Int.ediv_eq_zero_of_lt (by omega) (by omega)]
            omega
          omega
        · rw [if_neg c2]
          have : q = 0 := by
            by_cases z : q = 0
            · exact z
            · have : (p : Int) * 1 ≤ (p : Int) * q := Int.mul_le_mul_of_nonneg_left (by omega) (by omega)
              omega
          omega
    rw [List.length_cons, List.filter_cons, List.filter_cons]
    have m1 : q * ((L.length + 1 : Nat) : Int) = q * (L.length : Int) + q := by rw [Int.natCast_add, Int.mul_add]; simp
    rw [m1]
    by_cases c2 : (n : Int) ≤ high
    · rw [if_pos c2] at key
      rw [if_pos (decide_eq_true c2), List.map_cons, List.sum_cons, ih]
      by_cases c : (n : Int) - st ≤ r
      · rw [if_pos c] at key
        rw [if_pos (decide_eq_true c), List.length_cons]
        omega
      · rw [if_neg c] at key
        rw [if_neg (by simpa using c)]
        omega
    · rw [if_neg c2] at key
      rw [if_neg (by simpa using c2), ih]
      by_cases c : (n : Int) - st ≤ r
      · rw [if_pos c] at key
        rw [if_pos (decide_eq_true c), List.length_cons]
        omega
      · rw [if_neg c] at key
        rw [if_neg (by simpa using c)]
        omega
theorem below_lt {f : Nat → Bool} {st n : Nat} (h : n ∈ belowL f st) : n < st := List.mem_range.mp (List.mem_filter.mp h).1
theorem cyc_in {f : Nat → Bool} {st p n : Nat} (h : n ∈ cycL f st p) : st ≤ n ∧ n < st + p := by
  have := List.mem_range'_1.mp (List.mem_filter.mp h).1
  omega
theorem count_low {f : Nat → Bool} {st p : Nat} {high : Int} (h : high < (st : Int)) : countF f st p high = (((belowL f st).filter fun (n : Nat) => decide ((n : Int) ≤ high)).length : Int) := by
  unfold countF
  have e : (cycL f st p).filter (fun (n : Nat) => decide ((n : Int) ≤ high)) = [] := List.filter_eq_nil_iff.mpr (fun n hn => by have := cyc_in hn; simp; omega)
  rw [e]
  simp
theorem count_high {f : Nat → Bool} {st p : Nat} {high : Int} (hp : 0 < p) (h : (st : Int) ≤ high) : countF f st p high = ((belowL f st).length : Int) + (high - st) / p * ((cycL f st p).length : Int) + (((cycL f st p).filter fun (n : Nat) => decide ((n : Int) - st ≤ (high - st) % p)).length : Int) := by
  unfold countF
  have e : (belowL f st).filter (fun (n : Nat) => decide ((n : Int) ≤ high)) = belowL f st := List.filter_eq_self.mpr (fun n hn => by have := below_lt hn; simp; omega)
  rw [e, count_cyc hp h _ (fun n hn => cyc_in hn)]
  omega
section
variable (K : PySem.W.Frag) (C CN CI : Addr)
def q_is_number : Sp := fun vs H Q _ => ∃ v, vs = [v] ∧ ((∃ i, v = .int i ∧ Q (.bl true) H) ∨ (NN K H v ∧ Q (.bl false) H))
def q_is_whole : Sp := fun vs H Q _ => ∃ v lo hi, vs = [v, .int lo, .int hi] ∧ ((In v lo hi ∧ Q (.bl true) H) ∨ (Out K H v lo hi ∧ Q (.bl false) H))
def q_odd : Sp := fun vs H Q _ => ∃ j, vs = [.ref j] ∧ JugAt H j ∧ ∀ (H' : Hp) (v : V), Chg j H H' → JugAt H' j → (∃ d, OddOk d = true ∧ ∀ H2, ChT j H' H2 → OddN K H2 v d) → Q v H'
def r_members : Sp := fun vs H Q E => ∃ (x : Addr) (v : V) (f : Nat → Bool), vs = [.ref x, v] ∧ LSt K C H x f ∧ ((Out K H v 0 400 ∧ Bad CN "given" v H E) ∨ ∃ many : Nat, v = .int (many : Int) ∧ many ≤ 400 ∧ ∀ H' t st p, Same H H' → Canon f st p → SqT K H' t (nI (membF f st p many)) → Q (.ref t) H')
def r_counted : Sp := fun vs H Q E => ∃ (x : Addr) (v : V) (f : Nat → Bool), vs = [.ref x, v] ∧ LSt K C H x f ∧ ((Out K H v 0 1000000000000000000000000000000 ∧ Bad CN "given" v H E) ∨ ∃ high : Int, v = .int high ∧ 0 ≤ high ∧ high ≤ 1000000000000000000000000000000 ∧ ∀ H' st p, Same H H' → Canon f st p → Q (.int (countF f st p high)) H')
def r_lmemb : Sp := fun vs H Q _ => ∃ (l : Addr) (T P : Nat) (f : Nat → Bool) (M many : Nat), vs = [.ref l, .int (T : Int), .int (P : Int), .int (many : Int)] ∧ SqL K H l (((List.range M).map f).map V.bl) ∧ T + 2 * P ≤ M ∧ M ≤ 5000 ∧ Per f T P ∧ 0 < P ∧ P ≤ 72 ∧ T ≤ 500 ∧ many ≤ 400 ∧ ∀ H' t st p, Same H H' → Canon f st p → SqT K H' t (nI (membF f st p many)) → Q (.ref t) H'
def r_lcount : Sp := fun vs H Q _ => ∃ (l : Addr) (T P : Nat) (f : Nat → Bool) (M : Nat) (high : Int), vs = [.ref l, .int (T : Int), .int (P : Int), .int high] ∧ SqL K H l (((List.range M).map f).map V.bl) ∧ T + 2 * P ≤ M ∧ M ≤ 5000 ∧ Per f T P ∧ 0 < P ∧ P ≤ 72 ∧ T ≤ 500 ∧ 0 ≤ high ∧ high ≤ 1000000000000000000000000000000 ∧ ∀ H' st p, Same H H' → Canon f st p → Q (.int (countF f st p high)) H'
/-- the first thing in a row that is no number from 0 to 599 -/
def FirstBad (H : Hp) (xs : List V) (i : Nat) : Prop := (∃ x, xs[i]? = some x ∧ Out K H x 0 599) ∧ ∀ j x, j < i → xs[j]? = some x → In x 0 599
def r_of_numbers : Sp := fun vs H Q E => ∃ v : V, vs = [v] ∧ (((∃ (a : Addr) (xs : List V), v = .ref a ∧ SqT K H a xs ∧ xs.length ≤ 100 ∧ ((∃ i : Nat, FirstBad K H xs i ∧ Bad CI "index" (.int (i : Int)) H E) ∨ ∃ ns : List Nat, xs = nI ns ∧ (∀ n ∈ ns, n ≤ 599) ∧ ∀ H' x, Same H H' → LSt K C H' x (fun k => decide (k ∈ ns)) → Q (.ref x) H'))) ∨
  (((∃ i, v = .int i) ∨ (∃ z, v = .bl z) ∨ v = .non ∨ (∃ z, v = .str z) ∨ (∃ a xs, v = .ref a ∧ H a = some (.lst xs)) ∨ ∃ a xs, v = .ref a ∧ H a = some (.dK xs)) ∧ Bad CI "index" .non H E))
def r_spot : Sp := fun vs H Q _ => ∃ (j a : Addr) (xs : List V) (v : V), vs = [.ref j, .ref a, v] ∧ JugAt H j ∧ SqT K H a xs ∧ xs.length ≤ 30 ∧ ∀ H' t ys, Chg j H H' → JugAt H' j → SqT K H' t ys → (∀ y ∈ ys, y ∈ xs ∨ y = v) → ys.length ≤ xs.length + 1 → Q (.ref t) H'
end
/-- for over range(n) -/
theorem forR1 {ta : TA} {g : TG} {tb : TS} {D : Ends} {σ : L2.St} {H : Hp} (n : Nat) (Pv : Nat → L2.St → Hp → Prop) (hn : n ≤ 10000) (hta : ∀ R : List V → Hp → Prop, R [.int (n : Int)] H → ta σ H R) (h0 : Pv 0 σ H)
    (hs : ∀ (i : Nat) σ H, i < n → Pv i σ H → g (.int (i : Int)) σ H fun σ2 H2 => tb { D with nx := Pv (i + 1), ct := Pv (i + 1), bk := D.nx } σ2 H2) (hd : ∀ σ H, Pv n σ H → D.nx σ H) : tFor (iRng1 ta) g tb D σ H :=
  hta _ ⟨n, rfl, by omega, by omega, for_it (n := n) Pv h0 (fun i σ H hi _ => by show i < (n : Int).toNat; omega) (fun σ H _ => by show (n : Int).toNat ≤ n; omega) (fun i v σ H H' hi p y => by
    obtain ⟨e1, e2⟩ := y
    subst e1
    rw [e2, Int.zero_add]
    exact hs i σ _ hi p) hd⟩
theorem same_chg {H H1 H2 : Hp} {l : Addr} (s : Same H H1) (n : H l = none) (c : Chg l H1 H2) : Same H H2 := fun b o e => c b o (s b o e) (ne_of_none e n)
end K1
namespace K1
open PySem PySem.Spec L2 Z K2
theorem forR1S {ta : TA} {g : TG} {tb : TS} {D : Ends} {σ : L2.St} {H : Hp} (n : Nat) (Pv : Nat → L2.St → Hp → Prop) (hn : n ≤ 10000) (hta : ∀ R : List V → Hp → Prop, (∀ H1, Same H H1 → R [.int (n : Int)] H1) → ta σ H R) (h0 : ∀ H1, Same H H1 → Pv 0 σ H1)
    (hs : ∀ (i : Nat) σ H, i < n → Pv i σ H → g (.int (i : Int)) σ H fun σ2 H2 => tb { D with nx := Pv (i + 1), ct := Pv (i + 1), bk := D.nx } σ2 H2) (hd : ∀ σ H, Pv n σ H → D.nx σ H) : tFor (iRng1 ta) g tb D σ H :=
  hta _ fun H1 s1 => ⟨n, rfl, by omega, by omega, for_it (n := n) Pv (h0 H1 s1) (fun i σ H hi _ => by show i < (n : Int).toNat; omega) (fun σ H _ => by show (n : Int).toNat ≤ n; omega) (fun i v σ H H' hi p y => by
    obtain ⟨e1, e2⟩ := y
    subst e1
    rw [e2, Int.zero_add]
    exact hs i σ _ hi p) hd⟩
theorem for_enumS {K : PySem.W.Frag} {xs : List V} {a : Addr} {g : TG} {tb : TS} {D : Ends} {σ : L2.St} {H H0 : Hp} (Pv : Nat → L2.St → Hp → Prop) (h0 : Pv 0 σ H) (hT : SqT K H0 a xs) (hI : ∀ i σ H, Pv i σ H → Same H0 H)
    (hs : ∀ i x σ H t, xs[i]? = some x → Pv i σ H → H t = none → g (.ref t) σ (upd H t (.tup [.int (i : Nat), x])) fun σ2 H2 => tb { D with nx := Pv (i + 1), ct := Pv (i + 1), bk := D.nx } σ2 H2) (hd : ∀ σ H, Pv xs.length σ H → D.nx σ H) :
    ∃ W : Nat → Nat → L2.St → Hp → Prop, (∃ m, W 0 m σ H) ∧ ∀ i m σ H, W i m σ H →
      ((IteT K a).stop i H ∧ D.nx σ H) ∨ ((IteT K a).go i H ∧ ∃ N : L2.St → Hp → Prop, (∀ σ' H', N σ' H' → ∃ m', m' < m ∧ W (i + 1) m' σ' H') ∧ ∀ x H', (IteT K a).yld i H x H' → g x σ H' fun σ2 H2 => tb { D with nx := N, ct := N, bk := D.nx } σ2 H2) := by
  refine for_it (n := xs.length) Pv h0 (fun i σ H hi p => ⟨xs, xs[i]'hi, SqT.imm (.of (hI _ _ _ p)) hT, List.getElem?_eq_getElem _⟩) (fun σ H p => ⟨xs, SqT.imm (.of (hI _ _ _ p)) hT, rfl⟩) (fun i v σ H H' hi p y => ?_) hd
  obtain ⟨t, x, rfl, hn, rfl, y⟩ := y
  exact hs i x σ H t (y _ (SqT.imm (.of (hI _ _ _ p)) hT)) p hn
theorem sl_sq {K : PySem.W.Frag} {H : Hp} {a : Addr} {xs : List V} {lo hi : Option Int} {Q : VK} (h : SqT K H a xs) (k : ∀ t H1, Same H H1 → SqT K H1 t (cutV xs lo hi) → Q (.ref t) H1) : rSlP K (.ref a) lo hi H Q := by
  refine ⟨a, xs, rfl, h, fun e => k a H (fun _ _ h => h) ?_, fun _ p o hp ho => k p _ (same_new hp) (PT.new ho).sq⟩
  have : cutV xs lo hi = xs := by
    unfold cutV
    rw [e.1, e.2, List.drop_zero, Nat.sub_zero, List.take_length]
  rw [this]
  exact h
theorem cat_sq {K : PySem.W.Frag} {H : Hp} {a b : Addr} {xs ys : List V} {Q : VK} (h1 : SqT K H a xs) (h2 : SqT K H b ys) (hz : xs.length + ys.length ≤ 1000) (k : ∀ t H1, Same H H1 → SqT K H1 t (xs ++ ys) → Q (.ref t) H1) : rCatP K (.ref a) (.ref b) H Q := by
  refine ⟨a, b, xs, ys, rfl, rfl, h1, h2, sl_le (by omega), fun e => k b H (fun _ _ h => h) (by rw [e]; exact h2), fun _ e => k a H (fun _ _ h => h) (by rw [e, List.append_nil]; exact h1), fun _ _ p o hp ho => k p _ (same_new hp) (PT.new ho).sq⟩
theorem cut_sub {xs : List V} {lo hi : Option Int} {y : V} (h : y ∈ cutV xs lo hi) : y ∈ xs := List.mem_of_mem_drop (List.mem_of_mem_take h)
theorem in_out {K : PySem.W.Frag} {H : Hp} {x : V} {lo hi : Int} (a : In x lo hi) (b : Out K H x lo hi) : False := by
  obtain ⟨i, rfl, h1, h2⟩ := a
  rcases b with (⟨z, e⟩ | e | ⟨z, e⟩ | ⟨a, xs, e, _⟩ | ⟨a, xs, e, _⟩ | ⟨a, xs, e, _⟩) | ⟨i', e, h⟩
  · cases e
  · cases e
  · cases e
  · cases e
  · cases e
  · cases e
  · cases e
    exact h ⟨h1, h2⟩
theorem NN.same {K : PySem.W.Frag} {H H' : Hp} {v : V} (e : Same H H') (h : NN K H v) : NN K H' v := by
  rcases h with h | h | h | ⟨a, xs, h1, h2⟩ | ⟨a, xs, h1, h2⟩ | ⟨a, xs, h1, h2⟩
  · exact .inl h
  · exact .inr (.inl h)
  · exact .inr (.inr (.inl h))
  · exact .inr (.inr (.inr (.inl ⟨a, xs, h1, SqT.imm (.of e) h2⟩)))
  · exact .inr (.inr (.inr (.inr (.inl ⟨a, xs, h1, e _ _ h2⟩))))
  · exact .inr (.inr (.inr (.inr (.inr ⟨a, xs, h1, e _ _ h2⟩))))
theorem Out.same {K : PySem.W.Frag} {H H' : Hp} {v : V} {lo hi : Int} (e : Same H H') (h : Out K H v lo hi) : Out K H' v lo hi := h.imp (NN.same e) id
end K1
namespace K1
open PySem PySem.Spec L2 Z K2 LamX
section
variable {P : Program} {w : World} {K : PySem.W.Frag} {mg : Str → Option Value} {base : Heap} {C CN CI : Addr}
theorem ok_law_odd (T : Txt K mg C CN CI) (G__law_one_of : Pr P w K mg base "_law_one_of" s_law_one_of 2 ["_law_jug_here", "_law_some"] (sp_law_one_of K)) : Pr P w K mg base "_law_odd" s_law_odd 3 ["_law_jug_here"] (q_odd K) := by
  obtain ⟨f, fd, F, gl, bd⟩ := T.d__law_odd
  refine ⟨f, fd, F, gl, bd, F.ok sc_law_odd (fun vs H Q E h => ?_) (fun cdv A outer s H vs Q E hr h => ?_)⟩
  · obtain ⟨j, rfl, _⟩ := h
    rfl
  · obtain ⟨j, rfl, hj, k⟩ := h
    have hu := hu_of hr
    refine ⟨_, (pss_one (ps_ret (pcall G__law_one_of (hr.mono (by decide)) (pa_cons (pv 0) (pa_cons (pe_lst (pa_cons pe_non (pa_cons pe_bl (pa_cons pe_bl (pa_cons (pe_un un_neg pe_int) (pa_cons pe_int (pa_cons pe_int (pa_cons pe_int (pa_cons (pe_op op_pow pe_int pe_int) (pa_cons pe_str (pa_cons pe_str (pa_cons pe_str (pa_cons pe_str (pa_cons (pe_tupP pa_nil) (pa_cons (pe_tupP (pa_cons pe_int pa_nil)) (pa_cons (pe_tup (pa_cons pe_int (pa_cons pe_int pa_nil))) (pa_cons (pe_tup (pa_cons pe_str (pa_cons pe_int pa_nil))) (pa_cons (pe_lst pa_nil) (pa_cons (pe_lst (pa_cons pe_int (pa_cons pe_int pa_nil))) (pa_cons (pe_lst (pa_cons (pe_tup (pa_cons pe_int (pa_cons pe_int pa_nil))) pa_nil)) (pa_cons pe_dnewK (pa_cons (pe_disp (pps_cons pe_str pe_int pps_nil) rfl rfl (by simp) (by decide)) (pa_cons (pe_tupP (pa_cons pe_non pa_nil)) (pa_cons (pe_tup (pa_cons (pe_tup (pa_cons pe_int (pa_cons pe_int pa_nil))) (pa_cons pe_int pa_nil))) (pa_cons (pe_tupP (pa_cons (pe_lst pa_nil) pa_nil)) pa_nil))))))))))))))))))))))))) pa_nil))))), ?_⟩
    have zl : ∀ {n : Nat}, n ≤ 30 → n ≤ sizeLine := fun h => Nat.le_trans h (by decide +kernel)
    refine ⟨_, rfl, ?_⟩
    refine ⟨1, rfl, ?_⟩
    refine ⟨10, 31, rfl, rfl, ⟨by decide, by decide, by decide⟩, ?_⟩
    refine ⟨zl (by simp), fun p1 o1 n1 f1 => ?_⟩
    have s1 : Same H (upd H p1 (.frz o1 (.tup []))) := same_new n1
    have e1 : (upd H p1 (.frz o1 (.tup []))) p1 = some (.frz o1 (.tup [])) := upd_same
    generalize hH1 : upd H p1 (.frz o1 (.tup [])) = H1 at s1 e1
    have d1 : p1 ≠ j := JugAt.ne hj n1
    have j1 : JugAt H1 j := jugS s1 hj
    refine ⟨zl (by simp), fun p2 o2 n2 f2 => ?_⟩
    have s2 : Same H1 (upd H1 p2 (.frz o2 (.tup [.int 1]))) := same_new n2
    have e2 : (upd H1 p2 (.frz o2 (.tup [.int 1]))) p2 = some (.frz o2 (.tup [.int 1])) := upd_same
    generalize hH2 : upd H1 p2 (.frz o2 (.tup [.int 1])) = H2 at s2 e2
    replace e1 := s2 _ _ e1
    have d2 : p2 ≠ j := JugAt.ne j1 n2
    have j2 : JugAt H2 j := jugS s2 j1
    refine ⟨zl (by simp), fun p3 n3 => ?_⟩
    have s3 : Same H2 (upd H2 p3 (.tup [.int 1, .int 2])) := same_new n3
    have e3 : (upd H2 p3 (.tup [.int 1, .int 2])) p3 = some (.tup [.int 1, .int 2]) := upd_same
    generalize hH3 : upd H2 p3 (.tup [.int 1, .int 2]) = H3 at s3 e3
    replace e1 := s3 _ _ e1
    replace e2 := s3 _ _ e2
    have d3 : p3 ≠ j := JugAt.ne j2 n3
    have j3 : JugAt H3 j := jugS s3 j2
    refine ⟨zl (by simp), fun p4 n4 => ?_⟩
    have s4 : Same H3 (upd H3 p4 (.tup [.str (Str.ofString "x"), .int 1])) := same_new n4
    have e4 : (upd H3 p4 (.tup [.str (Str.ofString "x"), .int 1])) p4 = some (.tup [.str (Str.ofString "x"), .int 1]) := upd_same
    generalize hH4 : upd H3 p4 (.tup [.str (Str.ofString "x"), .int 1]) = H4 at s4 e4
    replace e1 := s4 _ _ e1
    replace e2 := s4 _ _ e2
    replace e3 := s4 _ _ e3
    have d4 : p4 ≠ j := JugAt.ne j3 n4
    have j4 : JugAt H4 j := jugS s4 j3
    refine ⟨zl (by simp), fun p5 n5 => ?_⟩
    have s5 : Same H4 (upd H4 p5 (.lst [])) := same_new n5
    have e5 : (upd H4 p5 (.lst [])) p5 = some (.lst []) := upd_same
    generalize hH5 : upd H4 p5 (.lst []) = H5 at s5 e5
    replace e1 := s5 _ _ e1
    replace e2 := s5 _ _ e2
    replace e3 := s5 _ _ e3
    replace e4 := s5 _ _ e4
    have d5 : p5 ≠ j := JugAt.ne j4 n5
    have j5 : JugAt H5 j := jugS s5 j4
    refine ⟨zl (by simp), fun p6 n6 => ?_⟩
    have s6 : Same H5 (upd H5 p6 (.lst [.int 1, .int 2])) := same_new n6
    have e6 : (upd H5 p6 (.lst [.int 1, .int 2])) p6 = some (.lst [.int 1, .int 2]) := upd_same
    generalize hH6 : upd H5 p6 (.lst [.int 1, .int 2]) = H6 at s6 e6
    replace e1 := s6 _ _ e1
    replace e2 := s6 _ _ e2
    replace e3 := s6 _ _ e3
    replace e4 := s6 _ _ e4
    replace e5 := s6 _ _ e5
    have d6 : p6 ≠ j := JugAt.ne j5 n6
    have j6 : JugAt H6 j := jugS s6 j5
    refine ⟨zl (by simp), fun p7 n7 => ?_⟩
    have s7 : Same H6 (upd H6 p7 (.tup [.int 1, .int 2])) := same_new n7
    have e7 : (upd H6 p7 (.tup [.int 1, .int 2])) p7 = some (.tup [.int 1, .int 2]) := upd_same
    generalize hH7 : upd H6 p7 (.tup [.int 1, .int 2]) = H7 at s7 e7
    replace e1 := s7 _ _ e1
    replace e2 := s7 _ _ e2
    replace e3 := s7 _ _ e3
    replace e4 := s7 _ _ e4
    replace e5 := s7 _ _ e5
    replace e6 := s7 _ _ e6
    have d7 : p7 ≠ j := JugAt.ne j6 n7
    have j7 : JugAt H7 j := jugS s7 j6
    refine ⟨zl (by simp), fun p8 n8 => ?_⟩
    have s8 : Same H7 (upd H7 p8 (.lst [.ref p7])) := same_new n8
    have e8 : (upd H7 p8 (.lst [.ref p7])) p8 = some (.lst [.ref p7]) := upd_same
    generalize hH8 : upd H7 p8 (.lst [.ref p7]) = H8 at s8 e8
    replace e1 := s8 _ _ e1
    replace e2 := s8 _ _ e2
    replace e3 := s8 _ _ e3
    replace e4 := s8 _ _ e4
    replace e5 := s8 _ _ e5
    replace e6 := s8 _ _ e6
    replace e7 := s8 _ _ e7
    have d8 : p8 ≠ j := JugAt.ne j7 n8
    have j8 : JugAt H8 j := jugS s8 j7
    intro p9 n9
    have s9 : Same H8 (upd H8 p9 (.dK [])) := same_new n9
    have e9 : (upd H8 p9 (.dK [])) p9 = some (.dK []) := upd_same
    generalize hH9 : upd H8 p9 (.dK []) = H9 at s9 e9
    replace e1 := s9 _ _ e1
    replace e2 := s9 _ _ e2
    replace e3 := s9 _ _ e3
    replace e4 := s9 _ _ e4
    replace e5 := s9 _ _ e5
    replace e6 := s9 _ _ e6
    replace e7 := s9 _ _ e7
    replace e8 := s9 _ _ e8
    have d9 : p9 ≠ j := JugAt.ne j8 n9
    have j9 : JugAt H9 j := jugS s9 j8
    intro p10 n10
    refine ⟨upd_same, [(.inr (Str.ofString "x"), .int 1)], rfl, by decide, ?_⟩
    rw [show mergeK [] [((.inr (Str.ofString "x") : Key), V.int 1)] = [(.inr (Str.ofString "x"), .int 1)] from rfl]
    have s10 : Same H9 (upd (upd H9 p10 (.dK [])) p10 (.dK [(.inr (Str.ofString "x"), .int 1)])) := same_new2 n10
    have e10 : (upd (upd H9 p10 (.dK [])) p10 (.dK [(.inr (Str.ofString "x"), .int 1)])) p10 = some (.dK [(.inr (Str.ofString "x"), .int 1)]) := upd_same
    generalize hH10 : upd (upd H9 p10 (.dK [])) p10 (.dK [(.inr (Str.ofString "x"), .int 1)]) = H10 at s10 e10
    replace e1 := s10 _ _ e1
    replace e2 := s10 _ _ e2
    replace e3 := s10 _ _ e3
    replace e4 := s10 _ _ e4
    replace e5 := s10 _ _ e5
    replace e6 := s10 _ _ e6
    replace e7 := s10 _ _ e7
    replace e8 := s10 _ _ e8
    replace e9 := s10 _ _ e9
    have d10 : p10 ≠ j := JugAt.ne j9 n10
    have j10 : JugAt H10 j := jugS s10 j9
    refine ⟨zl (by simp), fun p11 o11 n11 f11 => ?_⟩
    have s11 : Same H10 (upd H10 p11 (.frz o11 (.tup [.non]))) := same_new n11
    have e11 : (upd H10 p11 (.frz o11 (.tup [.non]))) p11 = some (.frz o11 (.tup [.non])) := upd_same
    generalize hH11 : upd H10 p11 (.frz o11 (.tup [.non])) = H11 at s11 e11
    replace e1 := s11 _ _ e1
    replace e2 := s11 _ _ e2
    replace e3 := s11 _ _ e3
    replace e4 := s11 _ _ e4
    replace e5 := s11 _ _ e5
    replace e6 := s11 _ _ e6
    replace e7 := s11 _ _ e7
    replace e8 := s11 _ _ e8
    replace e9 := s11 _ _ e9
    replace e10 := s11 _ _ e10
    have d11 : p11 ≠ j := JugAt.ne j10 n11
    have j11 : JugAt H11 j := jugS s11 j10
    refine ⟨zl (by simp), fun p12 n12 => ?_⟩
    have s12 : Same H11 (upd H11 p12 (.tup [.int 1, .int 2])) := same_new n12
    have e12 : (upd H11 p12 (.tup [.int 1, .int 2])) p12 = some (.tup [.int 1, .int 2]) := upd_same
    generalize hH12 : upd H11 p12 (.tup [.int 1, .int 2]) = H12 at s12 e12
    replace e1 := s12 _ _ e1
    replace e2 := s12 _ _ e2
    replace e3 := s12 _ _ e3
    replace e4 := s12 _ _ e4
    replace e5 := s12 _ _ e5
    replace e6 := s12 _ _ e6
    replace e7 := s12 _ _ e7
    replace e8 := s12 _ _ e8
    replace e9 := s12 _ _ e9
    replace e10 := s12 _ _ e10
    replace e11 := s12 _ _ e11
    have d12 : p12 ≠ j := JugAt.ne j11 n12
    have j12 : JugAt H12 j := jugS s12 j11
    refine ⟨zl (by simp), fun p13 n13 => ?_⟩
    have s13 : Same H12 (upd H12 p13 (.tup [.ref p12, .int 3])) := same_new n13
    have e13 : (upd H12 p13 (.tup [.ref p12, .int 3])) p13 = some (.tup [.ref p12, .int 3]) := upd_same
    generalize hH13 : upd H12 p13 (.tup [.ref p12, .int 3]) = H13 at s13 e13
    replace e1 := s13 _ _ e1
    replace e2 := s13 _ _ e2
    replace e3 := s13 _ _ e3
    replace e4 := s13 _ _ e4
    replace e5 := s13 _ _ e5
    replace e6 := s13 _ _ e6
    replace e7 := s13 _ _ e7
    replace e8 := s13 _ _ e8
    replace e9 := s13 _ _ e9
    replace e10 := s13 _ _ e10
    replace e11 := s13 _ _ e11
    replace e12 := s13 _ _ e12
    have d13 : p13 ≠ j := JugAt.ne j12 n13
    have j13 : JugAt H13 j := jugS s13 j12
    refine ⟨zl (by simp), fun p14 n14 => ?_⟩
    have s14 : Same H13 (upd H13 p14 (.lst [])) := same_new n14
    have e14 : (upd H13 p14 (.lst [])) p14 = some (.lst []) := upd_same
    generalize hH14 : upd H13 p14 (.lst []) = H14 at s14 e14
    replace e1 := s14 _ _ e1
    replace e2 := s14 _ _ e2
    replace e3 := s14 _ _ e3
    replace e4 := s14 _ _ e4
    replace e5 := s14 _ _ e5
    replace e6 := s14 _ _ e6
    replace e7 := s14 _ _ e7
    replace e8 := s14 _ _ e8
    replace e9 := s14 _ _ e9
    replace e10 := s14 _ _ e10
    replace e11 := s14 _ _ e11
    replace e12 := s14 _ _ e12
    replace e13 := s14 _ _ e13
    have d14 : p14 ≠ j := JugAt.ne j13 n14
    have j14 : JugAt H14 j := jugS s14 j13
    refine ⟨zl (by simp), fun p15 o15 n15 f15 => ?_⟩
    have s15 : Same H14 (upd H14 p15 (.frz o15 (.tup [.ref p14]))) := same_new n15
    have e15 : (upd H14 p15 (.frz o15 (.tup [.ref p14]))) p15 = some (.frz o15 (.tup [.ref p14])) := upd_same
    generalize hH15 : upd H14 p15 (.frz o15 (.tup [.ref p14])) = H15 at s15 e15
    replace e1 := s15 _ _ e1
    replace e2 := s15 _ _ e2
    replace e3 := s15 _ _ e3
    replace e4 := s15 _ _ e4
    replace e5 := s15 _ _ e5
    replace e6 := s15 _ _ e6
    replace e7 := s15 _ _ e7
    replace e8 := s15 _ _ e8
    replace e9 := s15 _ _ e9
    replace e10 := s15 _ _ e10
    replace e11 := s15 _ _ e11
    replace e12 := s15 _ _ e12
    replace e13 := s15 _ _ e13
    replace e14 := s15 _ _ e14
    have d15 : p15 ≠ j := JugAt.ne j14 n15
    have j15 : JugAt H15 j := jugS s15 j14
    refine ⟨zl (by simp), fun p16 n16 => ?_⟩
    have s16 : Same H15 (upd H15 p16 (.lst [.non, .bl true, .bl false, .int (-1), .int 0, .int 1, .int 1000, .int (10 ^ 31), .str (Str.ofString ""), .str (Str.ofString "x"), .str (Str.ofString "1"), .str (Str.ofString "END"), .ref p1, .ref p2, .ref p3, .ref p4, .ref p5, .ref p6, .ref p8, .ref p9, .ref p10, .ref p11, .ref p13, .ref p15])) := same_new n16
    have e16 : (upd H15 p16 (.lst [.non, .bl true, .bl false, .int (-1), .int 0, .int 1, .int 1000, .int (10 ^ 31), .str (Str.ofString ""), .str (Str.ofString "x"), .str (Str.ofString "1"), .str (Str.ofString "END"), .ref p1, .ref p2, .ref p3, .ref p4, .ref p5, .ref p6, .ref p8, .ref p9, .ref p10, .ref p11, .ref p13, .ref p15])) p16 = some (.lst [.non, .bl true, .bl false, .int (-1), .int 0, .int 1, .int 1000, .int (10 ^ 31), .str (Str.ofString ""), .str (Str.ofString "x"), .str (Str.ofString "1"), .str (Str.ofString "END"), .ref p1, .ref p2, .ref p3, .ref p4, .ref p5, .ref p6, .ref p8, .ref p9, .ref p10, .ref p11, .ref p13, .ref p15]) := upd_same
    generalize hH16 : upd H15 p16 (.lst [.non, .bl true, .bl false, .int (-1), .int 0, .int 1, .int 1000, .int (10 ^ 31), .str (Str.ofString ""), .str (Str.ofString "x"), .str (Str.ofString "1"), .str (Str.ofString "END"), .ref p1, .ref p2, .ref p3, .ref p4, .ref p5, .ref p6, .ref p8, .ref p9, .ref p10, .ref p11, .ref p13, .ref p15]) = H16 at s16 e16
    replace e1 := s16 _ _ e1
    replace e2 := s16 _ _ e2
    replace e3 := s16 _ _ e3
    replace e4 := s16 _ _ e4
    replace e5 := s16 _ _ e5
    replace e6 := s16 _ _ e6
    replace e7 := s16 _ _ e7
    replace e8 := s16 _ _ e8
    replace e9 := s16 _ _ e9
    replace e10 := s16 _ _ e10
    replace e11 := s16 _ _ e11
    replace e12 := s16 _ _ e12
    replace e13 := s16 _ _ e13
    replace e14 := s16 _ _ e14
    replace e15 := s16 _ _ e15
    have d16 : p16 ≠ j := JugAt.ne j15 n16
    have j16 : JugAt H16 j := jugS s16 j15
    have S : Same H H16 := fun b o e => s16 _ _ (s15 _ _ (s14 _ _ (s13 _ _ (s12 _ _ (s11 _ _ (s10 _ _ (s9 _ _ (s8 _ _ (s7 _ _ (s6 _ _ (s5 _ _ (s4 _ _ (s3 _ _ (s2 _ _ (s1 _ _ (e))))))))))))))))
    subst hH16
    refine ⟨j, p16, [.non, .bl true, .bl false, .int (-1), .int 0, .int 1, .int 1000, .int (10 ^ 31), .str (Str.ofString ""), .str (Str.ofString "x"), .str (Str.ofString "1"), .str (Str.ofString "END"), .ref p1, .ref p2, .ref p3, .ref p4, .ref p5, .ref p6, .ref p8, .ref p9, .ref p10, .ref p11, .ref p13, .ref p15], rfl, j16, d16, .inl (.inl e16), (by simp), by simp, fun H' x cg hj' hx => k H' x ((Chg.of S).trans cg) hj' ?_⟩
    replace e1 := cg _ _ e1 d1
    replace e2 := cg _ _ e2 d2
    replace e3 := cg _ _ e3 d3
    replace e4 := cg _ _ e4 d4
    replace e5 := cg _ _ e5 d5
    replace e6 := cg _ _ e6 d6
    replace e7 := cg _ _ e7 d7
    replace e8 := cg _ _ e8 d8
    replace e9 := cg _ _ e9 d9
    replace e10 := cg _ _ e10 d10
    replace e11 := cg _ _ e11 d11
    replace e12 := cg _ _ e12 d12
    replace e13 := cg _ _ e13 d13
    replace e14 := cg _ _ e14 d14
    replace e15 := cg _ _ e15 d15
    replace e16 := cg _ _ e16 d16
    simp only [List.mem_cons, List.not_mem_nil, or_false] at hx
    rcases hx with rfl | rfl | rfl | rfl | rfl | rfl | rfl | rfl | rfl | rfl | rfl | rfl | rfl | rfl | rfl | rfl | rfl | rfl | rfl | rfl | rfl | rfl | rfl | rfl
    · exact ⟨.none, by decide +kernel, fun H2 ch => ⟨.inr (.inr (.inl rfl)), .of .non rfl⟩⟩
    · exact ⟨.bool true, by decide +kernel, fun H2 ch => ⟨.inr (.inl ⟨_, rfl⟩), .of (.bl _) rfl⟩⟩
    · exact ⟨.bool false, by decide +kernel, fun H2 ch => ⟨.inr (.inl ⟨_, rfl⟩), .of (.bl _) rfl⟩⟩
    · exact ⟨.int (-1), by decide +kernel, fun H2 ch => ⟨.inl ⟨_, rfl⟩, .of (.int _) rfl⟩⟩
    · exact ⟨.int 0, by decide +kernel, fun H2 ch => ⟨.inl ⟨_, rfl⟩, .of (.int _) rfl⟩⟩
    · exact ⟨.int 1, by decide +kernel, fun H2 ch => ⟨.inl ⟨_, rfl⟩, .of (.int _) rfl⟩⟩
    · exact ⟨.int 1000, by decide +kernel, fun H2 ch => ⟨.inl ⟨_, rfl⟩, .of (.int _) rfl⟩⟩
    · exact ⟨.int (10 ^ 31), by decide +kernel, fun H2 ch => ⟨.inl ⟨_, rfl⟩, .of (.int _) rfl⟩⟩
    · exact ⟨.str (Str.ofString ""), by decide +kernel, fun H2 ch => ⟨.inr (.inr (.inr (.inl ⟨_, rfl⟩))), .of (.str _) rfl⟩⟩
    · exact ⟨.str (Str.ofString "x"), by decide +kernel, fun H2 ch => ⟨.inr (.inr (.inr (.inl ⟨_, rfl⟩))), .of (.str _) rfl⟩⟩
    · exact ⟨.str (Str.ofString "1"), by decide +kernel, fun H2 ch => ⟨.inr (.inr (.inr (.inl ⟨_, rfl⟩))), .of (.str _) rfl⟩⟩
    · exact ⟨.str (Str.ofString "END"), by decide +kernel, fun H2 ch => ⟨.inr (.inr (.inr (.inl ⟨_, rfl⟩))), .of (.str _) rfl⟩⟩
    · exact ⟨.tuple [], by decide +kernel, fun H2 ch => ⟨.inr (.inr (.inr (.inr (.inl ⟨_, _, rfl, (PT.sq ⟨_, (ch _ _ e1 d1 (fun _ z => by cases z)), f1⟩)⟩)))), .of (.tup (PT.sq ⟨_, (ch _ _ e1 d1 (fun _ z => by cases z)), f1⟩) .nil) rfl⟩⟩
    · exact ⟨.tuple [.int 1], by decide +kernel, fun H2 ch => ⟨.inr (.inr (.inr (.inr (.inl ⟨_, _, rfl, (PT.sq ⟨_, (ch _ _ e2 d2 (fun _ z => by cases z)), f2⟩)⟩)))), .of (.tup (PT.sq ⟨_, (ch _ _ e2 d2 (fun _ z => by cases z)), f2⟩) (.cons (.int _) .nil)) rfl⟩⟩
    · exact ⟨.tuple [.int 1, .int 2], by decide +kernel, fun H2 ch => ⟨.inr (.inr (.inr (.inr (.inl ⟨_, _, rfl, (.inl (.inl (ch _ _ e3 d3 (fun _ z => by cases z))))⟩)))), .of (.tup (.inl (.inl (ch _ _ e3 d3 (fun _ z => by cases z)))) (.cons (.int _) (.cons (.int _) .nil))) rfl⟩⟩
    · exact ⟨.tuple [.str (Str.ofString "x"), .int 1], by decide +kernel, fun H2 ch => ⟨.inr (.inr (.inr (.inr (.inl ⟨_, _, rfl, (.inl (.inl (ch _ _ e4 d4 (fun _ z => by cases z))))⟩)))), .of (.tup (.inl (.inl (ch _ _ e4 d4 (fun _ z => by cases z)))) (.cons (.str _) (.cons (.int _) .nil))) rfl⟩⟩
    · exact ⟨.list [], by decide +kernel, fun H2 ch => ⟨.inr (.inr (.inr (.inr (.inr (.inl ⟨_, _, rfl, (ch _ _ e5 d5 (fun _ z => by cases z))⟩))))), .of (.lst (.inl (.inl (ch _ _ e5 d5 (fun _ z => by cases z)))) .nil) rfl⟩⟩
    · exact ⟨.list [.int 1, .int 2], by decide +kernel, fun H2 ch => ⟨.inr (.inr (.inr (.inr (.inr (.inl ⟨_, _, rfl, (ch _ _ e6 d6 (fun _ z => by cases z))⟩))))), .of (.lst (.inl (.inl (ch _ _ e6 d6 (fun _ z => by cases z)))) (.cons (.int _) (.cons (.int _) .nil))) rfl⟩⟩
    · exact ⟨.list [.tuple [.int 1, .int 2]], by decide +kernel, fun H2 ch => ⟨.inr (.inr (.inr (.inr (.inr (.inl ⟨_, _, rfl, (ch _ _ e8 d8 (fun _ z => by cases z))⟩))))), .of (.lst (.inl (.inl (ch _ _ e8 d8 (fun _ z => by cases z)))) (.cons (.tup (.inl (.inl (ch _ _ e7 d7 (fun _ z => by cases z)))) (.cons (.int _) (.cons (.int _) .nil))) .nil)) rfl⟩⟩
    · exact ⟨.dict [], by decide +kernel, fun H2 ch => ⟨.inr (.inr (.inr (.inr (.inr (.inr ⟨_, _, rfl, (ch _ _ e9 d9 (fun _ z => by cases z))⟩))))), .emp (ch _ _ e9 d9 (fun _ z => by cases z))⟩⟩
    · exact ⟨.dict [(kD (.inr (Str.ofString "x")), .int 1)], by decide +kernel, fun H2 ch => ⟨.inr (.inr (.inr (.inr (.inr (.inr ⟨_, _, rfl, (ch _ _ e10 d10 (fun _ z => by cases z))⟩))))), .one (ch _ _ e10 d10 (fun _ z => by cases z))⟩⟩
    · exact ⟨.tuple [.none], by decide +kernel, fun H2 ch => ⟨.inr (.inr (.inr (.inr (.inl ⟨_, _, rfl, (PT.sq ⟨_, (ch _ _ e11 d11 (fun _ z => by cases z)), f11⟩)⟩)))), .of (.tup (PT.sq ⟨_, (ch _ _ e11 d11 (fun _ z => by cases z)), f11⟩) (.cons .non .nil)) rfl⟩⟩
    · exact ⟨.tuple [.tuple [.int 1, .int 2], .int 3], by decide +kernel, fun H2 ch => ⟨.inr (.inr (.inr (.inr (.inl ⟨_, _, rfl, (.inl (.inl (ch _ _ e13 d13 (fun _ z => by cases z))))⟩)))), .of (.tup (.inl (.inl (ch _ _ e13 d13 (fun _ z => by cases z)))) (.cons (.tup (.inl (.inl (ch _ _ e12 d12 (fun _ z => by cases z)))) (.cons (.int _) (.cons (.int _) .nil))) (.cons (.int _) .nil))) rfl⟩⟩
    · exact ⟨.tuple [.list []], by decide +kernel, fun H2 ch => ⟨.inr (.inr (.inr (.inr (.inl ⟨_, _, rfl, (PT.sq ⟨_, (ch _ _ e15 d15 (fun _ z => by cases z)), f15⟩)⟩)))), .of (.tup (PT.sq ⟨_, (ch _ _ e15 d15 (fun _ z => by cases z)), f15⟩) (.cons (.lst (.inl (.inl (ch _ _ e14 d14 (fun _ z => by cases z)))) .nil) .nil)) rfl⟩⟩
end
end K1
namespace K1
open PySem PySem.Spec L2 Z K2
section
variable {P : Program} {w : World} {K : PySem.W.Frag} {mg : Str → Option Value} {base : Heap} {C CN CI : Addr}
theorem ok_made_lengths (T : Txt K mg C CN CI) (G_init : PrI P w K mg base C "Lengths.__init__" s_init 4 ["self", "text"] (sp2_init K C)) (G_take : PrM P w K mg base C "take" "Lengths.take" s_take 2 ["self", "rounded"] (sp3_take K C)) : Pr P w K mg base "made_lengths" s_made_lengths 6 ["rounded"] (sp3_made K C) := by
  obtain ⟨f, fd, F, gl, bd⟩ := T.d_made_lengths
  refine ⟨f, fd, F, gl, bd, F.ok sc_made_lengths (fun vs H Q E h => ?_) (fun cdv A outer s H vs Q E hr h => ?_)⟩
  · obtain ⟨r, f, st, p, rfl, _⟩ := h
    rfl
  · obtain ⟨r, f, st, p, rfl, ⟨b, ht, rn, h1, h2⟩, k⟩ := h
    have hu := hu_of hr
    refine ⟨_, (pss_cons (ps_set (i := 1) sc_made_lengths.nd rfl (Or.inl rfl) (pmake G_init T.mgC (hr.mono (by decide)) (pa_cons pe_str pa_nil)))
      (pss_cons (ps_expr (pmeth (pv 1) T.cl G_take (hr.mono (by decide)) (pa_cons (pv 0) pa_nil)))
      (pss_one (ps_ret (pv 1))))), ?_⟩
    refine fun x dx hx hdx hne => ?_
    refine ⟨x, dx, [], 1, rfl, upd_same, ⟨by simp, by decide, by decide, fun w hw => (by cases hw), fun w hw => (by cases hw)⟩, fun H1 L1 cg1 => ⟨rfl, ?_⟩⟩
    have s1 := same_mk hx hdx hne cg1
    obtain ⟨dx1, r0, bt0, ct0, st0, p0, b0, S⟩ := L1
    refine ⟨_, rfl, x, dx1, _, rfl, S.ob, rfl, _, rfl, x, dx1, r, f, st, p, b, _, rfl, S.ob, .inr ⟨r0, bt0, ct0, _, st0, p0, rfl⟩, SqT.imm (.of s1) ht, rn, h1, h2, fun H2 L2 c2 => ?_⟩
    exact ⟨_, rfl, k H2 x (fun b o e => c2 b o (s1 b o e) (ne_of_none e hx)) L2⟩
end
end K1
namespace K1
open PySem PySem.Spec L2 Z K2 LamX
section
variable {P : Program} {w : World} {K : PySem.W.Frag} {mg : Str → Option Value} {base : Heap} {C CN CI : Addr}
theorem ok_is_number (T : Txt K mg C CN CI)  : Pr P w K mg base "is_number" s_is_number 1 ["value"] (q_is_number K) := by
  obtain ⟨f, fd, F, gl, bd⟩ := T.d_is_number
  refine ⟨f, fd, F, gl, bd, F.ok sc_is_number (fun vs H Q E h => ?_) (fun cdv A outer s H vs Q E hr h => ?_)⟩
  · obtain ⟨v, rfl, _⟩ := h
    rfl
  · obtain ⟨v, rfl, h⟩ := h
    have hu := hu_of hr
    refine ⟨_, (pss_one (ps_ret (pe_and (pe_callB call_isi (by rfl) T.b_isinstance (by decide +kernel) (pa_cons (pv 0) (pa_cons (pe_bty "int" (by rfl) T.b_int (by decide +kernel)) pa_nil))) (pe_one (pe_not (pe_callB call_isi (by rfl) T.b_isinstance (by decide +kernel) (pa_cons (pv 0) (pa_cons (pe_bty "bool" (by rfl) T.b_bool (by decide +kernel)) pa_nil)))))))), ?_⟩
    rcases h with ⟨i, rfl, k⟩ | ⟨h, k⟩
    · refine ⟨_, rfl, _, _, _, _, _, rfl, .ty _, .base (.int i), kit_ty (r := true) (by decide +kernel), _, rfl, iteT ?_⟩
      exact ⟨_, rfl, _, _, _, _, _, rfl, .ty _, .base (.int i), kit_ty (r := false) (by decide +kernel), _, rfl, k⟩
    · rcases h with ⟨b, rfl⟩ | rfl | ⟨z, rfl⟩ | ⟨a, xs, rfl, hs⟩ | ⟨a, xs, rfl, hs⟩ | ⟨a, xs, rfl, hs⟩
      · refine ⟨_, rfl, _, _, _, _, _, rfl, .ty _, .base (.bl b), kit_ty (r := true) (by decide +kernel), _, rfl, iteT ?_⟩
        exact ⟨_, rfl, _, _, _, _, _, rfl, .ty _, .base (.bl b), kit_ty (r := true) (by decide +kernel), _, rfl, k⟩
      · exact ⟨_, rfl, _, _, _, _, _, rfl, .ty _, .base .non, kit_ty (r := false) (by decide +kernel), _, rfl, iteF k⟩
      · exact ⟨_, rfl, _, _, _, _, _, rfl, .ty _, .base (.str z), kit_ty (r := false) (by decide +kernel), _, rfl, iteF k⟩
      · exact ⟨_, rfl, _, _, _, _, _, rfl, .ty _, SqT.ty hs, kit_ty (r := false) (by decide +kernel), _, rfl, iteF k⟩
      · exact ⟨_, rfl, _, _, _, _, _, rfl, .ty _, .base (.lst hs), kit_ty (r := false) (by decide +kernel), _, rfl, iteF k⟩
      · exact ⟨_, rfl, _, _, _, _, _, rfl, .ty _, .base (.dK hs), kit_ty (r := false) (by decide +kernel), _, rfl, iteF k⟩
end
end K1
namespace K1
open PySem PySem.Spec L2 Z K2 LamX
section
variable {P : Program} {w : World} {K : PySem.W.Frag} {mg : Str → Option Value} {base : Heap} {C CN CI : Addr}
theorem ok_is_whole (T : Txt K mg C CN CI) (G_is_number : Pr P w K mg base "is_number" s_is_number 1 ["value"] (q_is_number K)) : Pr P w K mg base "is_whole" s_is_whole 2 ["value", "low", "high"] (q_is_whole K) := by
  obtain ⟨f, fd, F, gl, bd⟩ := T.d_is_whole
  refine ⟨f, fd, F, gl, bd, F.ok sc_is_whole (fun vs H Q E h => ?_) (fun cdv A outer s H vs Q E hr h => ?_)⟩
  · obtain ⟨v, lo, hi, rfl, _⟩ := h
    rfl
  · obtain ⟨v, lo, hi, rfl, h⟩ := h
    have hu := hu_of hr
    refine ⟨_, (pss_one (ps_ret (pe_and (pcall G_is_number (hr.mono (by decide)) (pa_cons (pv 0) pa_nil)) (pe_one (pe_chain op_le op_le (pv 1) (pv 0) (pv 2)))))), ?_⟩
    rcases h with ⟨⟨i, rfl, h1, h2⟩, k⟩ | ⟨h | ⟨i, rfl, h⟩, k⟩
    · refine ⟨_, rfl, _, rfl, .inl ⟨i, rfl, _, rfl, iteT ⟨_, rfl, _, rfl, _, _, rfl, rfl, _, rfl, ?_⟩⟩⟩
      rw [decide_eq_true h1]
      refine iteT ⟨_, rfl, _, _, rfl, rfl, ?_⟩
      show Q (.bl (decide (i ≤ hi))) H
      rw [decide_eq_true h2]
      exact k
    · exact ⟨_, rfl, _, rfl, .inr ⟨h, _, rfl, iteF k⟩⟩
    · refine ⟨_, rfl, _, rfl, .inl ⟨i, rfl, _, rfl, iteT ⟨_, rfl, _, rfl, _, _, rfl, rfl, _, rfl, ?_⟩⟩⟩
      by_cases h1 : lo ≤ i
      · rw [decide_eq_true h1]
        refine iteT ⟨_, rfl, _, _, rfl, rfl, ?_⟩
        show Q (.bl (decide (i ≤ hi))) H
        rw [decide_eq_false (fun z => h ⟨h1, z⟩)]
        exact k
      · rw [decide_eq_false h1]
        exact iteF k
end
end K1
namespace K1
open PySem PySem.Spec L2 Z K2 LamX
section
variable {P : Program} {w : World} {K : PySem.W.Frag} {mg : Str → Option Value} {base : Heap} {C CN CI : Addr}
theorem ok_of_numbers (T : Txt K mg C CN CI) (G_made_lengths : Pr P w K mg base "made_lengths" s_made_lengths 6 ["rounded"] (sp3_made K C)) (G_settled : Pr P w K mg base "settled" s_settled 2 ["start", "step", "bits"] (sp2_settled K)) (G_is_whole : Pr P w K mg base "is_whole" s_is_whole 2 ["value", "low", "high"] (q_is_whole K)) : PrX P w K mg base "of_numbers" s_of_numbers 7 ["numbers"] (r_of_numbers K C CI) := by
  obtain ⟨f, fd, F, gl, bd⟩ := T.d_of_numbers
  refine ⟨f, fd, F, gl, bd, F.okX sc_of_numbers (fun vs H Q E h => ?_) (fun cdv A outer s H vs Q E hr h => ?_)⟩
  · obtain ⟨v, rfl, _⟩ := h
    rfl
  · obtain ⟨v, rfl, h⟩ := h
    have hu := hu_of hr
    refine ⟨_, (pss_cons (ps_if (pt_not (pt_val (pe_callB call_isi (by rfl) T.b_isinstance (by decide +kernel) (pa_cons (pv 0) (pa_cons (pe_bty "tuple" (by rfl) T.b_tuple (by decide +kernel)) pa_nil))))) (pss_one (ps_raiseE rfl (takes_of rfl rfl rfl rfl) (ok_err_InvalidNumbers T) (hr.mono (by decide)) (pa_cons pe_non pa_nil))) pss_nil)
      (pss_cons (ps_set (i := 1) sc_of_numbers.nd rfl (Or.inl rfl) pe_int)
      (pss_cons (ps_for (passes_of rfl) rfl (pi_enumT rfl T.b_enumerate (pa_cons (pv 0) pa_nil)) (pg_tup rfl (pgs_cons (pg_name (i := 2) sc_of_numbers.nd rfl (Or.inl rfl)) (pgs_cons (pg_name (i := 3) sc_of_numbers.nd rfl (Or.inl rfl)) pgs_nil)))
      (pss_cons (ps_if (pt_not (pt_val (pcall G_is_whole (hr.mono (by decide)) (pa_cons (pv 3) (pa_cons pe_int (pa_cons (pe_op op_sub (pe_globI rfl T.c_MOST_START) pe_int) pa_nil)))))) (pss_one (ps_raiseE rfl (takes_of rfl rfl rfl rfl) (ok_err_InvalidNumbers T) (hr.mono (by decide)) (pa_cons (pv 2) pa_nil))) pss_nil)
      (pss_one (ps_set (i := 1) sc_of_numbers.nd rfl (Or.inl rfl) (pe_op op_orNN (pv 1) (pe_op op_shlNN pe_int (pv 3)))))))
      (pss_one (ps_ret (pcall G_made_lengths (hr.mono (by decide)) (pa_cons (pcall G_settled (hr.mono (by decide)) (pa_cons (pe_bits (pv 1)) (pa_cons pe_int (pa_cons (pv 1) pa_nil)))) pa_nil))))))), ?_⟩
    rcases h with ⟨a, xs, rfl, hs, hx, h⟩ | ⟨h, bad⟩
    · refine ⟨_, rfl, _, _, _, _, _, rfl, .ty _, SqT.ty hs, kit_ty (r := true) (by decide +kernel), _, rfl, iteF ?_⟩
      have p0 : ∀ i σ H', (Same H H' ∧ ∃ (t : Nat) (x2 x3 : Option V), σ = [some (.ref a), some (.int (t : Int)), x2, x3] ∧ (∀ n, t.testBit n = true ↔ V.int (n : Int) ∈ xs.take i) ∧ ∀ j x, j < i → xs[j]? = some x → In x 0 599) → Same H H' := fun _ _ _ h => h.1
      refine ⟨_, rfl, a, xs, rfl, hs, for_enumS (H0 := H) (fun i σ H' => Same H H' ∧ ∃ (t : Nat) (x2 x3 : Option V), σ = [some (.ref a), some (.int (t : Int)), x2, x3] ∧ (∀ n, t.testBit n = true ↔ V.int (n : Int) ∈ xs.take i) ∧ ∀ j x, j < i → xs[j]? = some x → In x 0 599) ⟨fun _ _ h => h, 0, _, _, rfl, fun n => by simp, fun j x hj => by omega⟩ hs p0 (fun i y σ H' t9 hy hP hn => ?_) (fun σ H' hP => ?_)⟩
      · obtain ⟨sH, t, x2, x3, rfl, ht, hin⟩ := hP
        refine ⟨t9, _, rfl, .inl (.inl upd_same), rfl, _, _, rfl, _, _, rfl, rfl, ?_⟩
        have s2 := sH.trans (same_new (o := .tup [V.int (i : Int), y]) hn)
        refine ⟨_, rfl, _, _, rfl, rfl, y, 0, 599, rfl, ?_⟩
        have good : In y 0 599 ∨ (Out K H y 0 599 ∧ Bad CI "index" (.int (i : Int)) H E) := by
          rcases h with ⟨i0, ⟨⟨x0, e0, o0⟩, lo⟩, bad⟩ | ⟨ns, e, hns, _⟩
          · by_cases c : i < i0
            · exact .inl (lo i y c hy)
            · by_cases c2 : i = i0
              · subst c2
                rw [hy] at e0
                cases e0
                exact .inr ⟨o0, bad⟩
              · exact (in_out (hin i0 x0 (by omega) e0) o0).elim
          · rw [e] at hy
            unfold nI at hy
            obtain ⟨n, hn2, rfl⟩ := map_at hy
            have := hns n (List.mem_of_getElem? hn2)
            exact .inl ⟨_, rfl, by omega, by omega⟩
        rcases good with ⟨z, rfl, z0, z1⟩ | ⟨o1, bad⟩
        · refine .inl ⟨⟨_, rfl, z0, z1⟩, _, rfl, iteF ?_⟩
          obtain ⟨n, rfl⟩ : ∃ n : Nat, z = (n : Int) := ⟨z.toNat, by omega⟩
          refine ⟨_, rfl, _, rfl, 1, n, rfl, rfl, ⟨1, by decide, by omega⟩, t, 1 <<< n, rfl, rfl, s2, t ||| 1 <<< n, _, _, rfl, fun k => ?_, fun j x hj e => ?_⟩
          · rw [Nat.testBit_or, Nat.testBit_shiftLeft, Bool.or_eq_true, ht, List.take_add_one, hy, Bool.and_eq_true, decide_eq_true_eq, Nat.testBit_one_eq_true_iff_self_eq_zero, List.mem_append]
            constructor
            · rintro (h1 | ⟨h1, h2⟩)
              · exact .inl h1
              · have : k = n := by omega
                subst this
                exact .inr (by simp)
            · rintro (h1 | h1)
              · exact .inl h1
              · simp at h1
                exact .inr ⟨by omega, by omega⟩
          · by_cases c : j < i
            · exact hin j x c e
            · have : j = i := by omega
              subst this
              rw [hy] at e
              cases e
              exact ⟨_, rfl, z0, z1⟩
        · exact .inr ⟨Out.same s2 o1, _, rfl, iteT ⟨_, rfl, _, rfl, Bad.later s2 bad⟩⟩
      · obtain ⟨sH, t, x2, x3, rfl, ht, hin⟩ := hP
        rcases h with ⟨i0, ⟨⟨x0, e0, o0⟩, lo⟩, bad⟩ | ⟨ns, rfl, hns, k⟩
        · exact (in_out (hin i0 x0 (List.getElem?_eq_some_iff.mp e0).1 e0) o0).elim
        · rw [List.take_length] at ht
          have ht2 : ∀ n, t.testBit n = decide (n ∈ ns) := fun n => by
            rw [Bool.eq_iff_iff, ht n, decide_eq_true_iff]
            unfold nI
            constructor
            · intro h
              obtain ⟨m, hm, e⟩ := List.mem_map.mp h
              have : m = n := by injection e with e; omega
              exact this ▸ hm
            · intro h
              exact List.mem_map_of_mem h
          have t6 : t < 2 ^ 600 := by
            refine Nat.lt_pow_two_of_testBit t fun i hi => ?_
            rw [ht2]
            exact decide_eq_false fun z => by have := hns i z; omega
          have b6 := K2.bl_le t6
          refine ⟨_, rfl, t, rfl, ?_⟩
          refine ⟨_, rfl, Builtin.Int.intBits (t : Int), 1, t, fun k => decide (k ∈ ns), rfl, by omega, by omega, ?_, fun n hn => ?_, fun i hi => ht2 i, fun H2 t2 st m b' s2 ht3 R hs1 hm => ?_⟩
          · rw [intBits_nat]; show K2.bl t ≤ 10000; omega
          · rw [intBits_nat] at hn
            have hn2 : K2.bl t ≤ n := hn
            show decide ((n + 1) ∈ ns) = decide (n ∈ ns)
            rw [← ht2, ← ht2, K2.bl_above hn2, K2.bl_above (by omega)]
          · rw [intBits_nat] at hs1
            have hs2 : st ≤ K2.bl t := hs1
            exact ⟨t2, _, st, m, rfl, ⟨b', ht3, R, by omega, by omega⟩, fun H3 x s3 L => k H3 x ((sH.trans s2).trans s3) L⟩
    · have raise : ∀ {R : Prop}, True := fun {_} => trivial
      rcases h with ⟨z, rfl⟩ | ⟨z, rfl⟩ | rfl | ⟨z, rfl⟩ | ⟨a, xs, rfl, hs⟩ | ⟨a, xs, rfl, hs⟩
      · exact ⟨_, rfl, _, _, _, _, _, rfl, .ty _, .base (.int z), kit_ty (r := false) (by decide +kernel), _, rfl, iteT ⟨_, rfl, bad⟩⟩
      · exact ⟨_, rfl, _, _, _, _, _, rfl, .ty _, .base (.bl z), kit_ty (r := false) (by decide +kernel), _, rfl, iteT ⟨_, rfl, bad⟩⟩
      · exact ⟨_, rfl, _, _, _, _, _, rfl, .ty _, .base .non, kit_ty (r := false) (by decide +kernel), _, rfl, iteT ⟨_, rfl, bad⟩⟩
      · exact ⟨_, rfl, _, _, _, _, _, rfl, .ty _, .base (.str z), kit_ty (r := false) (by decide +kernel), _, rfl, iteT ⟨_, rfl, bad⟩⟩
      · exact ⟨_, rfl, _, _, _, _, _, rfl, .ty _, .base (.lst hs), kit_ty (r := false) (by decide +kernel), _, rfl, iteT ⟨_, rfl, bad⟩⟩
      · exact ⟨_, rfl, _, _, _, _, _, rfl, .ty _, .base (.dK hs), kit_ty (r := false) (by decide +kernel), _, rfl, iteT ⟨_, rfl, bad⟩⟩
end
end K1
namespace K1
open PySem PySem.Spec L2 Z K2 LamX
section
variable {P : Program} {w : World} {K : PySem.W.Frag} {mg : Str → Option Value} {base : Heap} {C CN CI : Addr}
theorem ok_law_spot_changed (T : Txt K mg C CN CI) (G__law_take : Pr P w K mg base "_law_take" s_law_take 1 ["_law_jug_here", "_law_many"] sp_law_take) : Pr P w K mg base "_law_spot_changed" s_law_spot_changed 2 ["_law_jug_here", "_law_row", "_law_thing"] (r_spot K) := by
  obtain ⟨f, fd, F, gl, bd⟩ := T.d__law_spot_changed
  refine ⟨f, fd, F, gl, bd, F.ok sc_law_spot_changed (fun vs H Q E h => ?_) (fun cdv A outer s H vs Q E hr h => ?_)⟩
  · obtain ⟨j, a, xs, v, rfl, _⟩ := h
    rfl
  · obtain ⟨j, a, xs, v, rfl, hj, hs, hx, k⟩ := h
    have hu := hu_of hr
    refine ⟨_, (pss_cons (ps_par (i := 3) (j := 4) rfl sc_law_spot_changed.nd rfl rfl (by decide) rfl rfl (pa_cons (pcall G__law_take (hr.mono (by decide)) (pa_cons (pv 0) (pa_cons pe_int pa_nil))) (pa_cons (pcall G__law_take (hr.mono (by decide)) (pa_cons (pv 0) (pa_cons (pe_op op_add (pe_callB call_len_seq (by rfl) T.b_len (by decide +kernel) (pa_cons (pv 1) pa_nil)) pe_int) pa_nil))) pa_nil)) (by rfl))
      (pss_cons (ps_if (PW.pt (pw_and (pt_cmpR op_lt (pv 3) pe_int (nomark _)) (pw_and1 (pt_cmpR op_lt (pv 4) (pe_callB call_len_seq (by rfl) T.b_len (by decide +kernel) (pa_cons (pv 1) pa_nil)) (nomark _))))) (pss_one (ps_ret (pe_op op_catP (pe_op op_catP (pe_slice sl_tupP (pv 1) po_none (po_some (pv 4))) (pe_tupP (pa_cons (pv 2) pa_nil))) (pe_slice sl_tupP (pv 1) (po_some (pe_op op_add (pv 4) pe_int)) po_none)))) pss_nil)
      (pss_cons (ps_if (PW.pt (pw_and (pt_cmpR op_eq (pv 3) pe_int (nomark _)) (pw_and1 (pt_cmpR op_lt (pv 4) (pe_callB call_len_seq (by rfl) T.b_len (by decide +kernel) (pa_cons (pv 1) pa_nil)) (nomark _))))) (pss_one (ps_ret (pe_op op_catP (pe_slice sl_tupP (pv 1) po_none (po_some (pv 4))) (pe_slice sl_tupP (pv 1) (po_some (pe_op op_add (pv 4) pe_int)) po_none)))) pss_nil)
      (pss_cons (ps_if (PW.pt (pw_and (pt_cmpR op_eq (pv 3) pe_int (nomark _)) (pw_and1 (pt_cmpR op_lt (pe_op op_add (pv 4) pe_int) (pe_callB call_len_seq (by rfl) T.b_len (by decide +kernel) (pa_cons (pv 1) pa_nil)) (nomark _))))) (pss_one (ps_ret (pe_op op_catP (pe_op op_catP (pe_slice sl_tupP (pv 1) po_none (po_some (pv 4))) (pe_tup (pa_cons (pe_ix ix_tup (pv 1) (pe_op op_add (pv 4) pe_int) (fun _ _ => rfl)) (pa_cons (pe_ix ix_tup (pv 1) (pv 4) (fun _ _ => rfl)) pa_nil)))) (pe_slice sl_tupP (pv 1) (po_some (pe_op op_add (pv 4) pe_int)) po_none)))) pss_nil)
      (pss_one (ps_ret (pe_op op_catP (pe_op op_catP (pe_slice sl_tupP (pv 1) po_none (po_some (pv 4))) (pe_tupP (pa_cons (pv 2) pa_nil))) (pe_slice sl_tupP (pv 1) (po_some (pv 4)) po_none)))))))), ?_⟩
    refine ⟨_, rfl, j, 5, rfl, hj, by decide, by decide, fun H1 w c1 j1 w0 w5 => ?_⟩
    have hs1 : SqT K H1 a xs := SqT.imm (chg_imm c1 hj) hs
    refine ⟨_, rfl, _, rfl, a, xs, rfl, .inr hs1, _, _, rfl, rfl, j, ((xs.length : Int) + 1), rfl, j1, by omega, by omega, fun H2 z c2 j2 z0 z1 => ?_⟩
    have hs2 : SqT K H2 a xs := SqT.imm (chg_imm c2 j1) hs1
    have cT := c1.trans c2
    obtain ⟨i, rfl⟩ : ∃ i : Nat, z = (i : Int) := ⟨z.toNat, by omega⟩
    have i1 : i ≤ xs.length := by omega
    refine ⟨_, _, rfl, ?_⟩
    have cut1 : ∀ y ∈ cutV xs none (some (i : Int)), y ∈ xs := fun y h => cut_sub h
    have len1 : (cutV xs none (some (i : Int))).length = i := by rw [cut_take i1, List.length_take]; omega
    try unfold tNext
    try unfold tSeq
    try unfold tIfS
    try dsimp only
    refine tAnd_two (decide (w < 2)) (decide ((i : Int) < (xs.length : Int))) (fun R r => ⟨_, rfl, _, _, rfl, rfl, _, rfl, r⟩) (fun _ R r => ⟨_, rfl, _, rfl, a, xs, rfl, .inr hs2, _, _, rfl, rfl, _, rfl, r⟩) ?_
    cases hb : decide (w < 2) && decide ((i : Int) < (xs.length : Int)) with
    | true =>
      rw [Bool.and_eq_true, decide_eq_true_iff, decide_eq_true_iff] at hb
      have i2 : i < xs.length := by omega
      have len2 : (cutV xs (some ((i : Int) + 1)) none).length = xs.length - (i + 1) := by rw [cut_drop i2, List.length_drop]
      refine iteT ⟨_, rfl, _, rfl, _, rfl, sl_sq (lo := none) (hi := some (i : Int)) hs2 fun t1 H3 s3 q3 => ⟨_, rfl, by show 1 ≤ sizeLine; exact sl_le (by decide), fun t2 o2 n2 po2 => ?_⟩⟩
      have s4 := same_new (o := .frz o2 (.tup [v])) n2
      refine cat_sq (SqT.imm (.of s4) q3) (PT.new po2).sq (by rw [len1]; simp; omega) fun t3 H5 s5 q5 => ⟨_, rfl, _, rfl, _, _, rfl, rfl, _, rfl, ?_⟩
      have s25 := (s3.trans s4).trans s5
      unfold tNoPart
      dsimp only
      refine sl_sq (lo := some ((i : Int) + 1)) (hi := none) (SqT.imm (.of s25) hs2) fun t4 H6 s6 q6 => ?_
      refine cat_sq (SqT.imm (.of s6) q5) q6 (by rw [List.length_append, len1, len2]; simp; omega) fun t5 H7 s7 q7 => ?_
      have s27 := (s25.trans s6).trans s7
      refine k H7 t5 _ (cT.trans (Chg.of s27)) (jugS s27 j2) q7 (fun y hy => ?_) (by rw [List.length_append, List.length_append, len1, len2]; simp; omega)
      rcases List.mem_append.mp hy with hy | hy
      · rcases List.mem_append.mp hy with hy | hy
        · exact .inl (cut_sub hy)
        · exact .inr (List.mem_singleton.mp hy)
      · exact .inl (cut_sub hy)
    | false =>
    refine iteF ?_
    clear hb
    try unfold tNext
    try unfold tSeq
    try unfold tIfS
    try dsimp only
    refine tAnd_two (decide (V.int w = V.int 2)) (decide ((i : Int) < (xs.length : Int))) (fun R r => ⟨_, rfl, rfl, _, rfl, r⟩) (fun _ R r => ⟨_, rfl, _, rfl, a, xs, rfl, .inr hs2, _, _, rfl, rfl, _, rfl, r⟩) ?_
    cases hb : decide (V.int w = V.int 2) && decide ((i : Int) < (xs.length : Int)) with
    | true =>
      rw [Bool.and_eq_true, decide_eq_true_iff, decide_eq_true_iff] at hb
      have i2 : i < xs.length := by omega
      have len2 : (cutV xs (some ((i : Int) + 1)) none).length = xs.length - (i + 1) := by rw [cut_drop i2, List.length_drop]
      refine iteT ⟨_, rfl, _, rfl, _, rfl, sl_sq (lo := none) (hi := some (i : Int)) hs2 fun t1 H3 s3 q3 => ⟨_, rfl, _, rfl, _, _, rfl, rfl, _, rfl, ?_⟩⟩
      unfold tNoPart
      dsimp only
      refine sl_sq (lo := some ((i : Int) + 1)) (hi := none) (SqT.imm (.of s3) hs2) fun t4 H6 s6 q6 => ?_
      refine cat_sq (SqT.imm (.of s6) q3) q6 (by rw [len1, len2]; omega) fun t5 H7 s7 q7 => ?_
      have s27 := (s3.trans s6).trans s7
      refine k H7 t5 _ (cT.trans (Chg.of s27)) (jugS s27 j2) q7 (fun y hy => ?_) (by rw [List.length_append, len1, len2]; omega)
      rcases List.mem_append.mp hy with hy | hy
      · exact .inl (cut_sub hy)
      · exact .inl (cut_sub hy)
    | false =>
    refine iteF ?_
    clear hb
    try unfold tNext
    try unfold tSeq
    try unfold tIfS
    try dsimp only
    refine tAnd_two (decide (V.int w = V.int 3)) (decide ((i : Int) + 1 < (xs.length : Int))) (fun R r => ⟨_, rfl, rfl, _, rfl, r⟩) (fun _ R r => ⟨_, rfl, _, _, rfl, rfl, _, rfl, a, xs, rfl, .inr hs2, _, _, rfl, rfl, _, rfl, r⟩) ?_
    cases hb : decide (V.int w = V.int 3) && decide ((i : Int) + 1 < (xs.length : Int)) with
    | true =>
      rw [Bool.and_eq_true, decide_eq_true_iff, decide_eq_true_iff] at hb
      have i2 : i + 1 < xs.length := by omega
      have e2 : (i : Int) + 2 = (((i + 1 : Nat) : Int) + 1) := by omega
      have len2 : (cutV xs (some ((i : Int) + 2)) none).length = xs.length - (i + 2) := by rw [e2, cut_drop i2, List.length_drop]
      have g1 : xs[i + 1]? = some (xs[i + 1]'i2) := List.getElem?_eq_getElem _
      have g2 : xs[i]? = some (xs[i]'(by omega)) := List.getElem?_eq_getElem _
      refine iteT ⟨_, rfl, _, rfl, _, rfl, sl_sq (lo := none) (hi := some (i : Int)) hs2 fun t1 H3 s3 q3 => ⟨_, rfl, _, rfl, _, _, rfl, rfl, a, xs, ((i : Int) + 1), xs[i + 1]'i2, rfl, rfl, SqT.imm (.of s3) hs2, ?_, _, rfl, _, rfl, a, xs, (i : Int), xs[i]'(by omega), rfl, rfl, SqT.imm (.of s3) hs2, at_nat g2, by show 2 ≤ sizeLine; exact sl_le (by decide), fun t2 n2 => ?_⟩⟩
      · rw [show (i : Int) + 1 = ((i + 1 : Nat) : Int) by omega]
        exact at_nat g1
      have s4 := same_new (o := .tup [xs[i + 1]'i2, xs[i]'(by omega)]) n2
      refine cat_sq (SqT.imm (.of s4) q3) (.inl (.inl upd_same)) (by rw [len1]; simp; omega) fun t3 H5 s5 q5 => ⟨_, rfl, _, rfl, _, _, rfl, rfl, _, rfl, ?_⟩
      have s25 := (s3.trans s4).trans s5
      unfold tNoPart
      dsimp only
      refine sl_sq (lo := some ((i : Int) + 2)) (hi := none) (SqT.imm (.of s25) hs2) fun t4 H6 s6 q6 => ?_
      refine cat_sq (SqT.imm (.of s6) q5) q6 (by rw [List.length_append, len1, len2]; simp; omega) fun t5 H7 s7 q7 => ?_
      have s27 := (s25.trans s6).trans s7
      refine k H7 t5 _ (cT.trans (Chg.of s27)) (jugS s27 j2) q7 (fun y hy => ?_) (by rw [List.length_append, List.length_append, len1, len2]; simp; omega)
      rcases List.mem_append.mp hy with hy | hy
      · rcases List.mem_append.mp hy with hy | hy
        · exact .inl (cut_sub hy)
        · simp only [List.mem_cons, List.not_mem_nil, or_false] at hy
          rcases hy with rfl | rfl
          · exact .inl (List.getElem_mem _)
          · exact .inl (List.getElem_mem _)
      · exact .inl (cut_sub hy)
    | false =>
    refine iteF ?_
    clear hb
    refine ⟨_, rfl, _, rfl, _, rfl, sl_sq (lo := none) (hi := some (i : Int)) hs2 fun t1 H3 s3 q3 => ⟨_, rfl, by show 1 ≤ sizeLine; exact sl_le (by decide), fun t2 o2 n2 po2 => ?_⟩⟩
    have s4 := same_new (o := .frz o2 (.tup [v])) n2
    refine cat_sq (SqT.imm (.of s4) q3) (PT.new po2).sq (by rw [len1]; simp; omega) fun t3 H5 s5 q5 => ⟨_, rfl, _, rfl, _, rfl, ?_⟩
    have s25 := (s3.trans s4).trans s5
    have len2 : (cutV xs (some (i : Int)) none).length ≤ xs.length - i := by
      unfold cutV
      rw [HT.sIx_nat, List.length_take, List.length_drop, Nat.min_eq_left i1]
      omega
    unfold tNoPart
    dsimp only
    refine sl_sq (lo := some (i : Int)) (hi := none) (SqT.imm (.of s25) hs2) fun t4 H6 s6 q6 => ?_
    refine cat_sq (SqT.imm (.of s6) q5) q6 (by rw [List.length_append, len1]; simp; omega) fun t5 H7 s7 q7 => ?_
    have s27 := (s25.trans s6).trans s7
    refine k H7 t5 _ (cT.trans (Chg.of s27)) (jugS s27 j2) q7 (fun y hy => ?_) (by rw [List.length_append, List.length_append, len1]; simp; omega)
    rcases List.mem_append.mp hy with hy | hy
    · rcases List.mem_append.mp hy with hy | hy
      · exact .inl (cut_sub hy)
      · exact .inr (List.mem_singleton.mp hy)
    · exact .inl (cut_sub hy)
end
end K1
namespace K1
open PySem PySem.Spec L2 Z K2 LamX
section
variable {P : Program} {w : World} {K : PySem.W.Frag} {mg : Str → Option Value} {base : Heap} {C CN CI : Addr}
theorem ok_law_is_whole (T : Txt K mg C CN CI)  : Pr P w K mg base "_law_is_whole" s_law_is_whole 1 ["_law_value", "_law_low", "_law_high"] (q_is_whole K) := by
  obtain ⟨f, fd, F, gl, bd⟩ := T.d__law_is_whole
  refine ⟨f, fd, F, gl, bd, F.ok sc_law_is_whole (fun vs H Q E h => ?_) (fun cdv A outer s H vs Q E hr h => ?_)⟩
  · obtain ⟨v, lo, hi, rfl, _⟩ := h
    rfl
  · obtain ⟨v, lo, hi, rfl, h⟩ := h
    have hu := hu_of hr
    refine ⟨_, (pss_one (ps_ret (pe_and (pe_callB call_isi (by rfl) T.b_isinstance (by decide +kernel) (pa_cons (pv 0) (pa_cons (pe_bty "int" (by rfl) T.b_int (by decide +kernel)) pa_nil))) (pe_and (pe_not (pe_callB call_isi (by rfl) T.b_isinstance (by decide +kernel) (pa_cons (pv 0) (pa_cons (pe_bty "bool" (by rfl) T.b_bool (by decide +kernel)) pa_nil)))) (pe_one (pe_chain op_le op_le (pv 1) (pv 0) (pv 2))))))), ?_⟩
    rcases h with ⟨⟨i, rfl, h1, h2⟩, k⟩ | ⟨h | ⟨i, rfl, h⟩, k⟩
    · refine ⟨_, rfl, _, _, _, _, _, rfl, .ty _, .base (.int i), kit_ty (r := true) (by decide +kernel), _, rfl, iteT ?_⟩
      refine ⟨_, rfl, _, _, _, _, _, rfl, .ty _, .base (.int i), kit_ty (r := false) (by decide +kernel), _, rfl, _, rfl, iteT ?_⟩
      refine ⟨_, rfl, _, rfl, _, _, rfl, rfl, _, rfl, ?_⟩
      rw [decide_eq_true h1]
      refine iteT ⟨_, rfl, _, _, rfl, rfl, ?_⟩
      show Q (.bl (decide (i ≤ hi))) H
      rw [decide_eq_true h2]
      exact k
    · rcases h with ⟨b, rfl⟩ | rfl | ⟨z, rfl⟩ | ⟨a, xs, rfl, hs⟩ | ⟨a, xs, rfl, hs⟩ | ⟨a, xs, rfl, hs⟩
      · refine ⟨_, rfl, _, _, _, _, _, rfl, .ty _, .base (.bl b), kit_ty (r := true) (by decide +kernel), _, rfl, iteT ?_⟩
        exact ⟨_, rfl, _, _, _, _, _, rfl, .ty _, .base (.bl b), kit_ty (r := true) (by decide +kernel), _, rfl, _, rfl, iteF k⟩
      · exact ⟨_, rfl, _, _, _, _, _, rfl, .ty _, .base .non, kit_ty (r := false) (by decide +kernel), _, rfl, iteF k⟩
      · exact ⟨_, rfl, _, _, _, _, _, rfl, .ty _, .base (.str z), kit_ty (r := false) (by decide +kernel), _, rfl, iteF k⟩
      · exact ⟨_, rfl, _, _, _, _, _, rfl, .ty _, SqT.ty hs, kit_ty (r := false) (by decide +kernel), _, rfl, iteF k⟩
      · exact ⟨_, rfl, _, _, _, _, _, rfl, .ty _, .base (.lst hs), kit_ty (r := false) (by decide +kernel), _, rfl, iteF k⟩
      · exact ⟨_, rfl, _, _, _, _, _, rfl, .ty _, .base (.dK hs), kit_ty (r := false) (by decide +kernel), _, rfl, iteF k⟩
    · refine ⟨_, rfl, _, _, _, _, _, rfl, .ty _, .base (.int i), kit_ty (r := true) (by decide +kernel), _, rfl, iteT ?_⟩
      refine ⟨_, rfl, _, _, _, _, _, rfl, .ty _, .base (.int i), kit_ty (r := false) (by decide +kernel), _, rfl, _, rfl, iteT ?_⟩
      refine ⟨_, rfl, _, rfl, _, _, rfl, rfl, _, rfl, ?_⟩
      by_cases h1 : lo ≤ i
      · rw [decide_eq_true h1]
        refine iteT ⟨_, rfl, _, _, rfl, rfl, ?_⟩
        show Q (.bl (decide (i ≤ hi))) H
        rw [decide_eq_false (fun z => h ⟨h1, z⟩)]
        exact k
      · rw [decide_eq_false h1]
        exact iteF k
end
end K1
namespace K1
open PySem PySem.Spec L2 Z K2
section
variable {P : Program} {w : World} {K : PySem.W.Frag} {mg : Str → Option Value} {base : Heap} {C CN CI : Addr}
theorem ok_eq (T : Txt K mg C CN CI)  : PrE P w K mg base C "Lengths.__eq__" s_eq 1 (sp2_eq K C) := by
  obtain ⟨f, fd, F, O⟩ := T.d_eq
  refine ⟨f, fd, F, O, F.ok sc_eq (fun vs H Q E h => ?_) (fun cdv A outer s H vs Q E hr h => ?_)⟩
  · obtain ⟨x, y, f, rfl, _⟩ := h
    rfl
  · obtain ⟨x, y, f, rfl, ⟨dx, r, bt, ct, st, p, b, S⟩, h⟩ := h
    have hu := hu_of hr
    refine ⟨_, (pss_one (ps_ret (pe_and (pe_callB call_isi (by rfl) T.b_isinstance (by decide +kernel) (pa_cons (pv 1) (pa_cons (pe_glob (v := V.ref C) rfl T.mgC rfl) pa_nil))) (pe_one (pe_cmpR (op_eqD hr.units) (pe_fld (pv 0) rfl) (pe_fld (pv 1) rfl) (nomark _)))))), ?_⟩
    rcases h with ⟨x', g, rfl, ⟨dx', r', bt', ct', st', p', b', S'⟩, k⟩ | ⟨⟨z, rfl⟩, k⟩
    · refine ⟨_, rfl, _, _, _, _, true, rfl, .own C, .base (.ins S'.ob T.cl T.isC T.isG T.isT T.isM), T.k_self, _, rfl, iteT ?_⟩
      refine ⟨_, rfl, x, C, dx, _, _, rfl, S.ob, T.cl, T.n_rounded, rfl, _, rfl, x', C, dx', _, _, rfl, S'.ob, T.cl, T.n_rounded, rfl, tr3 st p b, tr3 st' p' b', dp_tr3 S.rd, dp_tr3 S'.rd, shape_tr3 _ _ _, shape_tr3 _ _ _, ?_⟩
      rw [eqv_tr3]
      exact k _ (rnd_eq S.rnd S'.rnd)
    · exact ⟨_, rfl, _, _, _, _, false, rfl, .own C, .base (.str z), T.k_str, _, rfl, iteF k⟩
end
end K1
/-! What is told of a call; two defs that make lambdas. -/
namespace Z
open PySem PySem.Spec L2
theorem cr_setLW {X : Cx} {K : PySem.W.Frag} {w : World} (hK : X.K = K) (hw : X.w = w) (hc : X.calm = true) : CallR X (.type "set") (rSetL K w) := hK ▸ hw ▸ cr_setL hc
theorem cr_sortedSetW {X : Cx} {w : World} (hw : X.w = w) (hc : X.calm = true) : CallR X (.builtin "sorted") (rSortedSet w) := hw ▸ cr_sortedSet hc
end Z
namespace K1
open PySem PySem.Spec L2 Z K2 LamX
abbrev QR : Str := "_law_right.<locals>.<lambda>"
abbrev QN : Str := "_law_numbers_right.<locals>.<lambda>"
abbrev T2 (Pt Pu : Addr) : List (Addr × Str) := [(Pt, QR), (Pu, QN)]
/-- both tables stand -/
def Tb (H : Hp) (Pt Pu : Addr) : Prop := TabS H Pt QR ∧ TabS H Pu QN
theorem Tb.all {H : Hp} {Pt Pu : Addr} (h : Tb H Pt Pu) : Tabs (T2 Pt Pu) H := fun p hp => by
  simp only [List.mem_cons, List.not_mem_nil, or_false] at hp
  rcases hp with rfl | rfl
  · exact h.1
  · exact h.2
theorem Tb.of {H : Hp} {Pt Pu : Addr} (h : Tabs (T2 Pt Pu) H) : Tb H Pt Pu := ⟨h (Pt, QR) List.mem_cons_self, h (Pu, QN) (List.mem_cons_of_mem _ List.mem_cons_self)⟩
theorem Tb.same {H H' : Hp} {Pt Pu : Addr} (s : Same H H') (h : Tb H Pt Pu) : Tb H' Pt Pu := ⟨h.1.ext s, h.2.ext s⟩
theorem Tb.chg {H H' : Hp} {j Pt Pu : Addr} (c : Chg j H H') (hj : JugAt H j) (h : Tb H Pt Pu) : Tb H' Pt Pu := ⟨tabs_chg c hj h.1, tabs_chg c hj h.2⟩
theorem hmR {Pt Pu : Addr} : (Pt, QR) ∈ T2 Pt Pu := List.mem_cons_self
theorem hmN {Pt Pu : Addr} : (Pu, QN) ∈ T2 Pt Pu := List.mem_cons_of_mem _ List.mem_cons_self
theorem huR {Pt Pu : Addr} (ne : Pt ≠ Pu) : ∀ p ∈ T2 Pt Pu, p.1 = Pt → p.2 = QR := fun p hp e => by
  simp only [List.mem_cons, List.not_mem_nil, or_false] at hp
  rcases hp with rfl | rfl
  · rfl
  · exact absurd e.symm ne
theorem huN {Pt Pu : Addr} (ne : Pt ≠ Pu) : ∀ p ∈ T2 Pt Pu, p.1 = Pu → p.2 = QN := fun p hp e => by
  simp only [List.mem_cons, List.not_mem_nil, or_false] at hp
  rcases hp with rfl | rfl
  · exact absurd e ne
  · rfl
abbrev noArgs : Arguments := { posonlyargs := [], args := [], vararg := none, kwonlyargs := [], kw_defaults := [], kwarg := none, defaults := [] }
/-- what the told call lets out -/
abbrev EX (K : PySem.W.Frag) (CN CI : Addr) (Q : VK) : XK := fun cls d H' => (cls = .ref CN ∧ ∃ dd v, d = some dd ∧ H' dd = some (.xd [("given", v)]) ∧ Tells K "number" v H' Q) ∨ (cls = .ref CI ∧ ∃ dd v, d = some dd ∧ H' dd = some (.xd [("index", v)]) ∧ Tells K "numbers" v H' Q)
def TT3 (K : PySem.W.Frag) (CN CI : Addr) : (XK → Hp → VK → Prop) → Hp → VK → Prop := fun tl H Q =>
  tl (EX K CN CI Q) H (fun v H' => ∃ w, some (some v) = some (some w) ∧ Tells K "right" w H' Q)
section
variable {X : Cx}
theorem told_gives {C CN CI g : Addr} {cdg : Value} {q : Str} {p1 p2 p3 p4 p5 p6 p7 p8 p9 pa pb pc pd pe pf pg ph pi pj pk pl pm pn po pp pq pr ps pz : Pos} {j1 j2 j3 : Nat} (T : Txt X.K X.mg C CN CI) (hgd : X.A.guards = some []) (hu : X.A.units + 80 < cLine) :
    GivesTo X N_law_told "_law_told" (defScope s_law_told) g cdg [.Try [.Assign [.Name "_law_found" p1] (.Call (.Name "_law_call" p2) [] [] p3) p4]
      [.ExceptHandler (some (.Name "InvalidNumber" p5)) (some "e") [.Return (some (.List [.Constant (.str "number") j1 p6, .Call (.Name "repr" pp) [.Attribute (.Name "e" p7) "given" p8] [] pq] p9)) pa] pb,
       .ExceptHandler (some (.Name "InvalidNumbers" pc)) (some "e") [.Return (some (.List [.Constant (.str "numbers") j2 pd, .Call (.Name "repr" pe) [.Attribute (.Name "e" pf) "index" pg] [] ph] pi)) pj] pk] [] [] pl,
      .Return (some (.List [.Constant (.str "right") j3 pm, .Call (.Name "repr" pr) [.Name "_law_found" pn] [] ps] po)) pz] "_law_call" q (TT3 X.K CN CI) := by
  intro f c' s H Q tl act hc h
  let Z := (cxOf C8.CX0 X.prog X.w X.K X.mg X.base N_law_told "_law_told" (defScope s_law_told) g cdg X.A X.stack s H C8.E0).nox
  have hgdZ : Z.A.guards = some [] := by
    show (X.A.deeper _).guards = some []
    simpa [Around.deeper] using hgd
  have huZ : Z.A.units + 64 < cLine := by
    show (X.A.deeper _).units + 64 < cLine
    simp only [Around.deeper]
    omega
  have hb : bootBuiltins ("repr" : Str) = some (.builtin "repr") := by decide +kernel
  have nd : N_law_told.Nodup := sc_law_told.nd
  let cl : List Clause := [(.ref CN, 2, fun a cls d => tRet (tLst (tCons (tC (.str (Str.ofString "number"))) (tCons (tCB (rShow X.K) (tCons (tXf a cls d CN "given" (tVar 2)) tNil)) tNil)))), (.ref CI, 2, fun a cls d => tRet (tLst (tCons (tC (.str (Str.ofString "numbers"))) (tCons (tCB (rShow X.K) (tCons (tXf a cls d CI "index" (tVar 2)) tNil)) tNil))))]
  refine ⟨_, pss_cons (ps_try_each (X := Z) (l := cl) (tb := fun W D σ H => σ.length = 3 → ∃ Ech : XK, (∀ cls d σ' H', Ech cls d H' → σ'.length = 3 → W cls d σ' H') ∧ σ[0]? = some (some (.ref f)) ∧ H c' = some (CodeO c' q) ∧ tl Ech H (fun v H' => D.nx (σ.set 1 (some v)) H'))
      rfl rfl nd LamX.takes0 (fun W pn xe tk _ => ?_)
      (.cons (i := 2) rfl rfl ⟨rfl, by decide, .inl T.x_InvalidNumber.gC⟩ (fun a oe cls d pn hz hf => pss_one (ps_ret (pe_lst (pa_cons pe_str (pa_cons (pe_callB (id := "repr") (r := rShow X.K) (call_show (X := Z.suite a ((a, oe) :: pn)) hgdZ huZ) rfl T.b_repr hb (pa_cons (pe_xf T.x_InvalidNumber.xf T.x_InvalidNumber.no hz hf (pe_var (i := 2) rfl (Or.inl rfl))) pa_nil)) pa_nil)))))
      (.cons (i := 2) rfl rfl ⟨rfl, by decide, .inl T.x_InvalidNumbers.gC⟩ (fun a oe cls d pn hz hf => pss_one (ps_ret (pe_lst (pa_cons pe_str (pa_cons (pe_callB (id := "repr") (r := rShow X.K) (call_show (X := Z.suite a ((a, oe) :: pn)) hgdZ huZ) rfl T.b_repr hb (pa_cons (pe_xf T.x_InvalidNumbers.xf T.x_InvalidNumbers.no hz hf (pe_var (i := 2) rfl (Or.inl rfl))) pa_nil)) pa_nil))))) .nil)))
    (pss_one (ps_ret (pe_lst (pa_cons pe_str (pa_cons (pe_callB (id := "repr") (r := rShow X.K) (call_show (X := Z) hgdZ huZ) rfl T.b_repr hb (pa_cons (pe_var (i := 1) rfl (Or.inl rfl)) pa_nil)) pa_nil))))), ?_⟩
  · refine ⟨fun pins s' σ H' D I h' => ?_⟩
    have e2 : σ.length = 3 := I.len.trans rfl
    obtain ⟨Ech, hW, h1, h2, h3⟩ := h' e2
    have hp := act (fun cls d σ H => σ.length = 3 → W cls d σ H) pn xe Ech p2 p3 (takes_len tk 3 rfl) hW
    have hq := pss_one (ps_set (X := Z.tr pn xe) (i := 1) (x := "_law_found") (pos := p4) (pos' := p1) nd rfl (Or.inl rfl) hp)
    refine hq.run pins s' σ H' D I ?_
    exact ⟨h1, h2, h3⟩
  · refine fun hs => ?_
    refine ⟨_, fun cls d σ' H' he hl' => ?_, rfl, hc, h⟩
    rcases he with ⟨rfl, dd, v, rfl, hd, k⟩ | ⟨rfl, dd, v, rfl, hd, k⟩
    · refine .inl ⟨T.nn, fun a ha => ?_⟩
      have hset : (σ'.set 2 (some (.ref a)))[2]? = some (some (V.ref a)) := by
        rw [List.getElem?_set_self (by omega)]
      exact ⟨_, hset, rfl, rfl, dd, _, v, rfl, hd, by simp, k⟩
    · refine .inr ⟨T.ni, .inl ⟨T.ii, fun a ha => ?_⟩⟩
      have hset : (σ'.set 2 (some (.ref a)))[2]? = some (some (V.ref a)) := by
        rw [List.getElem?_set_self (by omega)]
      exact ⟨_, hset, rfl, rfl, dd, _, v, rfl, hd, by simp, k⟩
end
theorem tell {X : Cx} {C CN CI c P : Addr} {k : Nat} {ql : Str} {TL : List (Addr × Str)} {body : Expr} {scope : Scope} {t : XK → TE} {p lpos pos : Pos} (T : Txt X.K X.mg C CN CI) (TB : TabB X.base X.mg c P) (hcode : X.env.code = .ref c) (hq : X.env.qual ++ "<lambda>" = ql) (hm : (P, ql) ∈ TL) (hu2 : ∀ p ∈ TL, p.1 = P → p.2 = ql) (hgd : X.A.guards = some []) (hu : X.A.units + 80 < cLine) (hr : Room (k + 2) X.A)
    (hbody : ∀ (A : Around) (outer : List Env) (s : Shared) (H : Hp) (E : XK) (f c' : Addr), Room k (A.deeper (lamEnv X scope s.heap.objs.size f c')) → PE (lamCx X A outer s H E scope f c') body (t E))
    (L : LamS X.env.scope scope := by exact lamS_by (by decide +kernel)) (hg : Gl X "_law_told" := by rfl) :
    PE X (.Call (.Name "_law_told" p) [.Lambda noArgs body scope lpos] [] pos) (tLam TL (TT3 X.K CN CI) t) := by
  obtain ⟨f, fd, F, gl, bd⟩ := T.d__law_told
  obtain ⟨oc, od, kV, doc, pm, an, cdv, ct, osl, rfl, lk, hcd2⟩ := F.ex
  refine pe_lamcall hg gl F.kp lk hcd2 bd sc_law_told rfl (Or.inl rfl) (told_gives (X := X) (g := f) (cdg := cdv) (q := X.env.qual ++ "<lambda>") T hgd hu) TB hcode (by rw [hq]; exact hm) (fun p hp e => (hu2 p hp e).trans hq.symm) hr L rfl (fun _ _ _ _ _ => rfl) hbody
section
variable (K : PySem.W.Frag) (Pt Pu : Addr)
def r_numbers : Sp := fun vs H Q _ => ∃ j, vs = [.ref j] ∧ JugAt H j ∧ Tb H Pt Pu ∧ ∀ H', ChT j H H' → Tb H' Pt Pu → Q (.bl true) H'
def r_right : Sp := fun vs H Q _ => ∃ j, vs = [.ref j] ∧ JugAt H j ∧ Tb H Pt Pu ∧ ∀ H', ChT j H H' → Tb H' Pt Pu → Q (.bl true) H'
def r_law : Sp := fun vs H Q _ => ∃ (a : Addr) (ns : List Int), vs = [.ref a] ∧ SqL K H a (ns.map V.int) ∧ Tb H Pt Pu ∧ ns.length ≤ 63 ∧ ∀ (H' : Hp), Q (.bl true) H'
end
theorem out_of {K : PySem.W.Frag} {H : Hp} {v : V} {lo hi : Int} (n : ¬ In v lo hi) (h : (∃ i, v = .int i) ∨ NN K H v) : Out K H v lo hi := by
  rcases h with ⟨i, rfl⟩ | h
  · exact .inr ⟨i, rfl, fun c => n ⟨i, rfl, c.1, c.2⟩⟩
  · exact .inl h
theorem bad_tells {K : PySem.W.Frag} {CN CI : Addr} {v : V} {H : Hp} {d : PyData} {Q : VK} (hd : ∀ H', Same H H' → Sh K H' v d) (okd : OddOk d = true)
    (k : ∀ H' q, Same H H' → H' q = some (.lst [.str (Str.ofString "number"), .str d.shown]) → Q (.ref q) H') : Bad CN "given" v H (EX K CN CI Q) := fun dd H' s n e => by
  unfold OddOk at okd
  simp only [Bool.and_eq_true, decide_eq_true_eq] at okd
  exact .inl ⟨rfl, dd, v, rfl, e, Tells.intro (hd H' s) okd.1.1.2 okd.1.2 okd.2 fun p hp => k _ p (s.trans (same_new hp)) upd_same⟩
theorem shaped_two {a b : Str} (ha : PyData.strOk a = true) (hb : PyData.strOk b = true) : SeqAt.shaped (.list [.str a, .str b]) = true := by
  simp [SeqAt.shaped, PyData.canLay0, PyData.canLayAll0, PyData.depth, PyData.depthAll, ha, hb]
theorem eqv_wt (a b : Str) : PyData.eqv (.list [.str a, .str b]) (.list [.str a, .str b]) = true := by
  simp [PyData.eqv, PyData.eqvAll]
end K1
namespace K1
open PySem PySem.Spec L2 Z K2
theorem fit_big {i : Int} (h : 0 ≤ i) (h2 : i < 10 ^ 40) : Fit (.int i) 42 0 := ⟨by
  show (Str.ofString (toString i)).length ≤ 42
  have := PyProof.Rows.toString_length_le h (k := 40) (by decide) h2
  omega, by
  show decide _ = true
  refine decide_eq_true ?_
  have h3 : i.natAbs < 2 ^ 140 := Nat.lt_of_lt_of_le (show i.natAbs < 10 ^ 40 by omega) (by decide +kernel)
  have := PySem.Flt.log2_lt_of (by decide) h3
  omega, rfl, Nat.le_refl _⟩
end K1
namespace K1
open PySem PySem.Spec L2 Z K2 LamX
/-- a number or none -/
def Cl (K : PySem.W.Frag) (H : Hp) (y : V) : Prop := (∃ i, y = .int i) ∨ NN K H y
/-- no tuple -/
def NTup (H : Hp) (v : V) : Prop := (∃ i, v = .int i) ∨ (∃ z, v = .bl z) ∨ v = .non ∨ (∃ z, v = .str z) ∨ (∃ a xs, v = .ref a ∧ H a = some (.lst xs)) ∨ ∃ a xs, v = .ref a ∧ H a = some (.dK xs)
/-- what may be handed in: no tuple, or a tuple of numbers and other things -/
def Bent (K : PySem.W.Frag) (j : Addr) (H : Hp) (v : V) : Prop := (∀ H2, ChT j H H2 → NTup H2 v) ∨ ∃ a xs, v = .ref a ∧ xs.length ≤ 100 ∧ ∀ H2, ChT j H H2 → SqT K H2 a xs ∧ ∀ y ∈ xs, Cl K H2 y
theorem Bent.cht {K : PySem.W.Frag} {j : Addr} {H H' : Hp} {v : V} (c : ChT j H H') (h : Bent K j H v) : Bent K j H' v := by
  rcases h with h | ⟨a, xs, e, l, h⟩
  · exact .inl fun H2 c2 => h H2 (c.trans c2)
  · exact .inr ⟨a, xs, e, l, fun H2 c2 => h H2 (c.trans c2)⟩
def q_odd3 (K : PySem.W.Frag) : Sp := fun vs H Q _ => ∃ j, vs = [.ref j] ∧ JugAt H j ∧ ∀ (H' : Hp) (v : V), Chg j H H' → JugAt H' j → (∀ H2, ChT j H' H2 → Cl K H2 v) → Bent K j H' v → Q v H'
end K1
namespace K1
open PySem PySem.Spec L2 Z K2 LamX
theorem bad_idx {K : PySem.W.Frag} {CN CI : Addr} {v : V} {H : Hp} {d : PyData} {Q : VK} (hd : ∀ H', Sh K H' v d) (okd : OddOk d = true)
    (k : ∀ H' q, Same H H' → H' q = some (.lst [.str (Str.ofString "numbers"), .str d.shown]) → Q (.ref q) H') : Bad CI "index" v H (EX K CN CI Q) := fun dd H' s n e => by
  unfold OddOk at okd
  simp only [Bool.and_eq_true, decide_eq_true_eq] at okd
  exact .inr ⟨rfl, dd, v, rfl, e, Tells.intro (hd H') okd.1.1.2 okd.1.2 okd.2 fun p hp => k _ p (s.trans (same_new hp)) upd_same⟩
theorem first_bad {K : PySem.W.Frag} {H : Hp} : ∀ xs : List V, (∀ y ∈ xs, Cl K H y) → (∃ i, FirstBad K H xs i) ∨ ∃ ns : List Nat, xs = nI ns ∧ ∀ n ∈ ns, n ≤ 599
  | [], _ => .inr ⟨[], rfl, fun n h => by cases h⟩
  | y :: t, h => by
    by_cases c : In y 0 599
    · obtain ⟨z, rfl, z0, z1⟩ := c
      rcases first_bad t (fun x hx => h x (List.mem_cons_of_mem _ hx)) with ⟨i, ⟨x, e, o⟩, lo⟩ | ⟨ns, e, hn⟩
      · refine .inl ⟨i + 1, ⟨x, e, o⟩, fun j w hj hw => ?_⟩
        cases j with
        | zero => cases hw; exact ⟨z, rfl, z0, z1⟩
        | succ j => exact lo j w (by omega) hw
      · refine .inr ⟨z.toNat :: ns, ?_, fun n hn2 => ?_⟩
        · unfold nI at e ⊢
          rw [List.map_cons, ← e, show ((z.toNat : Nat) : Int) = z by omega]
        · rcases List.mem_cons.mp hn2 with rfl | h2
          · omega
          · exact hn n h2
    · exact .inl ⟨0, ⟨y, rfl, out_of c (h y List.mem_cons_self)⟩, fun j x hj => by omega⟩
open Classical in
noncomputable def wrongF (xs : List V) (k : Nat) : Bool := decide (¬ ∃ y, xs[k]? = some y ∧ In y 0 599)
theorem odd_num : ∀ i : Nat, i ≤ 100 → OddOk (.int (i : Int)) = true := by
  intro i h
  have : ∀ k : Fin 101, OddOk (.int ((k.val : Nat) : Int)) = true := by decide +kernel
  exact this ⟨i, by omega⟩
theorem filt_first {c : Nat → Bool} {i n : Nat} (hi : i < n) (h1 : c i = true) (h0 : ∀ j, j < i → c j = false) : ∃ rest, (List.range n).filter c = i :: rest := by
  obtain ⟨m, rfl⟩ : ∃ m, n = i + (m + 1) := ⟨n - i - 1, by omega⟩
  have e : List.range (i + (m + 1)) = List.range i ++ (i :: List.range' (i + 1) m) := by
    rw [List.range_eq_range', List.range_eq_range', ← List.range'_append_1, Nat.zero_add, List.range'_succ]
  rw [e, List.filter_append, List.filter_eq_nil_iff.mpr (fun j hj => by rw [h0 j (List.mem_range.mp hj)]; simp), List.nil_append, List.filter_cons, if_pos h1]
  exact ⟨_, rfl⟩
open Classical in
theorem wrong_no {xs : List V} {k : Nat} {y : V} (e : xs[k]? = some y) (h : In y 0 599) : wrongF xs k = false := decide_eq_false (fun z => z ⟨y, e, h⟩)
open Classical in
theorem wrong_yes {xs : List V} {k : Nat} {y : V} (e : xs[k]? = some y) (h : ¬ In y 0 599) : wrongF xs k = true := decide_eq_true (fun ⟨w, e2, h2⟩ => by
  rw [e] at e2
  cases e2
  exact h h2)
theorem num_log100 {i : Nat} (h : i ≤ 100) : ((i : Nat) : Int).natAbs.log2 < 1920 := by
  have e : ((i : Nat) : Int).natAbs.log2 ≤ ((i : Nat) : Int).natAbs := Nat.log2_le_self _
  omega
theorem imm_cht {j : Addr} {H H' : Hp} (e : ChT j H H') (hj : JugAt H j) : Imm H H' := ⟨fun b xs q => e b _ q (hj.neL q (fun _ z => by cases z)) (fun _ z => by cases z), fun b o u q => e b _ q (hj.neL q (fun _ z => by cases z)) (fun _ z => by cases z)⟩
theorem asc_ext : ∀ {a b : List Nat}, a.Pairwise (· < ·) → b.Pairwise (· < ·) → (∀ k, k ∈ a ↔ k ∈ b) → a = b
  | [], [], _, _, _ => rfl
  | [], y :: u, _, _, h => by have := (h y).mpr List.mem_cons_self; cases this
  | x :: t, [], _, _, h => by have := (h x).mp List.mem_cons_self; cases this
  | x :: t, y :: u, ha, hb, h => by
    obtain ⟨a1, a2⟩ := List.pairwise_cons.mp ha
    obtain ⟨b1, b2⟩ := List.pairwise_cons.mp hb
    have e : x = y := by
      rcases List.mem_cons.mp ((h x).mp List.mem_cons_self) with z | z
      · exact z
      · rcases List.mem_cons.mp ((h y).mpr List.mem_cons_self) with w | w
        · exact w.symm
        · have := a1 y w
          have := b1 x z
          omega
    subst e
    refine congrArg _ (asc_ext a2 b2 fun k => ⟨fun hk => ?_, fun hk => ?_⟩)
    · rcases List.mem_cons.mp ((h k).mp (List.mem_cons_of_mem _ hk)) with z | z
      · have := a1 k hk
        omega
      · exact z
    · rcases List.mem_cons.mp ((h k).mpr (List.mem_cons_of_mem _ hk)) with z | z
      · have := b1 k hk
        omega
      · exact z
theorem asc_last {es : List Nat} {m : Nat} (hp : es.Pairwise (· < ·)) (hm : es.getLast? = some m) : m ∈ es ∧ ∀ k ∈ es, k ≤ m := by
  obtain ⟨t, rfl⟩ := List.getLast?_eq_some_iff.mp hm
  refine ⟨by simp, fun k hk => ?_⟩
  rcases List.mem_append.mp hk with h | h
  · have := (List.pairwise_append.mp hp).2.2 k h m (by simp)
    omega
  · simp at h
    omega
theorem canon_fin {es : List Nat} {m : Nat} (hp : es.Pairwise (· < ·)) (hm : es.getLast? = some m) : Canon (fun k => decide (k ∈ es)) (m + 1) 1 ∧ belowL (fun k => decide (k ∈ es)) (m + 1) = es ∧ cycL (fun k => decide (k ∈ es)) (m + 1) 1 = [] := by
  obtain ⟨h1, h2⟩ := asc_last hp hm
  have no : ∀ n, m < n → decide (n ∈ es) = false := fun n hn => decide_eq_false fun z => by have := h2 n z; omega
  refine ⟨⟨by decide, fun n hn => ?_, fun s q h _ => h, fun s hs => ?_⟩, ?_, ?_⟩
  · show decide (n + 1 ∈ es) = decide (n ∈ es)
    rw [no _ (by omega), no _ (by omega)]
  · by_cases c : m + 1 ≤ s
    · exact c
    · have := hs m (by omega)
      have e : decide (m + 1 ∈ es) = decide (m ∈ es) := this
      rw [no _ (by omega), decide_eq_true h1] at e
      cases e
  · unfold belowL
    refine asc_ext (List.Pairwise.filter _ List.pairwise_lt_range) hp fun k => ?_
    rw [List.mem_filter, List.mem_range, decide_eq_true_iff]
    exact ⟨fun h => h.2, fun h => ⟨by have := h2 k h; omega, h⟩⟩
  · unfold cycL
    rw [List.filter_eq_nil_iff]
    intro n hn
    have := (List.mem_range'_1.mp hn).1
    rw [no n (by omega)]
    simp
theorem at_last {es : List Nat} {m : Nat} (hm : es.getLast? = some m) : atI (nI es) (-1) = some (V.int (m : Int)) := by
  obtain ⟨t, rfl⟩ := List.getLast?_eq_some_iff.mp hm
  have ln : (nI (t ++ [m])).length = t.length + 1 := by unfold nI; simp
  unfold atI ixN
  rw [if_neg (by decide), if_pos (by rw [ln]; omega), ln]
  show (nI (t ++ [m]))[((-1 : Int) + ((t.length + 1 : Nat) : Int)).toNat]? = _
  rw [show ((-1 : Int) + ((t.length + 1 : Nat) : Int)).toNat = t.length by omega]
  unfold nI
  rw [List.map_append, List.getElem?_append_right (by simp)]
  simp
theorem norm_no {st p : Nat} : setT (normW (fun _ => false) st p) = Str.ofString "none" := by
  have e : normW (fun _ => false) st p = [] := by
    unfold normW belowL cycL
    simp
  rw [e]
  rfl
section
variable {P : Program} {w : World} {K : PySem.W.Frag} {mg : Str → Option Value} {base : Heap} {C CN CI c Pt Pu : Addr}
theorem nr7 (T : Txt K mg C CN CI) (G_of_numbers : PrX P w K mg base "of_numbers" s_of_numbers 7 ["numbers"] (r_of_numbers K C CI)) (G__law_is_whole : Pr P w K mg base "_law_is_whole" s_law_is_whole 1 ["_law_value", "_law_low", "_law_high"] (q_is_whole K)) (ne : Pt ≠ Pu) (TB : TabB base mg c Pu) {A : Around} {outer : List Env} {s : Shared} {H0 : Hp} {E : XK} {f : Addr} (hr : Room 10 (A.deeper (PyProof.Rows.envOfC "_law_numbers_right" (defScope s_law_numbers_right) s.heap.objs.size f (.ref c)))) (hgd : (A.deeper (PyProof.Rows.envOfC "_law_numbers_right" (defScope s_law_numbers_right) s.heap.objs.size f (.ref c))).guards = some []) : ∃ t, PSs (cxOf CX0 P w K mg base N_law_numbers_right "_law_numbers_right" (defScope s_law_numbers_right) f (.ref c) A outer s H0 E).nox ((defBody s_law_numbers_right).drop 7) t ∧ ∀ (Q : VK) (H : Hp) (j : Addr) (bv : V) (a1 a2 a3 a4 a5 a7 a8 a9 a10 a11 : Option V), JugAt H j → Tb H Pt Pu → Bent K j H bv → (∀ H', ChT j H H' → Tb H' Pt Pu → Q (.bl true) H') → t { nx := fun _ H' => Q .non H', rt := Q } [some (.ref j), a1, a2, a3, a4, a5, some bv, a7, a8, a9, a10, a11] H := by
  have hu := hu_of hr
  refine ⟨_, (pss_cons (ps_set (i := 7) sc_law_numbers_right.nd rfl (Or.inl rfl) (tell (k := 8) T TB rfl rfl hmN (huN ne) hgd (by have h := hr.un; show (Around.deeper A _).units + 80 < cLine; omega) (hr.mono (by decide)) (fun A2 o2 s2 H2 E2 f2 c2 hr2 => (pe_fldK (K := K) rfl (pcallX E2 G_of_numbers (hr2.mono (by decide)) (passes_call (takes_of rfl rfl rfl rfl) (fun _ _ _ _ h => h)) (pa_cons (pv 6) pa_nil)) rfl)) (LamX.lamS_by (sc := defScope s_law_numbers_right) (by decide +kernel))))
      (pss_cons (ps_if (pt_not (pt_val (pe_callB call_isi (by rfl) T.b_isinstance (by decide +kernel) (pa_cons (pv 6) (pa_cons (pe_bty "tuple" (by rfl) T.b_tuple (by decide +kernel)) pa_nil))))) (pss_one (ps_ret (pe_cmpR (op_eqDK (K := K) rfl (show (Around.deeper A _).units + 64 < cLine from hr.units)) (pv 7) (pe_lst (pa_cons pe_str (pa_cons pe_str pa_nil))) (nomark _)))) pss_nil)
      (pss_cons (ps_setLc (i := 8) (own := [("_law_k", 11)]) (g := gName 11) rfl sc_law_numbers_right.nd rfl rfl (sw_true rfl rfl rfl (by decide +kernel)) (pi_range1 rfl T.b_range (pa_cons (pe_callB call_len_seq (by rfl) T.b_len (by decide +kernel) (pa_cons (pv 6) pa_nil)) pa_nil)) (blkOk_by (own := [("_law_k", 11)]) (N := N_law_numbers_right) (sc := defScope s_law_numbers_right) (by decide +kernel)) (fun _ _ _ _ _ => (pg_name (i := 11) sc_law_numbers_right.nd rfl (Or.inl rfl))) (fun _ _ _ _ _ => (pts_one (pt_not (pt_val (pcall G__law_is_whole (hr.mono (by decide)) (pa_cons (pe_ix (ix_tupK (K := K) rfl) (pv 6) (pv 11) (fun _ _ => rfl)) (pa_cons pe_int (pa_cons pe_int pa_nil)))))))) (fun _ _ _ _ _ => (pv 11)))
      (pss_one (ps_ret (pe_ifExp (pt_cmpR (op_neDK (K := K) rfl (show (Around.deeper A _).units + 64 < cLine from hr.units)) (pv 8) (pe_lst pa_nil) (nomark _)) (pe_cmpR (op_eqDK (K := K) rfl (show (Around.deeper A _).units + 64 < cLine from hr.units)) (pv 7) (pe_lst (pa_cons pe_str (pa_cons (pe_callTy call_str_int (by rfl) T.b_str (by decide +kernel) (pa_cons (pe_ix (ix_listK (K := K) rfl) (pv 8) pe_int (fun _ _ => rfl)) pa_nil)) pa_nil))) (nomark _)) (pe_cmpR op_eq (pe_ix (ix_listK (K := K) rfl) (pv 7) pe_int (fun _ _ => rfl)) pe_str (nomark _)))))))), ?_⟩
  intro Q H j bv a1 a2 a3 a4 a5 a7 a8 a9 a10 a11 hj hT hB k
  refine ⟨Tb.all hT, fun HX xX tX => ?_⟩
  have cX : ChT j H HX := ChT.ext xX
  have tX := Tb.of tX
  have okN : PyData.strOk (Str.ofString "numbers") = true := by decide +kernel
  have okO : PyData.strOk (Str.ofString "None") = true := by decide +kernel
  rcases hB with hB | ⟨a, xs, rfl, hlen, hB⟩
  · refine ⟨_, rfl, bv, rfl, .inr ⟨hB HX cX, bad_idx (d := .none) (fun _ => .of .non rfl) (by decide +kernel) fun H3 q s' e => ?_⟩⟩
    have cH := cX.trans (ChT.of (Chg.of s'))
    have eN : PyData.none.shown = Str.ofString "None" := by decide +kernel
    rw [eN] at e
    have nt := hB H3 cH
    rcases nt with ⟨z, rfl⟩ | ⟨z, rfl⟩ | rfl | ⟨z, rfl⟩ | ⟨b, ys, rfl, hs⟩ | ⟨b, ys, rfl, hs⟩
    · exact ⟨_, rfl, _, _, _, _, _, rfl, .ty _, .base (.int z), kit_ty (r := false) (by decide +kernel), _, rfl, iteT ⟨_, rfl, by show 2 ≤ sizeLine; exact sl_le (by decide), fun r9 hr9 => ⟨.list [.str (Str.ofString "numbers"), .str (Str.ofString "None")], .list [.str (Str.ofString "numbers"), .str (Str.ofString "None")], .lst (.inl (.inl (same_new hr9 _ _ e))) (.cons (.str _) (.cons (.str _) .nil)), .lst (.inl (.inl upd_same)) (.cons (.str _) (.cons (.str _) .nil)), shaped_two okN okO, shaped_two okN okO, (by rw [eqv_wt]; exact k _ (cH.trans (ChT.of (Chg.of (same_new hr9)))) (Tb.same (s'.trans (same_new hr9)) tX))⟩⟩⟩
    · exact ⟨_, rfl, _, _, _, _, _, rfl, .ty _, .base (.bl z), kit_ty (r := false) (by decide +kernel), _, rfl, iteT ⟨_, rfl, by show 2 ≤ sizeLine; exact sl_le (by decide), fun r9 hr9 => ⟨.list [.str (Str.ofString "numbers"), .str (Str.ofString "None")], .list [.str (Str.ofString "numbers"), .str (Str.ofString "None")], .lst (.inl (.inl (same_new hr9 _ _ e))) (.cons (.str _) (.cons (.str _) .nil)), .lst (.inl (.inl upd_same)) (.cons (.str _) (.cons (.str _) .nil)), shaped_two okN okO, shaped_two okN okO, (by rw [eqv_wt]; exact k _ (cH.trans (ChT.of (Chg.of (same_new hr9)))) (Tb.same (s'.trans (same_new hr9)) tX))⟩⟩⟩
    · exact ⟨_, rfl, _, _, _, _, _, rfl, .ty _, .base (.non), kit_ty (r := false) (by decide +kernel), _, rfl, iteT ⟨_, rfl, by show 2 ≤ sizeLine; exact sl_le (by decide), fun r9 hr9 => ⟨.list [.str (Str.ofString "numbers"), .str (Str.ofString "None")], .list [.str (Str.ofString "numbers"), .str (Str.ofString "None")], .lst (.inl (.inl (same_new hr9 _ _ e))) (.cons (.str _) (.cons (.str _) .nil)), .lst (.inl (.inl upd_same)) (.cons (.str _) (.cons (.str _) .nil)), shaped_two okN okO, shaped_two okN okO, (by rw [eqv_wt]; exact k _ (cH.trans (ChT.of (Chg.of (same_new hr9)))) (Tb.same (s'.trans (same_new hr9)) tX))⟩⟩⟩
    · exact ⟨_, rfl, _, _, _, _, _, rfl, .ty _, .base (.str z), kit_ty (r := false) (by decide +kernel), _, rfl, iteT ⟨_, rfl, by show 2 ≤ sizeLine; exact sl_le (by decide), fun r9 hr9 => ⟨.list [.str (Str.ofString "numbers"), .str (Str.ofString "None")], .list [.str (Str.ofString "numbers"), .str (Str.ofString "None")], .lst (.inl (.inl (same_new hr9 _ _ e))) (.cons (.str _) (.cons (.str _) .nil)), .lst (.inl (.inl upd_same)) (.cons (.str _) (.cons (.str _) .nil)), shaped_two okN okO, shaped_two okN okO, (by rw [eqv_wt]; exact k _ (cH.trans (ChT.of (Chg.of (same_new hr9)))) (Tb.same (s'.trans (same_new hr9)) tX))⟩⟩⟩
    · exact ⟨_, rfl, _, _, _, _, _, rfl, .ty _, .base (.lst hs), kit_ty (r := false) (by decide +kernel), _, rfl, iteT ⟨_, rfl, by show 2 ≤ sizeLine; exact sl_le (by decide), fun r9 hr9 => ⟨.list [.str (Str.ofString "numbers"), .str (Str.ofString "None")], .list [.str (Str.ofString "numbers"), .str (Str.ofString "None")], .lst (.inl (.inl (same_new hr9 _ _ e))) (.cons (.str _) (.cons (.str _) .nil)), .lst (.inl (.inl upd_same)) (.cons (.str _) (.cons (.str _) .nil)), shaped_two okN okO, shaped_two okN okO, (by rw [eqv_wt]; exact k _ (cH.trans (ChT.of (Chg.of (same_new hr9)))) (Tb.same (s'.trans (same_new hr9)) tX))⟩⟩⟩
    · exact ⟨_, rfl, _, _, _, _, _, rfl, .ty _, .base (.dK hs), kit_ty (r := false) (by decide +kernel), _, rfl, iteT ⟨_, rfl, by show 2 ≤ sizeLine; exact sl_le (by decide), fun r9 hr9 => ⟨.list [.str (Str.ofString "numbers"), .str (Str.ofString "None")], .list [.str (Str.ofString "numbers"), .str (Str.ofString "None")], .lst (.inl (.inl (same_new hr9 _ _ e))) (.cons (.str _) (.cons (.str _) .nil)), .lst (.inl (.inl upd_same)) (.cons (.str _) (.cons (.str _) .nil)), shaped_two okN okO, shaped_two okN okO, (by rw [eqv_wt]; exact k _ (cH.trans (ChT.of (Chg.of (same_new hr9)))) (Tb.same (s'.trans (same_new hr9)) tX))⟩⟩⟩
  · obtain ⟨sq, cl⟩ := hB HX cX
    rcases first_bad xs cl with ⟨i, fb⟩ | ⟨ns, e0, hns⟩
    · obtain ⟨⟨y0, ey0, oy0⟩, lo⟩ := id fb
      have il : i < xs.length := (List.getElem?_eq_some_iff.mp ey0).1
      refine ⟨_, rfl, .ref a, rfl, .inl ⟨a, xs, rfl, sq, hlen, .inl ⟨i, fb, bad_idx (d := .int (i : Int)) (fun _ => .of (.int _) rfl) (odd_num i (by omega)) fun H3 q s' e => ?_⟩⟩⟩
      have cH := cX.trans (ChT.of (Chg.of s'))
      obtain ⟨sq3, cl3⟩ := hB H3 cH
      refine ⟨_, rfl, _, _, _, _, _, rfl, .ty _, SqT.ty sq3, kit_ty (r := true) (by decide +kernel), _, rfl, iteF ?_⟩
      try unfold tNext
      try unfold tSeq
      try unfold tAsg
      try unfold gName
      try dsimp only
      refine lcR1 xs.length (wrongF xs) (fun (k : Nat) => V.int (k : Int)) (by omega) (fun R r => ⟨_, rfl, a, xs, rfl, .inr sq3, r⟩) (fun n H4 R1 R2 hn sm r1 r2 => ⟨rfl, ?_⟩) (fun H4 D4 s4 hD4 hk4 => ?_)
      · have g1 : xs[n]? = some (xs[n]'hn) := List.getElem?_eq_getElem _
        refine ⟨_, rfl, _, rfl, a, xs, (n : Int), xs[n]'hn, rfl, rfl, SqT.imm (.of sm) sq3, at_nat g1, xs[n]'hn, 0, 599, rfl, ?_⟩
        by_cases hin : In (xs[n]'hn) 0 599
        · exact .inl ⟨hin, true, rfl, ifF rfl (r1 H4 (fun _ _ h => h) (wrong_no g1 hin))⟩
        · exact .inr ⟨out_of hin ((hB H4 (cH.trans (ChT.of (Chg.of sm)))).2 _ (List.getElem_mem _)), false, rfl, ifT rfl ⟨_, rfl, r2 H4 (fun _ _ h => h) (wrong_yes g1 hin)⟩⟩
      have hk4' : H4 D4 = some (.lst (nI ((List.range xs.length).filter (wrongF xs)))) := hk4
      refine ⟨_, rfl, Nat.zero_le _, fun E5 hE5 => ?_⟩
      have s5 := same_new (o := .lst []) hE5
      refine ⟨.list (nD2 ((List.range xs.length).filter (wrongF xs))), .list [], .lst (.inl (.inl (s5 _ _ hk4'))) (dp_nI _), .lst (.inl (.inl upd_same)) .nil, shape_nL _, shape_nL [], ?_⟩
      rw [eqv_nilL]
      obtain ⟨rest, hrest⟩ := filt_first (c := wrongF xs) il (wrong_yes ey0 fun z => in_out z oy0) (fun m hm => by
        have g1 : xs[m]? = some (xs[m]'(by omega)) := List.getElem?_eq_getElem _
        exact wrong_no g1 (lo m _ hm g1))
      rw [hrest] at hk4' ⊢
      refine ⟨_, rfl, ifT (by simp) ?_⟩
      refine ⟨_, rfl, _, rfl, D4, _, 0, V.int (i : Int), rfl, rfl, .inl (.inl (s5 _ _ hk4')), at_first, (i : Int), rfl, num_log100 (by omega), by show 2 ≤ sizeLine; exact sl_le (by decide), fun r9 hr9 => ?_⟩
      have s6 := same_new (o := .lst [V.str (Str.ofString "numbers"), V.str (Str.ofString (toString (i : Int)))]) hr9
      have okI := odd_num i (by omega)
      unfold OddOk at okI
      simp only [Bool.and_eq_true, decide_eq_true_eq] at okI
      refine ⟨.list [.str (Str.ofString "numbers"), .str (PyData.int (i : Int)).shown], .list [.str (Str.ofString "numbers"), .str (PyData.int (i : Int)).shown], .lst (.inl (.inl (s6 _ _ (s5 _ _ (s4 _ _ e))))) (.cons (.str _) (.cons (.str _) .nil)), .lst (.inl (.inl upd_same)) (.cons (.str _) (.cons (.str _) .nil)), shaped_two okN okI.1.1.1, shaped_two okN okI.1.1.1, ?_⟩
      rw [eqv_wt]
      exact k _ (cH.trans (ChT.of (Chg.of ((s4.trans s5).trans s6)))) (Tb.same (s'.trans ((s4.trans s5).trans s6)) tX)
    · refine ⟨_, rfl, .ref a, rfl, .inl ⟨a, xs, rfl, sq, hlen, .inr ⟨ns, e0, hns, fun H2' x s2 Lx => ?_⟩⟩⟩
      obtain ⟨dx, r, bt, ct, st, p, b, S⟩ := Lx
      have F : Fit (.str (setT (normW (fun k => decide (k ∈ ns)) st p))) 60000 1 := fit_set S.sm.1 S.sm.2 _ List.mem_cons_self
      refine ⟨x, C, dx, _, _, rfl, S.ob, T.cl, T.n_text, rfl, _, rfl, Tells.intro (.of (.str _) rfl) F.ok (Nat.le_trans F.dep (by decide)) (Nat.le_trans F.len (sl_le (by decide))) fun q hq => ?_⟩
      have s3 := same_new (o := .lst [V.str (Str.ofString "right"), .str (PyData.str (setT (normW (fun k => decide (k ∈ ns)) st p))).shown]) hq
      have s' := s2.trans s3
      have cH := cX.trans (ChT.of (Chg.of s'))
      obtain ⟨sq3, cl3⟩ := hB _ cH
      refine ⟨_, rfl, _, _, _, _, _, rfl, .ty _, SqT.ty sq3, kit_ty (r := true) (by decide +kernel), _, rfl, iteF ?_⟩
      try unfold tNext
      try unfold tSeq
      try unfold tAsg
      try unfold gName
      try dsimp only
      refine lcR1 xs.length (wrongF xs) (fun (k : Nat) => V.int (k : Int)) (by omega) (fun R r => ⟨_, rfl, a, xs, rfl, .inr sq3, r⟩) (fun n H4 R1 R2 hn sm r1 r2 => ⟨rfl, ?_⟩) (fun H4 D4 s4 hD4 hk4 => ?_)
      · have g1 : xs[n]? = some (xs[n]'hn) := List.getElem?_eq_getElem _
        refine ⟨_, rfl, _, rfl, a, xs, (n : Int), xs[n]'hn, rfl, rfl, SqT.imm (.of sm) sq3, at_nat g1, xs[n]'hn, 0, 599, rfl, ?_⟩
        by_cases hin : In (xs[n]'hn) 0 599
        · exact .inl ⟨hin, true, rfl, ifF rfl (r1 H4 (fun _ _ h => h) (wrong_no g1 hin))⟩
        · exact .inr ⟨out_of hin ((hB H4 (cH.trans (ChT.of (Chg.of sm)))).2 _ (List.getElem_mem _)), false, rfl, ifT rfl ⟨_, rfl, r2 H4 (fun _ _ h => h) (wrong_yes g1 hin)⟩⟩
      have hk4' : H4 D4 = some (.lst (nI ((List.range xs.length).filter (wrongF xs)))) := hk4
      refine ⟨_, rfl, Nat.zero_le _, fun E5 hE5 => ?_⟩
      have s5 := same_new (o := .lst []) hE5
      refine ⟨.list (nD2 ((List.range xs.length).filter (wrongF xs))), .list [], .lst (.inl (.inl (s5 _ _ hk4'))) (dp_nI _), .lst (.inl (.inl upd_same)) .nil, shape_nL _, shape_nL [], ?_⟩
      rw [eqv_nilL]
      have hno : (List.range xs.length).filter (wrongF xs) = [] := List.filter_eq_nil_iff.mpr fun m hm => by
        have hm2 := List.mem_range.mp hm
        obtain ⟨y, gy⟩ : ∃ y, xs[m]? = some y := ⟨_, List.getElem?_eq_getElem hm2⟩
        have g2 := gy
        rw [e0] at g2
        unfold nI at g2
        obtain ⟨n, hn, en⟩ := map_at g2
        have := hns n (List.mem_of_getElem? hn)
        rw [wrong_no gy ⟨_, en, by omega, by omega⟩]
        simp
      rw [hno]
      refine ⟨_, rfl, ifF rfl ?_⟩
      refine ⟨_, rfl, q, _, 0, _, rfl, rfl, .inl (.inl (s5 _ _ (s4 _ _ upd_same))), at_first, rfl, ?_⟩
      rw [decide_eq_true rfl]
      exact k _ (cH.trans (ChT.of (Chg.of (s4.trans s5)))) (Tb.same (s'.trans (s4.trans s5)) tX)
end
end K1
namespace K1
open PySem PySem.Spec L2 Z K2 LamX
section
variable {P : Program} {w : World} {K : PySem.W.Frag} {mg : Str → Option Value} {base : Heap} {C CN CI c Pt Pu : Addr}
theorem nr6 (T : Txt K mg C CN CI) (G__law_one_of : Pr P w K mg base "_law_one_of" s_law_one_of 2 ["_law_jug_here", "_law_some"] (sp_law_one_of K)) (G__law_odd : Pr P w K mg base "_law_odd" s_law_odd 3 ["_law_jug_here"] (q_odd3 K)) (G__law_spot_changed : Pr P w K mg base "_law_spot_changed" s_law_spot_changed 2 ["_law_jug_here", "_law_row", "_law_thing"] (r_spot K)) (G_of_numbers : PrX P w K mg base "of_numbers" s_of_numbers 7 ["numbers"] (r_of_numbers K C CI)) (G__law_is_whole : Pr P w K mg base "_law_is_whole" s_law_is_whole 1 ["_law_value", "_law_low", "_law_high"] (q_is_whole K)) (ne : Pt ≠ Pu) (TB : TabB base mg c Pu) {A : Around} {outer : List Env} {s : Shared} {H0 : Hp} {E : XK} {f : Addr} (hr : Room 10 (A.deeper (PyProof.Rows.envOfC "_law_numbers_right" (defScope s_law_numbers_right) s.heap.objs.size f (.ref c)))) (hgd : (A.deeper (PyProof.Rows.envOfC "_law_numbers_right" (defScope s_law_numbers_right) s.heap.objs.size f (.ref c))).guards = some []) : ∃ t, PSs (cxOf CX0 P w K mg base N_law_numbers_right "_law_numbers_right" (defScope s_law_numbers_right) f (.ref c) A outer s H0 E).nox ((defBody s_law_numbers_right).drop 6) t ∧ ∀ (Q : VK) (H : Hp) (j tt : Addr) (a2 a3 a4 a5 a6 a7 a8 a9 a10 a11 : Option V), JugAt H j → Tb H Pt Pu → (∃ ns : List Nat, SqT K H tt (nI ns) ∧ ns.length ≤ 5) → (∀ H', ChT j H H' → Tb H' Pt Pu → Q (.bl true) H') → t { nx := fun _ H' => Q .non H', rt := Q } [some (.ref j), some (.ref tt), a2, a3, a4, a5, a6, a7, a8, a9, a10, a11] H := by
  have hu := hu_of hr
  obtain ⟨tl, htl, go⟩ := nr7 T G_of_numbers G__law_is_whole ne TB hr hgd (outer := outer) (H0 := H0) (E := E)
  refine ⟨_, (pss_cons (ps_set (i := 6) sc_law_numbers_right.nd rfl (Or.inr rfl) (pcall G__law_one_of (hr.mono (by decide)) (pa_cons (pv 0) (pa_cons (pe_lst (pa_cons (pcall G__law_odd (hr.mono (by decide)) (pa_cons (pv 0) pa_nil)) (pa_cons (pcall G__law_spot_changed (hr.mono (by decide)) (pa_cons (pv 0) (pa_cons (pv 1) (pa_cons (pcall G__law_one_of (hr.mono (by decide)) (pa_cons (pv 0) (pa_cons (pe_lst (pa_cons (pcall G__law_odd (hr.mono (by decide)) (pa_cons (pv 0) pa_nil)) (pa_cons pe_int (pa_cons pe_int (pa_cons (pe_un un_neg pe_int) pa_nil))))) pa_nil))) pa_nil)))) (pa_cons (pe_callTy call_list_of (by rfl) T.b_list (by decide +kernel) (pa_cons (pv 1) pa_nil)) pa_nil)))) pa_nil))))
      htl), ?_⟩
  intro Q H j tt a2 a3 a4 a5 a6 a7 a8 a9 a10 a11 hj hT hns k
  obtain ⟨ns, hs, hn5⟩ := hns
  refine ⟨_, rfl, _, rfl, j, rfl, hj, fun H1 v1 c1 j1 cl1 b1 => ?_⟩
  refine ⟨_, rfl, _, rfl, _, rfl, _, rfl, j, rfl, j1, fun H2 v2 c2 j2 cl2 b2 => ?_⟩
  refine ⟨_, rfl, by show 4 ≤ sizeLine; exact sl_le (by decide), fun l4 hl4 => ?_⟩
  have n4 := j2.ne hl4
  have s4 := same_new (o := .lst [v2, .int 600, .int 599, .int (-1)]) hl4
  refine ⟨j, l4, [v2, .int 600, .int 599, .int (-1)], rfl, jug_upd n4 j2, n4, .inl (.inl upd_same), by simp, by simp, fun H3 v3 c3 j3 hv3 => ?_⟩
  have c13 := (c2.trans (Chg.of s4)).trans c3
  have clv : ∀ H9, ChT j H3 H9 → Cl K H9 v3 := fun H9 c9 => by
    simp only [List.mem_cons, List.not_mem_nil, or_false] at hv3
    rcases hv3 with rfl | rfl | rfl | rfl
    · exact cl2 H9 ((ChT.of ((Chg.of s4).trans c3)).trans c9)
    · exact .inl ⟨_, rfl⟩
    · exact .inl ⟨_, rfl⟩
    · exact .inl ⟨_, rfl⟩
  have c03 := c1.trans c13
  have hs3 : SqT K H3 tt (nI ns) := SqT.imm (chg_imm c03 hj) hs
  have ln : (nI ns).length = ns.length := by unfold nI; exact List.length_map ..
  refine ⟨j, tt, nI ns, v3, rfl, j3, hs3, by omega, fun H4 t4 ys c4 j4 hys sub len => ?_⟩
  have hs4 : SqT K H4 tt (nI ns) := SqT.imm (chg_imm c4 j3) hs3
  refine ⟨_, rfl, tt, nI ns, rfl, .inr hs4, fun l5 hl5 => ?_⟩
  have s5 := same_new (o := .lst (nI ns)) hl5
  have n5 := j4.ne hl5
  have e5 : upd H4 l5 (.lst (nI ns)) l5 = some (.lst (nI ns)) := upd_same
  generalize upd H4 l5 (.lst (nI ns)) = H5 at s5 e5 ⊢
  have j5 := jugS s5 j4
  refine ⟨by show 3 ≤ sizeLine; exact sl_le (by decide), fun l6 hl6 => ?_⟩
  have n6 := j5.ne hl6
  have s6 := same_new (o := .lst [v1, .ref t4, .ref l5]) hl6
  refine ⟨j, l6, [v1, .ref t4, .ref l5], rfl, jug_upd n6 j5, n6, .inl (.inl upd_same), by simp, by simp, fun H7 v7 c7 j7 hv7 => ?_⟩
  have c57 := (Chg.of (j := j) s6).trans c7
  have c47 := (Chg.of (j := j) s5).trans c57
  have c17 := (c13.trans c4).trans c47
  have c07 := c1.trans c17
  have bent : Bent K j H7 v7 := by
    simp only [List.mem_cons, List.not_mem_nil, or_false] at hv7
    rcases hv7 with rfl | rfl | rfl
    · exact b1.cht (ChT.of c17)
    · refine .inr ⟨t4, ys, rfl, by omega, fun H9 c9 => ⟨SqT.imm (imm_cht ((ChT.of c47).trans c9) j4) hys, fun y hy => ?_⟩⟩
      rcases sub y hy with h | rfl
      · unfold nI at h
        obtain ⟨n, _, rfl⟩ := List.mem_map.mp h
        exact .inl ⟨_, rfl⟩
      · exact clv H9 ((ChT.of (c4.trans c47)).trans c9)
    · exact .inl fun H9 c9 => .inr (.inr (.inr (.inr (.inl ⟨l5, _, rfl, c9 _ _ (c57 _ _ e5 n5) n5 (fun _ z => by cases z)⟩))))
  exact go Q _ j v7 _ _ _ _ _ _ _ _ _ _ j7 (hT.chg c07 hj) bent (fun H9 c9 t9 => k H9 ((ChT.of c07).trans c9) t9)
end
end K1
namespace K1
open PySem PySem.Spec L2 Z K2 LamX
section
variable {P : Program} {w : World} {K : PySem.W.Frag} {mg : Str → Option Value} {base : Heap} {C CN CI c Pt Pu : Addr}
theorem nr4 (T : Txt K mg C CN CI) (G_of_numbers : PrX P w K mg base "of_numbers" s_of_numbers 7 ["numbers"] (r_of_numbers K C CI)) (G__law_one_of : Pr P w K mg base "_law_one_of" s_law_one_of 2 ["_law_jug_here", "_law_some"] (sp_law_one_of K)) (G__law_odd : Pr P w K mg base "_law_odd" s_law_odd 3 ["_law_jug_here"] (q_odd3 K)) (G__law_spot_changed : Pr P w K mg base "_law_spot_changed" s_law_spot_changed 2 ["_law_jug_here", "_law_row", "_law_thing"] (r_spot K)) (G__law_is_whole : Pr P w K mg base "_law_is_whole" s_law_is_whole 1 ["_law_value", "_law_low", "_law_high"] (q_is_whole K)) (G_eq : PrE P w K mg base C "Lengths.__eq__" s_eq 1 (sp2_eq K C)) (ne : Pt ≠ Pu) (TB : TabB base mg c Pu) {A : Around} {outer : List Env} {s : Shared} {H0 : Hp} {E : XK} {f : Addr} (hr : Room 10 (A.deeper (PyProof.Rows.envOfC "_law_numbers_right" (defScope s_law_numbers_right) s.heap.objs.size f (.ref c)))) (hgd : (A.deeper (PyProof.Rows.envOfC "_law_numbers_right" (defScope s_law_numbers_right) s.heap.objs.size f (.ref c))).guards = some []) : ∃ t, PSs (cxOf CX0 P w K mg base N_law_numbers_right "_law_numbers_right" (defScope s_law_numbers_right) f (.ref c) A outer s H0 E).nox ((defBody s_law_numbers_right).drop 4) t ∧ ∀ (Q : VK) (H : Hp) (j tt x dd : Addr) (ns es : List Nat) (sN : Nat) (txt : Str) (a6 a7 a8 a9 a10 a11 : Option V), JugAt H j → Tb H Pt Pu → SqT K H tt (nI ns) → ns.length ≤ 5 → (∀ n ∈ ns, n ≤ 599) → LSt K C H x (fun k => decide (k ∈ ns)) → H dd = some (.lst (nI es)) → ((es = [] ∧ ∀ st p, Canon (fun k => decide (k ∈ ns)) st p → setT (normW (fun k => decide (k ∈ ns)) st p) = Str.ofString "none") ∨ (es ≠ [] ∧ Canon (fun k => decide (k ∈ ns)) sN 1 ∧ belowL (fun k => decide (k ∈ ns)) sN = es ∧ cycL (fun k => decide (k ∈ ns)) sN 1 = [] ∧ txt = setT (normW (fun k => decide (k ∈ ns)) sN 1))) → (∀ H', ChT j H H' → Tb H' Pt Pu → Q (.bl true) H') → t { nx := fun _ H' => Q .non H', rt := Q } [some (.ref j), some (.ref tt), some (.ref x), some (.ref dd), some (.int (sN : Int)), some (.str txt), a6, a7, a8, a9, a10, a11] H := by
  have hu := hu_of hr
  obtain ⟨tl, htl, go⟩ := nr6 T G__law_one_of G__law_odd G__law_spot_changed G_of_numbers G__law_is_whole ne TB hr hgd (outer := outer) (H0 := H0) (E := E)
  refine ⟨_, (pss_cons (ps_if (PW.pt (pw_and (pt_cmpR (op_neDK (K := K) rfl (show (Around.deeper A _).units + 64 < cLine from hr.units)) (pv 3) (pe_lst pa_nil) (nomark _)) (pw_and1 (pt_cmpR op_ne (pe_callB (call_show hgd hr.units) (by rfl) T.b_repr (by decide +kernel) (pa_cons (pe_lst (pa_cons (pe_fld (pv 2) rfl) (pa_cons (pe_fld (pv 2) rfl) (pa_cons (pe_fld (pv 2) rfl) (pa_cons (pe_fld (pv 2) rfl) (pa_cons (pe_fld (pv 2) rfl) pa_nil)))))) pa_nil)) (pe_callB (call_show hgd hr.units) (by rfl) T.b_repr (by decide +kernel) (pa_cons (pe_lst (pa_cons (pe_callTy call_tupP (by rfl) T.b_tuple (by decide +kernel) (pa_cons (pv 3) pa_nil)) (pa_cons (pe_tupP pa_nil) (pa_cons (pv 4) (pa_cons pe_int (pa_cons (pv 5) pa_nil)))))) pa_nil)) (nomark _))))) (pss_one (ps_ret pe_bl)) pss_nil)
      (pss_cons (ps_if (PW.pt (pw_or (PW.pt (pw_and (pt_cmpR (op_eqDK (K := K) rfl (show (Around.deeper A _).units + 64 < cLine from hr.units)) (pv 3) (pe_lst pa_nil) (nomark _)) (pw_and1 (pt_cmpR op_ne (pe_fld (pv 2) rfl) pe_str (nomark _))))) (pw_or1 (pt_cmpR (pOwnNe G_eq (hr.mono (by decide))) (pcallXN0 E0 G_of_numbers (hr.mono (by decide)) passL kb_of_numbers (pk_cons (pe_op op_catP (pv 1) (pv 1)) pk_nil)) (pv 2) (nomark _))))) (pss_one (ps_ret pe_bl)) pss_nil)
      htl)), ?_⟩
  intro Q H j tt x dd ns es sN txt a6 a7 a8 a9 a10 a11 hj hT hs hl hns L hd hE k
  have ln : (nI ns).length = ns.length := by unfold nI; exact List.length_map ..
  obtain ⟨dx, r, bt, ct, st, p, b, S⟩ := id L
  refine ⟨_, rfl, Nat.zero_le _, fun E1 hE1 => ?_⟩
  have s1 := same_new (o := .lst []) hE1
  refine ⟨.list (nD2 es), .list [], .lst (.inl (.inl (s1 _ _ hd))) (dp_nI _), .lst (.inl (.inl upd_same)) .nil, shape_nL _, shape_nL [], ?_⟩
  rw [eqv_nilL]
  generalize upd H E1 (.lst []) = H1 at s1 ⊢
  refine ⟨_, rfl, ?_⟩
  rcases hE with ⟨rfl, hno⟩ | ⟨hne, can, hbe, hcy, htx⟩
  case' inl =>
    refine ifF rfl ?_
    refine ifF rfl ?_
    refine ⟨_, rfl, Nat.zero_le _, fun E2 hE2 => ?_⟩
    have s2 := s1.trans (same_new (o := .lst []) hE2)
    refine ⟨.list (nD2 []), .list [], .lst (.inl (.inl (s2 _ _ hd))) (dp_nI _), .lst (.inl (.inl upd_same)) .nil, shape_nL _, shape_nL [], ?_⟩
    rw [eqv_nilL]
    generalize upd H1 E2 (.lst []) = H2 at s2 ⊢
    refine ⟨_, rfl, ifT rfl ?_⟩
    refine ⟨_, rfl, x, C, dx, _, _, rfl, s2 _ _ S.ob, T.cl, T.n_text, rfl, rfl, ?_⟩
    rw [hno st p S.rnd.can, bl_ne]
    refine ⟨_, rfl, ?_⟩
    refine ifF rfl ?_
  case' inr =>
    refine ifT (by rw [decide_eq_false hne]; rfl) ?_
    obtain ⟨e1, e2⟩ := can.uniq S.rnd.can
    subst e1
    subst e2
    have ob := s1 _ _ S.ob
    have be1 := SqT.imm (.of s1) S.be
    have cy1 := SqT.imm (.of s1) S.cy
    have fs := fit_set (f := fun k => decide (k ∈ ns)) S.sm.1 S.sm.2
    have fits : ∀ d ∈ ([.tuple (nD2 es), .tuple (nD2 []), .int (sN : Int), .int ((1 : Nat) : Int), .str txt] : List PyData), Fit d 60000 1 := fun d hd => by
      refine fs d ?_
      unfold setD
      rw [hbe, hcy, ← htx]
      simp only [List.mem_cons, List.not_mem_nil, or_false] at hd ⊢
      rcases hd with rfl | rfl | rfl | rfl | rfl <;> simp
    refine ⟨_, rfl, x, C, dx, _, _, rfl, ob, T.cl, T.n_below, rfl, _, rfl, x, C, dx, _, _, rfl, ob, T.cl, T.n_cycle, rfl, _, rfl, x, C, dx, _, _, rfl, ob, T.cl, T.n_start, rfl, _, rfl, x, C, dx, _, _, rfl, ob, T.cl, T.n_step, rfl, _, rfl, x, C, dx, _, _, rfl, ob, T.cl, T.n_text, rfl, by show 5 ≤ sizeLine; exact sl_le (by decide), fun z hz => ?_⟩
    rw [hbe] at be1
    rw [hcy] at cy1
    have s2 := same_new (o := .lst [V.ref bt, V.ref ct, V.int (sN : Int), V.int ((1 : Nat) : Int), V.str (setT (normW (fun k => decide (k ∈ ns)) sN 1))]) hz
    obtain ⟨r1, r2, r3, r4, r5⟩ := repr_ok (K := K) (H := upd H1 z (.lst [V.ref bt, V.ref ct, V.int (sN : Int), V.int ((1 : Nat) : Int), V.str (setT (normW (fun k => decide (k ∈ ns)) sN 1))])) (a := z) (ds := [.tuple (nD2 es), .tuple (nD2 []), .int (sN : Int), .int ((1 : Nat) : Int), .str txt]) (.inl (.inl upd_same)) (.cons (.tup (SqT.imm (.of s2) be1) (dp_nI _)) (.cons (.tup (SqT.imm (.of s2) cy1) (dp_nI _)) (.cons (.int _) (.cons (.int _) (.cons (htx ▸ .str _) .nil))))) fits (by show (60000 + 2) * 5 + 3 ≤ 16000000; decide) (by decide)
    refine ⟨_, _, rfl, .of r1 r3, r2, r4, r5, ?_⟩
    have s12 := s1.trans s2
    generalize upd H1 z (.lst _) = H2 at s2 s12 ⊢
    refine ⟨_, rfl, dd, _, rfl, .inl (.inl (s12 _ _ hd)), fun t1 o1 ht1 ho1 => ?_⟩
    have s3 := same_new (o := .frz o1 (.tup (nI es))) ht1
    have k1 : SqT K (upd H2 t1 (.frz o1 (.tup (nI es)))) t1 (nI es) := (PT.new ho1).sq
    generalize upd H2 t1 (.frz o1 (.tup (nI es))) = H3 at s3 k1 ⊢
    refine ⟨by show 0 ≤ sizeLine; exact Nat.zero_le _, fun t2 o2 ht2 ho2 => ?_⟩
    have s4 := same_new (o := .frz o2 (.tup [])) ht2
    have k2 : SqT K (upd H3 t2 (.frz o2 (.tup []))) t2 [] := (PT.new ho2).sq
    generalize upd H3 t2 (.frz o2 (.tup [])) = H4 at s4 k2 ⊢
    refine ⟨_, rfl, _, rfl, by show 5 ≤ sizeLine; exact sl_le (by decide), fun z2 hz2 => ?_⟩
    have s5 := same_new (o := .lst [V.ref t1, V.ref t2, V.int (sN : Int), V.int 1, V.str txt]) hz2
    obtain ⟨q1, q2, q3, q4, q5⟩ := repr_ok (K := K) (H := upd H4 z2 (.lst [V.ref t1, V.ref t2, V.int (sN : Int), V.int 1, V.str txt])) (a := z2) (ds := [.tuple (nD2 es), .tuple (nD2 []), .int (sN : Int), .int ((1 : Nat) : Int), .str txt]) (.inl (.inl upd_same)) (.cons (.tup (SqT.imm (.of (s4.trans s5)) k1) (dp_nI _)) (.cons (.tup (SqT.imm (.of s5) k2) .nil) (.cons (.int _) (.cons (.int _) (.cons (.str _) .nil))))) fits (by show (60000 + 2) * 5 + 3 ≤ 16000000; decide) (by decide)
    refine ⟨_, _, rfl, .of q1 q3, q2, q4, q5, rfl, false, bl_ne _, ifF rfl ?_⟩
    have s15 := s12.trans (s3.trans (s4.trans s5))
    generalize upd H4 z2 (.lst _) = H5 at s5 s15 ⊢
    refine ⟨_, rfl, Nat.zero_le _, fun E2 hE2 => ?_⟩
    have s2 := s15.trans (same_new (o := .lst []) hE2)
    refine ⟨.list (nD2 es), .list [], .lst (.inl (.inl (s2 _ _ hd))) (dp_nI _), .lst (.inl (.inl upd_same)) .nil, shape_nL _, shape_nL [], ?_⟩
    rw [eqv_nilL]
    generalize upd H5 E2 (.lst []) = H6 at s2 ⊢
    refine ⟨_, rfl, ifF (decide_eq_false hne) ?_⟩
    refine ifF rfl ?_
  all_goals
    have hs2 := SqT.imm (.of s2) hs
    refine ⟨_, rfl, _, rfl, cat_sq hs2 hs2 (by omega) fun t9 H7 s7 hs7 => ?_⟩
    have e9 : nI ns ++ nI ns = nI (ns ++ ns) := by unfold nI; rw [List.map_append]
    rw [e9] at hs7
    refine ⟨rfl, .ref t9, rfl, .inl ⟨t9, _, rfl, hs7, by rw [← e9, List.length_append]; omega, .inr ⟨ns ++ ns, rfl, fun n hn => ?_, fun H8 x' s8 L' => ?_⟩⟩⟩
    · rcases List.mem_append.mp hn with h | h <;> exact hns n h
    have ef : (fun k => decide (k ∈ ns ++ ns)) = fun k => decide (k ∈ ns) := by
      funext k
      simp
    rw [ef] at L'
    have s28 := s2.trans (s7.trans s8)
    obtain ⟨_, _, _, _, _, _, _, S'⟩ := id L'
    refine ⟨_, rfl, x', _, _, rfl, S'.ob, .ins (s28 _ _ S.ob), x', _, _, rfl, L', .inl ⟨x, _, rfl, L.same s28, fun c hc => ⟨c, rfl, ?_⟩⟩⟩
    obtain rfl : c = true := hc.mpr rfl
    refine ⟨_, rfl, ifF rfl ?_⟩
    exact go Q _ j tt _ _ _ _ _ _ _ _ _ _ (jugS s28 hj) (Tb.same s28 hT) ⟨ns, SqT.imm (.of s28) hs, hl⟩ (fun H9 c9 t9 => k H9 ((ChT.of (Chg.of s28)).trans c9) t9)
end
end K1
namespace K1
open PySem PySem.Spec L2 Z K2 LamX
section
variable {P : Program} {w : World} {K : PySem.W.Frag} {mg : Str → Option Value} {base : Heap} {C CN CI c Pt Pu : Addr}
theorem nr2 (T : Txt K mg C CN CI) (G_of_numbers : PrX P w K mg base "of_numbers" s_of_numbers 7 ["numbers"] (r_of_numbers K C CI)) (G__law_one_of : Pr P w K mg base "_law_one_of" s_law_one_of 2 ["_law_jug_here", "_law_some"] (sp_law_one_of K)) (G__law_odd : Pr P w K mg base "_law_odd" s_law_odd 3 ["_law_jug_here"] (q_odd3 K)) (G__law_spot_changed : Pr P w K mg base "_law_spot_changed" s_law_spot_changed 2 ["_law_jug_here", "_law_row", "_law_thing"] (r_spot K)) (G__law_is_whole : Pr P w K mg base "_law_is_whole" s_law_is_whole 1 ["_law_value", "_law_low", "_law_high"] (q_is_whole K)) (G_eq : PrE P w K mg base C "Lengths.__eq__" s_eq 1 (sp2_eq K C)) (ne : Pt ≠ Pu) (TB : TabB base mg c Pu) {A : Around} {outer : List Env} {s : Shared} {H0 : Hp} {E : XK} {f : Addr} (hr : Room 10 (A.deeper (PyProof.Rows.envOfC "_law_numbers_right" (defScope s_law_numbers_right) s.heap.objs.size f (.ref c)))) (hgd : (A.deeper (PyProof.Rows.envOfC "_law_numbers_right" (defScope s_law_numbers_right) s.heap.objs.size f (.ref c))).guards = some []) : ∃ t, PSs (cxOf CX0 P w K mg base N_law_numbers_right "_law_numbers_right" (defScope s_law_numbers_right) f (.ref c) A outer s H0 E).nox ((defBody s_law_numbers_right).drop 2) t ∧ ∀ (Q : VK) (H : Hp) (j tt x dd : Addr) (ns es : List Nat) (a4 a5 a6 a7 a8 a9 a10 a11 : Option V), JugAt H j → Tb H Pt Pu → SqT K H tt (nI ns) → ns.length ≤ 5 → (∀ n ∈ ns, n ≤ 599) → LSt K C H x (fun k => decide (k ∈ ns)) → H dd = some (.lst (nI es)) → es.Pairwise (· < ·) → (∀ k, k ∈ es ↔ k ∈ ns) → (∀ H', ChT j H H' → Tb H' Pt Pu → Q (.bl true) H') → t { nx := fun _ H' => Q .non H', rt := Q } [some (.ref j), some (.ref tt), some (.ref x), some (.ref dd), a4, a5, a6, a7, a8, a9, a10, a11] H := by
  have hu := hu_of hr
  obtain ⟨tl, htl, go⟩ := nr4 T G_of_numbers G__law_one_of G__law_odd G__law_spot_changed G__law_is_whole G_eq ne TB hr hgd (outer := outer) (H0 := H0) (E := E)
  refine ⟨_, (pss_cons (ps_set (i := 4) sc_law_numbers_right.nd rfl (Or.inr rfl) (pe_ifExp (pt_cmpR (op_neDK (K := K) rfl (show (Around.deeper A _).units + 64 < cLine from hr.units)) (pv 3) (pe_lst pa_nil) (nomark _)) (pe_op op_add (pe_ix (ix_listK (K := K) rfl) (pv 3) (pe_un un_neg pe_int) (fun _ _ => rfl)) pe_int) pe_int))
      (pss_cons (ps_set (i := 5) sc_law_numbers_right.nd rfl (Or.inl rfl) (pe_ifExp (pt_cmpR (op_neDK (K := K) rfl (show (Around.deeper A _).units + 64 < cLine from hr.units)) (pv 3) (pe_lst pa_nil) (nomark _)) (pe_join pe_str (pe_lc (own := [("_law_n", 10)]) (g := gName 10) rfl sc_law_numbers_right.nd (pi_list (pv 3)) (blkOk_by (own := [("_law_n", 10)]) (N := N_law_numbers_right) (sc := defScope s_law_numbers_right) (by decide +kernel)) (fun _ _ _ _ _ => (pg_name (i := 10) sc_law_numbers_right.nd rfl (Or.inl rfl))) (fun _ _ _ _ _ => (pts_one (pt_cmpR op_lt (pv 10) (pv 4) (nomark _)))) (fun _ _ _ _ _ => (pe_callTy call_str_int (by rfl) T.b_str (by decide +kernel) (pa_cons (pv 10) pa_nil))))) pe_str))
      htl)), ?_⟩
  intro Q H j tt x dd ns es a4 a5 a6 a7 a8 a9 a10 a11 hj hT hs hl hns L hd hasc hmem k
  have ef : (fun k => decide (k ∈ ns)) = fun k => decide (k ∈ es) := by
    funext k
    exact decide_eq_decide.mpr (hmem k).symm
  refine ⟨_, rfl, Nat.zero_le _, fun E1 hE1 => ?_⟩
  have s1 := same_new (o := .lst []) hE1
  refine ⟨.list (nD2 es), .list [], .lst (.inl (.inl (s1 _ _ hd))) (dp_nI _), .lst (.inl (.inl upd_same)) .nil, shape_nL _, shape_nL [], ?_⟩
  rw [eqv_nilL]
  generalize upd H E1 (.lst []) = H1 at s1 ⊢
  refine ⟨_, rfl, ?_⟩
  by_cases hne : es = []
  · subst hne
    refine ifF rfl ?_
    refine set_int (T := fun z => gName 4 z _ _ _) (show (0 : Int) = ((0 : Nat) : Int) from rfl) ?_
    refine ⟨_, rfl, Nat.zero_le _, fun E2 hE2 => ?_⟩
    have s2 := s1.trans (same_new (o := .lst []) hE2)
    refine ⟨.list (nD2 []), .list [], .lst (.inl (.inl (s2 _ _ hd))) (dp_nI _), .lst (.inl (.inl upd_same)) .nil, shape_nL _, shape_nL [], ?_⟩
    rw [eqv_nilL]
    generalize upd H1 E2 (.lst []) = H2 at s2 ⊢
    refine ⟨_, rfl, ifF rfl ?_⟩
    refine go Q _ j tt x dd ns [] 0 (Str.ofString "none") _ _ _ _ _ _ (jugS s2 hj) (Tb.same s2 hT) (SqT.imm (.of s2) hs) hl hns (L.same s2) (s2 _ _ hd) (.inl ⟨rfl, fun st p _ => ?_⟩) (fun H9 c9 t9 => k H9 ((ChT.of (Chg.of s2)).trans c9) t9)
    rw [ef]
    have e0 : (fun k : Nat => decide (k ∈ ([] : List Nat))) = fun _ => false := by
      funext k
      simp
    rw [e0]
    exact norm_no
  obtain ⟨m, hm⟩ : ∃ m, es.getLast? = some m := by
    cases h : es.getLast? with
    | none => exact absurd (List.getLast?_eq_none_iff.mp h) hne
    | some m => exact ⟨m, rfl⟩
  obtain ⟨h1, h2⟩ := asc_last hasc hm
  have m6 : m ≤ 599 := hns m ((hmem m).mp h1)
  obtain ⟨can, hbe, hcy⟩ := canon_fin hasc hm
  have el : es.length ≤ 600 := by
    rw [← hbe]
    unfold belowL
    have := List.length_filter_le (fun k => decide (k ∈ es)) (List.range (m + 1))
    rw [List.length_range] at this
    omega
  refine ifT (by rw [decide_eq_false hne]; rfl) ?_
  refine ⟨_, rfl, _, rfl, dd, _, _, _, rfl, rfl, .inl (.inl (s1 _ _ hd)), at_last hm, _, _, rfl, rfl, ?_⟩
  refine set_int (T := fun z => gName 4 z _ _ _) (show (m : Int) + 1 = ((m + 1 : Nat) : Int) from rfl) ?_
  refine ⟨_, rfl, Nat.zero_le _, fun E2 hE2 => ?_⟩
  have s2 := s1.trans (same_new (o := .lst []) hE2)
  refine ⟨.list (nD2 es), .list [], .lst (.inl (.inl (s2 _ _ hd))) (dp_nI _), .lst (.inl (.inl upd_same)) .nil, shape_nL _, shape_nL [], ?_⟩
  rw [eqv_nilL]
  generalize upd H1 E2 (.lst []) = H2 at s2 ⊢
  refine ⟨_, rfl, ifT (by rw [decide_eq_false hne]; rfl) ?_⟩
  refine ⟨⟨_, rfl⟩, ?_⟩
  try unfold tNext
  try unfold tSeq
  try unfold tAsg
  try unfold gName
  try unfold tCons
  try dsimp only
  refine lcL es (fun (n : Nat) => V.int (n : Int)) (fun _ => true) (fun (n : Nat) => V.str (wordT (n, 0))) (by omega) (fun R r => ⟨_, rfl, r dd H2 (fun _ _ h => h) (.inl (.inl (s2 _ _ hd)))⟩) (fun n H3 R1 R2 hn sm r1 r2 => ⟨rfl, _, rfl, _, rfl, _, _, rfl, rfl, _, rfl, ?_⟩) (fun H3 D3 s3 hD3 hk3 => ?_)
  · have := h2 n hn
    refine ifT (decide_eq_true (show (n : Int) < ((m + 1 : Nat) : Int) by omega)) ?_
    have r := r2 H3 (fun _ _ h => h) rfl
    have ew : wordT (n, 0) = Str.ofString (toString (n : Int)) := by
      unfold wordT tailT
      rw [if_pos rfl, app_emp]
      rfl
    rw [ew] at r
    exact ⟨_, rfl, _, rfl, num_log (by omega) (by omega), r⟩
  have hc2 : es.filter (fun _ => true) = es := List.filter_eq_self.mpr (by simp)
  rw [hc2] at hk3
  have hnw : normW (fun k => decide (k ∈ es)) (m + 1) 1 = es.map fun n => (n, 0) := by
    unfold normW
    rw [hbe, hcy]
    simp
  have sum1 := sum_len (k := 7) (ys := (es.map fun n => ((n, 0) : Nat × Nat)).map wordT) (words_le fun w hw => by
    obtain ⟨n, hn, rfl⟩ := List.mem_map.mp hw
    have := h2 n hn
    exact ⟨by show n ≤ 999; omega, by show 0 ≤ 999; omega⟩)
  rw [List.length_map, List.length_map] at sum1
  have htx : Txt.join (Str.ofString " ") ((es.map fun n => ((n, 0) : Nat × Nat)).map wordT) = setT (normW (fun k => decide (k ∈ es)) (m + 1) 1) := by
    rw [hnw, setT_cons (by simpa using hne)]
    rfl
  refine ⟨_, D3, (es.map fun n => ((n, 0) : Nat × Nat)).map wordT, rfl, rfl, .inl (.inl (.inl (by rw [hk3, List.map_map, List.map_map]; rfl))), ?_, ?_⟩
  · have e1 : (Str.ofString " ").length = 1 := sp1_len
    rw [List.length_map, List.length_map, e1]
    omega
  rw [htx]
  have s23 := s2.trans s3
  exact go Q _ j tt x dd ns es (m + 1) _ _ _ _ _ _ _ (jugS s23 hj) (Tb.same s23 hT) (SqT.imm (.of s23) hs) hl hns (L.same s23) (s23 _ _ hd) (.inr ⟨hne, by rw [ef]; exact can, by rw [ef]; exact hbe, by rw [ef]; exact hcy, by rw [ef]⟩) (fun H9 c9 t9 => k H9 ((ChT.of (Chg.of s23)).trans c9) t9)
end
end K1
namespace K1
open PySem PySem.Spec L2 Z K2 LamX
section
variable {P : Program} {w : World} {K : PySem.W.Frag} {mg : Str → Option Value} {base : Heap} {C CN CI c Pt Pu : Addr}
theorem ok_law_numbers_right (T : Txt K mg C CN CI) (G__law_one_of : Pr P w K mg base "_law_one_of" s_law_one_of 2 ["_law_jug_here", "_law_some"] (sp_law_one_of K)) (G__law_take : Pr P w K mg base "_law_take" s_law_take 1 ["_law_jug_here", "_law_many"] sp_law_take) (G_of_numbers : PrX P w K mg base "of_numbers" s_of_numbers 7 ["numbers"] (r_of_numbers K C CI)) (G__law_odd : Pr P w K mg base "_law_odd" s_law_odd 3 ["_law_jug_here"] (q_odd3 K)) (G__law_spot_changed : Pr P w K mg base "_law_spot_changed" s_law_spot_changed 2 ["_law_jug_here", "_law_row", "_law_thing"] (r_spot K)) (G__law_is_whole : Pr P w K mg base "_law_is_whole" s_law_is_whole 1 ["_law_value", "_law_low", "_law_high"] (q_is_whole K)) (G_eq : PrE P w K mg base C "Lengths.__eq__" s_eq 1 (sp2_eq K C)) {f : Addr} {fd : FuncData} (F : Fun K "_law_numbers_right" "_law_numbers_right" s_law_numbers_right f fd) (hc : fd.code = .ref c) (ne : Pt ≠ Pu) (TB : TabB base mg c Pu) : FnG P w K mg base 11 f fd ["_law_jug_here"] (r_numbers Pt Pu) := by
  refine okGC F hc sc_law_numbers_right (fun vs H Q E h => ?_) (fun A outer s H vs Q E hr hgd h => ?_)
  · obtain ⟨j, rfl, _⟩ := h
    rfl
  · obtain ⟨j, rfl, hj, hT, k⟩ := h
    have hu := hu_of hr
    obtain ⟨tl, htl, go⟩ := nr2 T G_of_numbers G__law_one_of G__law_odd G__law_spot_changed G__law_is_whole G_eq ne TB hr hgd (outer := outer) (H0 := H) (E := E)
    refine ⟨_, (pss_cons (ps_set (i := 1) sc_law_numbers_right.nd rfl (Or.inl rfl) (pe_callTy call_tupP (by rfl) T.b_tuple (by decide +kernel) (pa_cons (pe_lc (own := [("_law_turn", 9)]) (g := gName 9) (tt := tYes) rfl sc_law_numbers_right.nd (pi_range1 rfl T.b_range (pa_cons (pcall G__law_take (hr.mono (by decide)) (pa_cons (pv 0) (pa_cons pe_int pa_nil))) pa_nil)) (blkOk_by (own := [("_law_turn", 9)]) (N := N_law_numbers_right) (sc := defScope s_law_numbers_right) (by decide +kernel)) (fun _ _ _ _ _ => (pg_name (i := 9) sc_law_numbers_right.nd rfl (Or.inl rfl))) (fun _ _ _ _ _ => pts_nil) (fun _ _ _ _ _ => (pcall G__law_one_of (hr.mono (by decide)) (pa_cons (pv 0) (pa_cons (pe_lst (pa_cons (pcall G__law_take (hr.mono (by decide)) (pa_cons (pv 0) (pa_cons pe_int pa_nil))) (pa_cons (pcall G__law_take (hr.mono (by decide)) (pa_cons (pv 0) (pa_cons pe_int pa_nil))) pa_nil))) pa_nil))))) pa_nil)))
      (pss_cons (ps_par (i := 2) (j := 3) rfl sc_law_numbers_right.nd rfl rfl (by decide) rfl rfl (pa_cons (pcallX E0 G_of_numbers (hr.mono (by decide)) passL (pa_cons (pv 1) pa_nil)) (pa_cons (pe_callB (cr_sortedSetW (w := w) rfl rfl) (by rfl) T.b_sorted (by decide +kernel) (pa_cons (pe_callTy (cr_setLW (K := K) (w := w) rfl rfl rfl) (by rfl) T.b_set (by decide +kernel) (pa_cons (pe_callTy call_list_of (by rfl) T.b_list (by decide +kernel) (pa_cons (pv 1) pa_nil)) pa_nil)) pa_nil)) pa_nil)) (by rfl))
      htl)), ?_⟩
    refine ⟨_, rfl, j, 6, rfl, hj, by decide, by decide, fun H1 k1 c1 j1 k10 k16 => ⟨k1, rfl, by omega, by omega, fun D hD => ?_⟩⟩
    have nD := j1.ne hD
    refine lc_it (n := k1.toNat) (fun i H' => JugAt H' j ∧ (∀ b o, H1 b = some o → b ≠ j → H' b = some o) ∧ ∃ ns : List Nat, ns.length = i ∧ (∀ n ∈ ns, n ≤ 599) ∧ H' D = some (.lst (nI ns))) ⟨jug_upd nD j1, fun b o e _ => by rw [upd_ne (ne_of_none e hD)]; exact e, [], rfl, (fun n h => absurd h (by simp)), upd_same⟩ (fun i H' hi _ => hi) (fun H' _ => Nat.le_refl _) (fun i y H' H2 hi h yl => ?_) (fun H' h => ?_)
    · obtain ⟨jH, cH, ns, hn, hns, hk⟩ := h
      obtain ⟨rfl, rfl⟩ := yl
      refine ⟨rfl, _, rfl, _, rfl, j, 20, rfl, jH, by decide, by decide, fun H3 k2 c3 j3 k20 k21 => ⟨_, rfl, j, 600, rfl, j3, by decide, by decide, fun H4 k3 c4 j4 k30 k31 => ⟨by show 2 ≤ sizeLine; exact sl_le (by decide), fun l0 hl0 => ?_⟩⟩⟩
      have n0 := j4.ne hl0
      refine ⟨j, l0, [.int k2, .int k3], rfl, jug_upd n0 j4, n0, .inl (.inl upd_same), by simp, by simp, fun H5 v5 c5 j5 hv5 => ?_⟩
      have c35 := ((c3.trans c4).trans (Chg.of (same_new hl0))).trans c5
      have hk5 := c35 _ _ hk nD
      obtain ⟨m, rfl, m6⟩ : ∃ m : Nat, v5 = .int (m : Int) ∧ m ≤ 599 := by
        simp only [List.mem_cons, List.not_mem_nil, or_false] at hv5
        rcases hv5 with rfl | rfl
        · exact ⟨k2.toNat, by rw [Int.toNat_of_nonneg k20], by omega⟩
        · exact ⟨k3.toNat, by rw [Int.toNat_of_nonneg k30], by omega⟩
      refine ⟨_, hk5, ?_, jug_upd nD j5, fun b o e nb => ?_, ns ++ [m], by rw [List.length_append, hn]; rfl, fun n h => ?_, ?_⟩
      · unfold nI
        rw [List.length_map, hn]
        exact Nat.lt_of_lt_of_le (show i < 10 by omega) (sl_le (by decide))
      · rw [upd_ne (ne_of_none e hD)]
        exact c35 _ _ (cH b o e nb) nb
      · rcases List.mem_append.mp h with h | h
        · exact hns n h
        · simp at h
          omega
      · rw [upd_same]
        unfold nI
        rw [List.map_append]
        rfl
    obtain ⟨jH, cH, ns, hn, hns, hk⟩ := h
    have cT : ChT j H H' := (ChT.of c1).trans fun b o e nb _ => cH b o e nb
    have tH : Tb H' Pt Pu := (hT.chg c1 hj).chg cH j1
    refine ⟨D, _, rfl, .inl (.inl hk), fun tt oo htt hoo => ?_⟩
    have s1 := same_new (o := .frz oo (.tup (nI ns))) htt
    have q1 : SqT K (upd H' tt (.frz oo (.tup (nI ns)))) tt (nI ns) := (PT.new hoo).sq
    generalize upd H' tt (.frz oo (.tup (nI ns))) = H2 at s1 q1 ⊢
    have ln : (nI ns).length = ns.length := by unfold nI; exact List.length_map ..
    refine ⟨_, rfl, .ref tt, rfl, .inl ⟨tt, nI ns, rfl, q1, by omega, .inr ⟨ns, rfl, hns, fun H3 x s3 L => ?_⟩⟩⟩
    have q3 := SqT.imm (.of s3) q1
    refine ⟨_, rfl, tt, nI ns, rfl, .inr q3, fun l1 hl1 => ?_⟩
    have s4 := same_new (o := .lst (nI ns)) hl1
    refine ⟨l1, ns.map fun (n : Nat) => (n : Int), rfl, .inl (.inl (by rw [upd_same, List.map_map]; rfl)), by rw [List.length_map]; omega, fun p c hc hp => ?_⟩
    have s5 := same_new (o := SetO w p (fun j => decide (j ∈ ns.map fun (n : Nat) => (n : Int))) c) hp
    refine ⟨p, _, c, rfl, upd_same, by rw [List.length_map] at hc; omega, fun ds p2 hpw hmem hlen hp2 => ?_⟩
    have s6 := same_new (o := .lst (ds.map V.int)) hp2
    have nn : ∀ z ∈ ds, 0 ≤ z := fun z hz => by
      obtain ⟨n, _, e⟩ := List.mem_map.mp (of_decide_eq_true ((hmem z).mp hz))
      have e2 : (n : Int) = z := e
      omega
    have eds : ds.map V.int = nI (ds.map Int.toNat) := by
      unfold nI
      rw [List.map_map]
      refine List.map_congr_left fun z hz => ?_
      show V.int z = V.int ((z.toNat : Nat) : Int)
      rw [Int.toNat_of_nonneg (nn z hz)]
    have s26 := (s1.trans s3).trans ((s4.trans s5).trans s6)
    have s36 := (s4.trans s5).trans s6
    refine ⟨_, _, rfl, ?_⟩
    refine go Q _ j tt x p2 ns (ds.map Int.toNat) _ _ _ _ _ _ _ _ (jugS s26 jH) (Tb.same s26 tH) (SqT.imm (.of s36) q3) (by omega) hns (L.same s36) (by rw [upd_same, eds]) ?_ (fun k => ?_) (fun H9 c9 t9 => k H9 ((cT.trans (ChT.of (Chg.of s26))).trans c9) t9)
    · rw [List.pairwise_map]
      refine List.Pairwise.imp_of_mem (fun {a b} ha hb h => ?_) hpw
      have := nn a ha
      have := nn b hb
      omega
    · constructor
      · intro h
        obtain ⟨z, hz, rfl⟩ := List.mem_map.mp h
        obtain ⟨n, hn2, e⟩ := List.mem_map.mp (of_decide_eq_true ((hmem z).mp hz))
        have e2 : (n : Int) = z := e
        rw [← e2, Int.toNat_natCast]
        exact hn2
      · intro h
        refine List.mem_map.mpr ⟨(k : Int), (hmem _).mpr (decide_eq_true (List.mem_map.mpr ⟨k, h, rfl⟩)), Int.toNat_natCast k⟩
end
end K1
namespace K1
open PySem PySem.Spec L2 Z K2 LamX
section
variable {P : Program} {w : World} {K : PySem.W.Frag} {mg : Str → Option Value} {base : Heap} {C CN CI : Addr}
theorem ok_members (T : Txt K mg C CN CI) (G_is_whole : Pr P w K mg base "is_whole" s_is_whole 2 ["value", "low", "high"] (q_is_whole K)) : PrMX P w K mg base C "members" "Lengths.members" s_members 3 ["self", "many"] (r_members K C CN) := by
  obtain ⟨f, fd, F, gl, bd⟩ := T.d_members
  refine ⟨f, fd, F, gl, bd, F.okX sc_members (fun vs H Q E h => ?_) (fun cdv A outer s H vs Q E hr h => ?_)⟩
  · obtain ⟨x, v, f, rfl, _⟩ := h
    rfl
  · obtain ⟨x, v, f, rfl, hx, h⟩ := h
    have hu := hu_of hr
    refine ⟨_, (pss_cons (ps_if (pt_not (pt_val (pcall G_is_whole (hr.mono (by decide)) (pa_cons (pv 1) (pa_cons pe_int (pa_cons (pe_globI rfl T.c_MOST_MEMBERS) pa_nil)))))) (pss_one (ps_raiseE rfl (takes_of rfl rfl rfl rfl) (ok_err_InvalidNumber T) (hr.mono (by decide)) (pa_cons (pv 1) pa_nil))) pss_nil)
      (pss_cons (ps_set (i := 2) sc_members.nd rfl (Or.inl rfl) (pe_callTy call_list_of (by rfl) T.b_list (by decide +kernel) (pa_cons (pe_fld (pv 0) rfl) pa_nil)))
      (pss_cons (ps_set (i := 3) sc_members.nd rfl (Or.inr rfl) pe_int)
      (pss_cons (ps_while (passes_of rfl) (PW.pt (pw_and (pt_val (pe_fld (pv 0) rfl)) (pw_and1 (pt_cmpR op_lt (pe_callB call_len_seq (by rfl) T.b_len (by decide +kernel) (pa_cons (pv 2) pa_nil)) (pv 1) (nomark _))))) (pss_cons (ps_expr (pe_bm PySem.F.plainAttrs_list PySem.F.slot_list_extend PySem.F.type_list_extend mt_extend (pv 2) (pa_cons (pe_lc (own := [("number", 4)]) (g := gName 4) (tt := tYes) rfl sc_members.nd (pi_tup (pe_fld (pv 0) rfl)) (blkOk_by (own := [("number", 4)]) (N := N_members) (sc := defScope s_members) (by decide +kernel)) (fun _ _ _ _ _ => (pg_name (i := 4) sc_members.nd rfl (Or.inl rfl))) (fun _ _ _ _ _ => pts_nil) (fun _ _ _ _ _ => (pe_op op_add (pv 4) (pe_op op_mul (pv 3) (pe_fldK (K := K) rfl (pv 0) rfl))))) pa_nil)))
      (pss_one (ps_aug (i := 3) sc_members.nd rfl (Or.inr rfl) pe_int ip_add))))
      (pss_one (ps_ret (pe_callTy call_tupP (by rfl) T.b_tuple (by decide +kernel) (pa_cons (pe_slice sl_list (pv 2) po_none (po_some (pv 1))) pa_nil)))))))), ?_⟩
    rcases h with ⟨ho, bad⟩ | ⟨many, rfl, m4, k⟩
    · exact ⟨_, rfl, _, _, _, rfl, .inr ⟨ho, _, rfl, iteT ⟨_, rfl, _, rfl, bad⟩⟩⟩
    refine ⟨_, rfl, _, _, _, rfl, .inl ⟨⟨_, rfl, by omega, by omega⟩, _, rfl, iteF ?_⟩⟩
    obtain ⟨dx, r, bt, ct, st, p, b, S⟩ := hx
    obtain ⟨st6, p6⟩ := S.sm
    refine ⟨_, rfl, x, C, dx, _, _, rfl, S.ob, T.cl, T.n_below, rfl, bt, _, rfl, .inr S.be, fun D hD => ?_⟩
    have s1 := same_new (o := .lst (nI (belowL f st))) hD
    have e1 : upd H D (.lst (nI (belowL f st))) D = some (.lst (nI (belowL f st))) := upd_same
    generalize upd H D (.lst (nI (belowL f st))) = H1 at s1 e1 ⊢
    have cl1 : (cycL f st p).length ≤ 60 := by
      unfold cycL
      have := List.length_filter_le f (List.range' st p)
      rw [List.length_range'] at this
      omega
    have bl1 : (belowL f st).length ≤ 600 := by
      unfold belowL
      have := List.length_filter_le f (List.range st)
      rw [List.length_range] at this
      omega
    refine ⟨fun μ σ H' => Chg D H1 H' ∧ ∃ (t : Nat) (x4 : Option V), σ = [some (.ref x), some (.int (many : Int)), some (.ref D), some (.int (t : Int)), x4] ∧ H' D = some (.lst (nI (grow f st p t))) ∧ t ≤ many ∧ (grow f st p t).length ≤ 1200 ∧ μ = many - t,
      ⟨_, fun _ _ h _ => h, 0, _, rfl, by rw [grow_zero]; exact e1, by omega, by rw [grow_zero]; omega, rfl⟩, ?_⟩
    rintro μ σ H' ⟨cg, t, x4, rfl, hl, ht, hlen, rfl⟩
    have sH := same_chg s1 hD cg
    have S' := S.same sH
    obtain ⟨l, el⟩ : ∃ l, l = grow f st p t := ⟨_, rfl⟩
    rw [← el] at hl hlen
    refine tAnd_two (!decide (cycL f st p = [])) (decide ((l.length : Int) < (many : Int))) (fun R r => ⟨_, rfl, x, C, dx, _, _, rfl, S'.ob, T.cl, T.n_is_endless, rfl, _, rfl, r⟩) (fun _ R r => ⟨_, rfl, D, _, rfl, .inl (.inl (.inl hl)), _, rfl, _, _, rfl, rfl, _, rfl, ?_⟩) ?_
    · rw [show (nI l).length = l.length by unfold nI; exact List.length_map ..]
      exact r
    cases hb : (!decide (cycL f st p = [])) && decide ((l.length : Int) < (many : Int)) with
    | true =>
      rw [Bool.and_eq_true, Bool.not_eq_true', decide_eq_false_iff_not, decide_eq_true_iff] at hb
      obtain ⟨hc, hlt⟩ := hb
      refine iteT ⟨_, fun _ _ h => h, ?_⟩
      refine ⟨_, rfl, .inl ⟨rfl, _, .inl (.inl hl)⟩, ?_⟩
      unfold tCons
      dsimp only
      refine lcT (cycL f st p) (fun (n : Nat) => V.int (n : Int)) (fun _ => true) (fun (n : Nat) => V.int ((n + t * p : Nat) : Int)) (by omega) (fun R r => ⟨_, rfl, x, C, dx, _, _, rfl, S'.ob, T.cl, T.n_cycle, rfl, r ct H' (fun _ _ h => h) S'.cy⟩) (fun n H3 R1 R2 hn sm r1 r2 => ⟨rfl, yesI ?_⟩) (fun H3 E2 s3 hE2 hEk => ?_)
      · refine ⟨_, rfl, _, rfl, _, rfl, x, C, dx, _, _, rfl, (S'.same sm).ob, T.cl, T.n_step, rfl, _, _, rfl, rfl, .inr ⟨by omega, by omega⟩, _, _, rfl, rfl, ?_⟩
        have r := r2 H3 (fun _ _ h => h) rfl
        have e : (n : Int) + (t : Int) * (p : Int) = ((n + t * p : Nat) : Int) := by push_cast; rfl
        show R2 (V.int ((n : Int) + (t : Int) * (p : Int))) H3
        rw [e]
        exact r
      have hc2 : (cycL f st p).filter (fun _ => true) = cycL f st p := List.filter_eq_self.mpr (by simp)
      rw [hc2] at hEk
      have gl := grow_len hc t
      rw [← el] at gl
      have eg : nI l ++ (cycL f st p).map (fun (n : Nat) => V.int ((n + t * p : Nat) : Int)) = nI (grow f st p (t + 1)) := by
        rw [grow_succ, ← el]
        unfold nI
        rw [List.map_append, List.map_map]
        rfl
      have gl2 : (grow f st p (t + 1)).length ≤ 1200 := by
        rw [grow_succ, ← el, List.length_append, List.length_map]
        omega
      refine ⟨D, E2, _, _, rfl, rfl, s3 _ _ hl, hEk, ?_, ?_⟩
      · unfold nI
        rw [List.length_map, List.length_map]
        exact sl_le (by omega)
      refine ⟨_, rfl, _, _, rfl, rfl, ?_⟩
      refine ⟨many - (t + 1), by omega, (cg.trans (Chg.of s3)).trans Chg.upd, t + 1, _, rfl, ?_, by omega, gl2, rfl⟩
      rw [upd_same, eg]
    | false =>
      refine iteF ?_
      have hcond : cycL f st p = [] ∨ many ≤ (grow f st p t).length ∨ t = many := by
        by_cases hc : cycL f st p = []
        · exact .inl hc
        · rw [decide_eq_false hc] at hb
          have := of_decide_eq_false hb
          rw [← el]
          exact .inr (.inl (by omega))
      have gt := grow_take ht hcond
      refine ⟨_, rfl, _, rfl, _, rfl, D, _, rfl, .inl (.inl hl), fun p1 hp1 => ?_⟩
      have s4 := same_new (o := .lst (cutV (nI l) none (some (many : Int)))) hp1
      have ec : cutV (nI l) none (some (many : Int)) = nI (membF f st p many) := by
        rw [← gt, ← el]
        unfold cutV nI
        rw [HT.sIx_nat]
        show ((l.map _).drop 0).take (min many (l.map _).length - 0) = (l.take many).map _
        rw [List.drop_zero, Nat.sub_zero, List.map_take]
        by_cases c : many ≤ (l.map fun (n : Nat) => V.int (n : Int)).length
        · rw [Nat.min_eq_left c]
        · rw [Nat.min_eq_right (by omega), List.take_length, List.take_of_length_le (by omega)]
      refine ⟨p1, _, rfl, .inl (.inl upd_same), fun t1 o1 ht1 ho1 => ?_⟩
      have s5 := same_new (o := .frz o1 (.tup (cutV (nI l) none (some (many : Int))))) ht1
      exact k _ t1 st p ((sH.trans s4).trans s5) S.rnd.can (ec ▸ (PT.new ho1).sq)
end
end K1
namespace K1
open PySem PySem.Spec L2 Z K2
section
variable {P : Program} {w : World} {K : PySem.W.Frag} {mg : Str → Option Value} {base : Heap} {C CN CI : Addr}
theorem ok_law_normal (T : Txt K mg C CN CI)  : Pr P w K mg base "_law_normal" s_law_normal 1 ["_law_bits_here", "_law_top_here", "_law_period"] (sp2_law_normal K) := by
  obtain ⟨f, fd, F, gl, bd⟩ := T.d__law_normal
  refine ⟨f, fd, F, gl, bd, F.ok sc_law_normal (fun vs H Q E h => ?_) (fun cdv A outer s H vs Q E hr h => ?_)⟩
  · obtain ⟨l, T, P, f, M, rfl, _⟩ := h
    rfl
  · obtain ⟨l, T0, P, f, M, rfl, hB, hM, hM5, per, P0, P60, T500, k⟩ := h
    have hu := hu_of hr
    refine ⟨_, (pss_cons (ps_setLc (i := 3) (own := [("_law_each", 11)]) (g := gName 11) rfl sc_law_normal.nd rfl rfl (sw_true rfl rfl rfl (by decide +kernel)) (pi_range2 rfl T.b_range (pa_cons pe_int (pa_cons (pe_op op_add (pv 2) pe_int) pa_nil))) (blkOk_by (own := [("_law_each", 11)]) (N := N_law_normal) (sc := defScope s_law_normal) (by decide +kernel)) (fun _ _ _ _ _ => (pg_name (i := 11) sc_law_normal.nd rfl (Or.inl rfl))) (fun _ _ _ _ _ => (pts_one (pt_cmpR op_eq (pe_op op_modN (pe_callTy call_int1 (by rfl) T.b_int (by decide +kernel) (pa_cons (pv 2) pa_nil)) (pv 11)) pe_int (nomark _)))) (fun _ _ _ _ _ => (pv 11)))
      (pss_cons (ps_setLc (i := 3) (own := [("_law_each", 11)]) (g := gName 11) rfl sc_law_normal.nd rfl rfl (sw_true rfl rfl rfl (by decide +kernel)) (pi_list (pv 3)) (blkOk_by (own := [("_law_each", 11)]) (N := N_law_normal) (sc := defScope s_law_normal) (by decide +kernel)) (fun _ _ _ _ _ => (pg_name (i := 11) sc_law_normal.nd rfl (Or.inr rfl))) (fun _ _ _ _ _ => (pts_one (pt_cmpR (op_eqDK (K := K) rfl (show (Around.deeper A _).units + 64 < cLine from hr.units)) (pe_lc (own := [("_law_n", 6)]) (g := gName 6) rfl sc_law_normal.nd (pi_range2 rfl T.b_range (pa_cons (pv 1) (pa_cons (pe_op op_add (pv 1) (pv 2)) pa_nil))) (blkOk_by (own := [("_law_n", 6)]) (N := N_law_normal) (sc := relS (compSc s_law_normal 1) (defScope s_law_normal)) (by decide +kernel)) (fun _ _ _ _ _ => (pg_name (i := 6) sc_law_normal.nd rfl (Or.inl rfl))) (fun _ _ _ _ _ => (pts_one (pt_cmpR op_ne (pe_ix (ix_listK (K := K) rfl) (pv 0) (pv 6) (fun _ _ => rfl)) (pe_ix (ix_listK (K := K) rfl) (pv 0) (pe_op op_add (pv 6) (pv 11)) (fun _ _ => rfl)) (nomark _)))) (fun _ _ _ _ _ => (pv 6))) (pe_lst pa_nil) (nomark _)))) (fun _ _ _ _ _ => (pv 11)))
      (pss_cons (ps_par (i := 4) (j := 5) rfl sc_law_normal.nd rfl rfl (by decide) rfl rfl (pa_cons (pe_ix (ix_listK (K := K) rfl) (pv 3) pe_int (fun _ _ => rfl)) (pa_cons (pv 1) pa_nil)) (by rfl))
      (pss_cons (ps_for PassesOwn.never rfl (pi_range3 rfl T.b_range (pa_cons (pe_op op_sub (pv 1) pe_int) (pa_cons (pe_un un_neg pe_int) (pa_cons (pe_un un_neg pe_int) pa_nil)))) (pg_name (i := 6) sc_law_normal.nd rfl (Or.inl rfl))
      (pss_one (ps_if (PW.pt (pw_and (pt_cmpR op_eq (pv 5) (pe_op op_add (pv 6) pe_int) (nomark _)) (pw_and1 (pt_cmpR op_eq (pe_ix (ix_listK (K := K) rfl) (pv 0) (pv 6) (fun _ _ => rfl)) (pe_ix (ix_listK (K := K) rfl) (pv 0) (pe_op op_add (pv 6) (pv 4)) (fun _ _ => rfl)) (nomark _))))) (pss_one (ps_set (i := 5) sc_law_normal.nd rfl (Or.inl rfl) (pv 6))) pss_nil)))
      (pss_cons (ps_setLc (i := 7) (own := [("_law_n", 6)]) (g := gName 6) rfl sc_law_normal.nd rfl rfl (sw_true rfl rfl rfl (by decide +kernel)) (pi_range1 rfl T.b_range (pa_cons (pv 5) pa_nil)) (blkOk_by (own := [("_law_n", 6)]) (N := N_law_normal) (sc := defScope s_law_normal) (by decide +kernel)) (fun _ _ _ _ _ => (pg_name (i := 6) sc_law_normal.nd rfl (Or.inl rfl))) (fun _ _ _ _ _ => (pts_one (pt_val (pe_ix (ix_listK (K := K) rfl) (pv 0) (pv 6) (fun _ _ => rfl))))) (fun _ _ _ _ _ => (pv 6)))
      (pss_cons (ps_setLc (i := 8) (own := [("_law_n", 6)]) (g := gName 6) rfl sc_law_normal.nd rfl rfl (sw_true rfl rfl rfl (by decide +kernel)) (pi_range2 rfl T.b_range (pa_cons (pv 5) (pa_cons (pe_op op_add (pv 5) (pv 4)) pa_nil))) (blkOk_by (own := [("_law_n", 6)]) (N := N_law_normal) (sc := defScope s_law_normal) (by decide +kernel)) (fun _ _ _ _ _ => (pg_name (i := 6) sc_law_normal.nd rfl (Or.inl rfl))) (fun _ _ _ _ _ => (pts_one (pt_val (pe_ix (ix_listK (K := K) rfl) (pv 0) (pv 6) (fun _ _ => rfl))))) (fun _ _ _ _ _ => (pv 6)))
      (pss_cons (ps_set (i := 9) sc_law_normal.nd rfl (Or.inr rfl) (pe_ifExp (pt_cmpR op_eq (pv 4) pe_int (nomark _)) pe_str (pe_op op_add_str pe_str (pe_callTy call_str_int (by rfl) T.b_str (by decide +kernel) (pa_cons (pv 4) pa_nil)))))
      (pss_cons (ps_set (i := 10) sc_law_normal.nd rfl (Or.inl rfl) (pe_op op_cat (pe_lc (own := [("_law_n", 6)]) (g := gName 6) (tt := tYes) rfl sc_law_normal.nd (pi_list (pv 7)) (blkOk_by (own := [("_law_n", 6)]) (N := N_law_normal) (sc := defScope s_law_normal) (by decide +kernel)) (fun _ _ _ _ _ => (pg_name (i := 6) sc_law_normal.nd rfl (Or.inl rfl))) (fun _ _ _ _ _ => pts_nil) (fun _ _ _ _ _ => (pe_callTy call_str_int (by rfl) T.b_str (by decide +kernel) (pa_cons (pv 6) pa_nil)))) (pe_lc (own := [("_law_n", 6)]) (g := gName 6) (tt := tYes) rfl sc_law_normal.nd (pi_list (pv 8)) (blkOk_by (own := [("_law_n", 6)]) (N := N_law_normal) (sc := defScope s_law_normal) (by decide +kernel)) (fun _ _ _ _ _ => (pg_name (i := 6) sc_law_normal.nd rfl (Or.inl rfl))) (fun _ _ _ _ _ => pts_nil) (fun _ _ _ _ _ => (pe_op op_add_str (pe_callTy call_str_int (by rfl) T.b_str (by decide +kernel) (pa_cons (pv 6) pa_nil)) (pv 9))))))
      (pss_one (ps_ret (pe_tup (pa_cons (pv 4) (pa_cons (pv 5) (pa_cons (pv 7) (pa_cons (pv 8) (pa_cons (pe_ifExp (pt_cmpR (op_neDK (K := K) rfl (show (Around.deeper A _).units + 64 < cLine from hr.units)) (pv 10) (pe_lst pa_nil) (nomark _)) (pe_join pe_str (pv 10)) pe_str) pa_nil)))))))))))))))), ?_⟩
    obtain ⟨m, L, mP⟩ := Least.ex P P0 per
    obtain ⟨rr, hrr⟩ := law_step per P0 L
    have m0 := L.pos
    unfold tSeq tAsg
    dsimp only
    refine lcR2 1 P ((P : Int) + 1) (by omega) (fun i => decide (P % i = 0)) (fun i => V.int (i : Int)) (by omega) (by omega) (fun R r => ⟨_, rfl, _, _, rfl, rfl, r⟩) (fun i H' R1 R2 lo hi sm r1 r2 => ?_) (fun H1 D1 sm1 hD1 hk1 => ?_)
    · refine ⟨rfl, _, rfl, .inl ⟨_, rfl, _, rfl, _, _, rfl, rfl, by show (i : Int) ≠ 0; omega, rfl, _, rfl, ?_⟩⟩
      have em : decide (V.int (Int.fmod (P : Int) (i : Int)) = V.int 0) = decide (P % i = 0) := by rw [fmodN]; exact eqIN _ 0
      by_cases e : P % i = 0
      · exact ifT (em.trans (decide_eq_true e)) ⟨_, rfl, r2 H' (fun _ _ h => h) (decide_eq_true e)⟩
      · exact ifF (em.trans (decide_eq_false e)) (r1 H' (fun _ _ h => h) (decide_eq_false e))
    have f1 : ((List.range' 1 P).filter fun i => decide (P % i = 0)).length ≤ 72 := by
      have := List.length_filter_le (fun i => decide (P % i = 0)) (List.range' 1 P)
      rw [List.length_range'] at this
      omega
    unfold gName
    dsimp only
    refine lcL ((List.range' 1 P).filter fun i => decide (P % i = 0)) (fun (i : Nat) => V.int (i : Int)) (fun e => decide ((List.range' T0 P).filter (fun n => f n != f (n + e)) = [])) (fun (i : Nat) => V.int (i : Int)) (by omega)
      (fun R hR => ⟨_, rfl, hR D1 H1 (fun _ _ h => h) (.inl (.inl hk1))⟩) (fun e H' R1 R2 he sm r1 r2 => ⟨rfl, ?_⟩) (fun H2 D2 sm2 hD2 hk2 => ?_)
    · have em := (List.mem_filter.mp he).1
      have em := List.mem_range'_1.mp em
      unfold tTest tOp
      dsimp only
      refine lcR2 T0 P ((T0 : Int) + (P : Int)) (by omega) (fun n => f n != f (n + e)) (fun i => V.int (i : Int)) (by omega) (by omega) (fun R r => ⟨_, rfl, _, rfl, _, rfl, _, _, rfl, rfl, r⟩) (fun n H'' S1 S2 lo hi sm' s1' s2' => ?_) (fun H3 D3 sm3 hD3 hk3 => ?_)
      · have hl := SqL_same ((sm1.trans sm).trans sm') hB
        refine ⟨rfl, _, rfl, _, rfl, l, _, (n : Int), _, rfl, rfl, hl, bit_at_ (by omega), _, rfl, _, rfl, _, rfl, _, _, rfl, rfl, l, _, ((n + e : Nat) : Int), _, rfl, rfl, hl, bit_at_ (by omega), rfl, _, rfl, ?_⟩
        have eb : (!decide (V.bl (f n) = V.bl (f (n + e)))) = (f n != f (n + e)) := by rw [eqB]; rfl
        cases hc : (f n != f (n + e)) with
        | true => exact ifT (eb.trans hc) ⟨_, rfl, s2' H'' (fun _ _ h => h) hc⟩
        | false => exact ifF (eb.trans hc) (s1' H'' (fun _ _ h => h) hc)
      · refine ⟨Nat.zero_le _, fun E hE => ?_⟩
        have s4 := same_new (o := .lst []) hE
        refine ⟨.list (nD2 ((List.range' T0 P).filter fun n => f n != f (n + e))), .list [], .lst (.inl (.inl (s4 _ _ hk3))) (dp_nI _), .lst (.inl (.inl upd_same)) .nil, shape_nL _, shape_nL [], _, rfl, ?_⟩
        have e1 := eqv_nilL ((List.range' T0 P).filter fun n => f n != f (n + e))
        by_cases c : (List.range' T0 P).filter (fun n => f n != f (n + e)) = []
        · exact ifT (e1.trans (decide_eq_true c)) ⟨_, rfl, r2 _ (sm3.trans s4) (decide_eq_true c)⟩
        · exact ifF (e1.trans (decide_eq_false c)) (r1 _ (sm3.trans s4) (decide_eq_false c))
    rw [hrr] at hk2
    have s02 := sm1.trans sm2
    refine ⟨_, rfl, _, _, _, _, rfl, rfl, .inl (.inl hk2), at_first, _, rfl, _, _, rfl, ?_⟩
    dsimp only
    refine forR3 ((T0 : Int) - 1) T0 (-1) (fun j σ H' => H' = H2 ∧ ∃ (s : Nat) (x6 : Option V), σ = [some (.ref l), some (.int (T0 : Int)), some (.int (P : Int)), some (.ref D2), some (.int (m : Int)), some (.int (s : Int)), x6, none, none, none, none, none] ∧ Down f T0 m (T0 - j) s)
      (by omega) (by omega) (by omega) (by omega) (by omega) (fun R r => ⟨_, rfl, _, _, rfl, rfl, _, rfl, _, rfl, r⟩) ⟨rfl, T0, _, rfl, Down.start⟩ ?_ ?_
    · rintro j σ H' hj ⟨rfl, s, x6, rfl, dn⟩
      obtain ⟨n, hn⟩ : ∃ n, n + 1 = T0 - j := ⟨T0 - j - 1, by omega⟩
      have ev : (T0 : Int) - 1 + (j : Int) * (-1) = (n : Int) := by omega
      rw [← hn] at dn
      have hl := SqL_same s02 hB
      have tn := dn.turn
      have nx : ∀ s' : Nat, Down f T0 m n s' → H' = H' ∧ ∃ (s2 : Nat) (x6 : Option V), [some (V.ref l), some (.int (T0 : Int)), some (.int (P : Int)), some (.ref D2), some (.int (m : Int)), some (.int (s' : Int)), some (V.int (n : Int)), none, none, none, none, none] = [some (.ref l), some (.int (T0 : Int)), some (.int (P : Int)), some (.ref D2), some (.int (m : Int)), some (.int (s2 : Int)), x6, none, none, none, none, none] ∧ Down f T0 m (T0 - (j + 1)) s2 :=
        fun s' h => ⟨rfl, s', _, rfl, by rw [show T0 - (j + 1) = n by omega]; exact h⟩
      rw [ev]
      refine ⟨_, rfl, _, rfl, _, _, rfl, rfl, rfl, _, rfl, ?_⟩
      have e1 : decide (V.int (s : Int) = V.int ((n : Int) + 1)) = decide (s = n + 1) := eqIN s (n + 1)
      by_cases c : s = n + 1
      · refine ifT (e1.trans (decide_eq_true c)) ?_
        refine ⟨_, rfl, _, rfl, l, _, (n : Int), _, rfl, rfl, hl, bit_at_ (by omega), _, rfl, _, rfl, _, rfl, _, _, rfl, rfl, l, _, ((n + m : Nat) : Int), _, rfl, rfl, hl, bit_at_ (by omega), rfl, _, rfl, ?_⟩
        have e2 := eqB (f n) (f (n + m))
        by_cases c2 : f n = f (n + m)
        · rw [if_pos ⟨c, c2⟩] at tn
          refine ifT (e2.trans (by rw [c2]; simp)) ?_
          exact ⟨_, rfl, nx n tn⟩
        · rw [if_neg (fun z => c2 z.2)] at tn
          refine ifF (e2.trans (by simpa using c2)) ?_
          exact nx s tn
      · rw [if_neg (fun z => c z.1)] at tn
        exact ifF (e1.trans (decide_eq_false c)) (ifF rfl (nx s tn))
    rintro σ H3 ⟨rfl, st, x6, rfl, dn⟩
    rw [Nat.sub_self] at dn
    have can := dn.canon L
    have stT := dn.le
    dsimp only
    have hl := SqL_same s02 hB
    refine lcR1 st f (fun i => V.int (i : Int)) (by omega) (fun R r => ⟨_, rfl, r⟩) (fun i H' R1 R2 hi sm r1 r2 => ?_) (fun H4 D4 sm4 hD4 hk4 => ?_)
    · refine ⟨rfl, _, rfl, _, rfl, l, _, (i : Int), _, rfl, rfl, SqL_same sm hl, bit_at_ (by omega), _, rfl, ?_⟩
      cases hc : f i with
      | true => exact ifT rfl ⟨_, rfl, r2 H' (fun _ _ h => h) hc⟩
      | false => exact ifF rfl (r1 H' (fun _ _ h => h) hc)
    refine lcR2 st m ((st : Int) + (m : Int)) (by omega) f (fun i => V.int (i : Int)) (by omega) (by omega) (fun R r => ⟨_, rfl, _, rfl, _, rfl, _, _, rfl, rfl, r⟩) (fun i H' R1 R2 lo hi sm r1 r2 => ?_) (fun H5 D5 sm5 hD5 hk5 => ?_)
    · refine ⟨rfl, _, rfl, _, rfl, l, _, (i : Int), _, rfl, rfl, SqL_same (sm4.trans sm) hl, bit_at_ (by omega), _, rfl, ?_⟩
      cases hc : f i with
      | true => exact ifT rfl ⟨_, rfl, r2 H' (fun _ _ h => h) hc⟩
      | false => exact ifF rfl (r1 H' (fun _ _ h => h) hc)
    have hk4' : H4 D4 = some (.lst (nI (belowL f st))) := hk4
    have hk5' : H5 D5 = some (.lst (nI (cycL f st m))) := hk5
    have bl1 : (belowL f st).length ≤ 600 := by
      unfold belowL
      have := List.length_filter_le f (List.range st)
      rw [List.length_range] at this
      omega
    have cl1 : (cycL f st m).length ≤ 72 := by
      unfold cycL
      have := List.length_filter_le f (List.range' st m)
      rw [List.length_range'] at this
      omega
    have bm : ∀ n ∈ belowL f st, n ≤ 999 := fun n hn => by have := mem_belowL.mp hn; omega
    have cm : ∀ n ∈ cycL f st m, n ≤ 999 := fun n hn => by have := mem_cycL.mp hn; omega
    have nm : ∀ w ∈ normW f st m, w.1 ≤ 999 ∧ w.2 ≤ 999 := fun w hw => by
      rcases mem_normW.mp hw with ⟨e, h, _⟩ | ⟨e, h, _⟩ <;> omega
    have nl : (normW f st m).length ≤ 672 := by
      unfold normW
      rw [List.length_append, List.length_map, List.length_map]
      omega
    have ewr : (belowL f st).map (fun n => wordT (n, 0)) ++ (cycL f st m).map (fun n => wordT (n, m)) = (normW f st m).map wordT := by
      unfold normW
      rw [List.map_append, List.map_map, List.map_map]
      rfl
    have tl := tailT_len (s := m) (by omega)
    have s05 := (s02.trans sm4).trans sm5
    refine ⟨_, rfl, rfl, _, rfl, ?_⟩
    have ed : decide (V.int ((m : Nat) : Int) = V.int 1) = decide (m = 1) := eqIN m 1
    by_cases hp1 : m = 1
    case' pos =>
      refine ifT (by rw [ed, decide_eq_true hp1]) ?_
      rw [show Str.ofString "+" = tailT m by unfold tailT; rw [if_neg (by omega), if_pos hp1]]
      unfold tC tOp
      dsimp only
    case' neg =>
      refine ifF (by rw [ed, decide_eq_false hp1]) ?_
      have et : tailT m = Str.ofString "+" ++ Str.ofString (toString (m : Int)) := by
        unfold tailT
        rw [if_neg (by omega), if_neg hp1]
        rfl
      have n3 := num_len (i := (m : Int)) (by omega) (by omega)
      refine ⟨_, rfl, _, rfl, num_log (by omega) (by omega), _, _, rfl, rfl, sl_le (by rw [plus_len]; exact Nat.le_trans (Nat.add_le_add_left n3 1) (by decide)), ?_⟩
      rw [← et]
      unfold tOp
      dsimp only
    all_goals
      refine lcL (belowL f st) (fun (n : Nat) => V.int (n : Int)) (fun _ => true) (fun n => V.str (numS (n : Int))) (by omega) (fun R hR => ⟨_, rfl, hR D4 H5 (fun _ _ h => h) (.inl (.inl (sm5 _ _ hk4')))⟩) (fun x H' R1 R2 hx sm h1 h2 => ?_) (fun H6 D6 sm6 hD6 hk6 => ?_)
      · have := bm x hx
        refine ⟨rfl, yesI ?_⟩
        exact ⟨_, rfl, _, rfl, num_log (by omega) (by omega), h2 H' (fun _ _ h => h) rfl⟩
      refine lcL (cycL f st m) (fun (n : Nat) => V.int (n : Int)) (fun _ => true) (fun n => V.str (wordT (n, m))) (by omega) (fun R hR => ⟨_, rfl, hR D5 H6 (fun _ _ h => h) (.inl (.inl (sm6 _ _ hk5')))⟩) (fun x H' R1 R2 hx sm h1 h2 => ?_) (fun H7 D7 sm7 hD7 hk7 => ?_)
      · have := cm x hx
        have nl1 := num_len (i := (x : Int)) (by omega) (by omega)
        refine ⟨rfl, yesI ?_⟩
        exact ⟨_, rfl, _, rfl, num_log (by omega) (by omega), _, rfl, _, _, rfl, rfl, sl_le (Nat.le_trans (Nat.add_le_add nl1 tl) (by decide)), h2 H' (fun _ _ h => h) rfl⟩
      refine ⟨D6, D7, _, _, rfl, rfl, sm7 _ _ hk6, hk7, by simp only [List.length_map]; have := List.length_filter_le (fun _ => true) (belowL f st); have := List.length_filter_le (fun _ => true) (cycL f st m); exact sl_le (by omega), fun lg hlg => ?_⟩
      have el : List.map (fun n => V.str (numS ((n : Nat) : Int))) (List.filter (fun x => true) (belowL f st)) ++ List.map (fun n => V.str (wordT (n, m))) (List.filter (fun x => true) (cycL f st m)) = ((normW f st m).map wordT).map V.str := by
        rw [List.filter_eq_self.mpr (by simp), List.filter_eq_self.mpr (by simp), ← ewr, List.map_append, List.map_map, List.map_map]
        congr 1
      rw [el]
      have s8 := same_new (o := .lst (((normW f st m).map wordT).map V.str)) hlg
      have e8 : upd H7 lg (.lst (((normW f st m).map wordT).map V.str)) lg = some (.lst (((normW f st m).map wordT).map V.str)) := upd_same
      generalize upd H7 lg (.lst (((normW f st m).map wordT).map V.str)) = H8 at s8 e8 ⊢
      have sum1 := sum_len (k := 7) (ys := (normW f st m).map wordT) (words_le nm)
      rw [List.length_map] at sum1
      have s58 := (sm6.trans sm7).trans s8
      refine ⟨_, rfl, _, rfl, _, rfl, _, rfl, _, rfl, Nat.zero_le _, fun E hE => ?_⟩
      have s9 := same_new (o := .lst []) hE
      have e9 := s9 _ _ e8
      have fin : ∀ t : Addr, upd H8 E (.lst []) t = none → Q (.ref t) (upd (upd H8 E (.lst [])) t (.tup [V.int (m : Int), V.int (st : Int), V.ref D4, V.ref D5, V.str (setT (normW f st m))])) := fun t ht => by
        have sA := same_new (o := .tup [V.int (m : Int), V.int (st : Int), V.ref D4, V.ref D5, V.str (setT (normW f st m))]) ht
        have s5A := (s58.trans s9).trans sA
        exact k _ t m st D4 D5 (s05.trans s5A) (.inl (.inl upd_same)) (s5A _ _ (sm5 _ _ hk4')) (s5A _ _ hk5') can
      refine ⟨.list (sD ((normW f st m).map wordT)), .list [], .lst (.inl (.inl e9)) (dp_strs _), .lst (.inl (.inl upd_same)) .nil, shape_ws _, shape_ws [], _, rfl, ?_⟩
      have e1 := eqv_snil ((normW f st m).map wordT)
      by_cases hc : normW f st m = []
      · rw [hc, setT_nil] at fin
        refine ifF (by rw [e1, hc]; rfl) ?_
        exact ⟨by show 5 ≤ sizeLine; exact sl_le (by decide), fun t ht => fin t ht⟩
      · rw [setT_cons hc] at fin
        refine ifT (by rw [e1, decide_eq_false (by simpa using hc)]; rfl) ?_
        refine ⟨⟨_, rfl⟩, _, rfl, _, lg, (normW f st m).map wordT, rfl, rfl, .inl (.inl (.inl e9)), ?_, ?_⟩
        · have e1 : (Str.ofString " ").length = 1 := sp1_len
          rw [List.length_map, e1]
          omega
        · exact ⟨by show 5 ≤ sizeLine; exact sl_le (by decide), fun t ht => fin t ht⟩
end
end K1
namespace K1
open PySem PySem.Spec L2 Z K2 LamX
section
variable {P : Program} {w : World} {K : PySem.W.Frag} {mg : Str → Option Value} {base : Heap} {C CN CI : Addr}
theorem ok_law_members (T : Txt K mg C CN CI) (G__law_normal : Pr P w K mg base "_law_normal" s_law_normal 1 ["_law_bits_here", "_law_top_here", "_law_period"] (sp2_law_normal K)) : Pr P w K mg base "_law_members" s_law_members 2 ["_law_bits_here", "_law_top_here", "_law_period", "_law_many"] (r_lmemb K) := by
  obtain ⟨f, fd, F, gl, bd⟩ := T.d__law_members
  refine ⟨f, fd, F, gl, bd, F.ok sc_law_members (fun vs H Q E h => ?_) (fun cdv A outer s H vs Q E hr h => ?_)⟩
  · obtain ⟨l, T, P, f, M, many, rfl, _⟩ := h
    rfl
  · obtain ⟨l, T0, P, f, M0, many, rfl, hB, hM0, hM5, per, P0, P60, T500, m4, k⟩ := h
    have hu := hu_of hr
    refine ⟨_, (pss_cons (ps_asg (pcall G__law_normal (hr.mono (by decide)) (pa_cons (pv 0) (pa_cons (pv 1) (pa_cons (pv 2) pa_nil)))) (pg_tup rfl (pgs_cons (pg_name (i := 4) sc_law_members.nd rfl (Or.inr rfl)) (pgs_cons (pg_name (i := 5) sc_law_members.nd rfl (Or.inl rfl)) (pgs_cons (pg_name (i := 6) sc_law_members.nd rfl (Or.inl rfl)) (pgs_cons (pg_name (i := 7) sc_law_members.nd rfl (Or.inl rfl)) (pgs_cons (pg_name (i := 8) sc_law_members.nd rfl (Or.inl rfl)) pgs_nil)))))))
      (pss_cons (ps_set (i := 9) sc_law_members.nd rfl (Or.inl rfl) (pe_callTy call_list_of (by rfl) T.b_list (by decide +kernel) (pa_cons (pv 6) pa_nil)))
      (pss_cons (ps_for PassesOwn.never rfl (pi_range1 rfl T.b_range (pa_cons (pe_ifExp (pt_cmpR (op_neD hr.units) (pv 7) (pe_lst pa_nil) (nomark _)) (pv 3) pe_int) pa_nil)) (pg_name (i := 10) sc_law_members.nd rfl (Or.inr rfl))
      (pss_cons (ps_if (pt_cmpR op_ge (pe_callB call_len_seq (by rfl) T.b_len (by decide +kernel) (pa_cons (pv 9) pa_nil)) (pv 3) (nomark _)) (pss_one ps_break) pss_nil)
      (pss_one (ps_set (i := 9) sc_law_members.nd rfl (Or.inl rfl) (pe_op op_cat (pv 9) (pe_lc (own := [("_law_n", 11)]) (g := gName 11) (tt := tYes) rfl sc_law_members.nd (pi_list (pv 7)) (blkOk_by (own := [("_law_n", 11)]) (N := N_law_members) (sc := defScope s_law_members) (by decide +kernel)) (fun _ _ _ _ _ => (pg_name (i := 11) sc_law_members.nd rfl (Or.inl rfl))) (fun _ _ _ _ _ => pts_nil) (fun _ _ _ _ _ => (pe_op op_add (pv 11) (pe_op op_mul (pv 10) (pv 4))))))))))
      (pss_one (ps_ret (pe_callTy call_tupP (by rfl) T.b_tuple (by decide +kernel) (pa_cons (pe_slice sl_list (pv 9) po_none (po_some (pv 3))) pa_nil))))))), ?_⟩
    refine ⟨_, rfl, _, rfl, _, rfl, l, T0, P, f, M0, rfl, hB, hM0, hM5, per, P0, P60, T500, fun H1 t m st a' b' s1 ht ha hb can => ?_⟩
    obtain ⟨c1, c2⟩ := canon_low can per P0
    have p0 := can.pos
    have bl1 : (belowL f st).length ≤ 600 := by
      unfold belowL
      have := List.length_filter_le f (List.range st)
      rw [List.length_range] at this
      omega
    have cl1 : (cycL f st m).length ≤ 72 := by
      unfold cycL
      have := List.length_filter_le f (List.range' st m)
      rw [List.length_range'] at this
      omega
    refine ⟨t, _, rfl, ht, rfl, _, _, rfl, _, _, rfl, _, _, rfl, _, _, rfl, _, _, rfl, rfl, ?_⟩
    refine ⟨_, rfl, a', _, rfl, .inl (.inl (.inl ha)), fun D0 hD0 => ?_⟩
    have s2 := same_new (o := .lst (nI (belowL f st))) hD0
    have e2 : upd H1 D0 (.lst (nI (belowL f st))) D0 = some (.lst (nI (belowL f st))) := upd_same
    generalize upd H1 D0 (.lst (nI (belowL f st))) = H2 at s2 e2 ⊢
    have hb := s2 _ _ hb
    obtain ⟨N, hN⟩ : ∃ N, N = if cycL f st m = [] then 0 else many := ⟨_, rfl⟩
    have N4 : N ≤ many := by rw [hN]; split <;> omega
    try unfold gName
    try unfold tNext
    try unfold tSeq
    dsimp only
    refine forR1S N (fun i σ H' => Same H1 H' ∧ ∃ (a : Addr) (x10 x11 : Option V), σ = [some (.ref l), some (.int (T0 : Int)), some (.int (P : Int)), some (.int (many : Int)), some (.int (m : Int)), some (.int (st : Int)), some (.ref a'), some (.ref b'), some (.str (setT (normW f st m))), some (.ref a), x10, x11] ∧ H' a = some (.lst (nI (grow f st m i))) ∧ (grow f st m i).length ≤ 1200) (by omega) (fun R r => ?_) (fun H3 s3 => ⟨s2.trans s3, D0, _, _, rfl, by rw [grow_zero]; exact s3 _ _ e2, by rw [grow_zero]; omega⟩) (fun i σ H' hi h => ?_) (fun σ H' h => ?_)
    · refine ⟨_, rfl, Nat.zero_le _, fun E hE => ?_⟩
      refine ⟨.list (nD2 (cycL f st m)), .list [], .lst (.inl (.inl (same_new hE _ _ hb))) (dp_nI _), .lst (.inl (.inl upd_same)) .nil, shape_nL _, shape_nL [], ?_⟩
      rw [eqv_nilL]
      have r' := r _ (same_new (o := .lst []) hE)
      by_cases c : cycL f st m = []
      · refine ⟨_, rfl, ifF (by rw [decide_eq_true c]; rfl) ?_⟩
        rw [hN, if_pos c] at r'
        exact r'
      · refine ⟨_, rfl, ifT (by rw [decide_eq_false c]; rfl) ?_⟩
        rw [hN, if_neg c] at r'
        exact ⟨_, rfl, r'⟩
    · obtain ⟨sI, a, x10, x11, rfl, hl, hlen⟩ := h
      have hc : cycL f st m ≠ [] := fun e => by rw [if_pos e] at hN; omega
      have gl := grow_len hc i
      refine ⟨_, rfl, a, _, rfl, .inl (.inl (.inl hl)), _, rfl, _, _, rfl, rfl, _, rfl, ?_⟩
      have ln : (nI (grow f st m i)).length = (grow f st m i).length := by unfold nI; exact List.length_map ..
      rw [ln]
      by_cases c : many ≤ (grow f st m i).length
      · refine ifT (decide_eq_true (by omega)) ?_
        have gt := grow_take (f := f) (st := st) (p := m) (many := many) (T := i) (by omega) (.inr (.inl c))
        refine ⟨_, rfl, _, rfl, _, rfl, a, _, rfl, .inl (.inl hl), fun p1 hp1 => ?_⟩
        have s4 := same_new (o := .lst (cutV (nI (grow f st m i)) none (some (many : Int)))) hp1
        have ec : cutV (nI (grow f st m i)) none (some (many : Int)) = nI (membF f st m many) := by
          rw [← gt]
          unfold cutV nI
          rw [HT.sIx_nat]
          show (((grow f st m i).map _).drop 0).take (min many ((grow f st m i).map _).length - 0) = ((grow f st m i).take many).map _
          rw [List.drop_zero, Nat.sub_zero, List.map_take]
          by_cases c : many ≤ ((grow f st m i).map fun (n : Nat) => V.int (n : Int)).length
          · rw [Nat.min_eq_left c]
          · rw [Nat.min_eq_right (by omega), List.take_length, List.take_of_length_le (by omega)]
        refine ⟨p1, _, rfl, .inl (.inl upd_same), fun t1 o1 ht1 ho1 => ?_⟩
        have s5 := same_new (o := .frz o1 (.tup (cutV (nI (grow f st m i)) none (some (many : Int))))) ht1
        exact k _ t1 st m (((s1.trans sI).trans s4).trans s5) can (ec ▸ (PT.new ho1).sq)
      · refine ifF (decide_eq_false (by omega)) ?_
        refine ⟨_, rfl, ?_⟩
        try unfold tRet
        try unfold gName
        try unfold tNext
        try unfold tSeq
        try unfold tAsg
        try unfold tCB
        try unfold tCons
        try unfold tOp
        try dsimp only
        have hb' := sI _ _ (show H1 b' = _ from by assumption)
        refine lcL (cycL f st m) (fun (n : Nat) => V.int (n : Int)) (fun _ => true) (fun (n : Nat) => V.int ((n + i * m : Nat) : Int)) (by omega) (fun R r => ⟨_, rfl, r b' H' (fun _ _ h => h) (.inl (.inl hb'))⟩) (fun n H3 R1 R2 hn sm r1 r2 => ⟨rfl, yesI ?_⟩) (fun H3 D3 s3 hD3 hk3 => ?_)
        · refine ⟨_, rfl, _, rfl, _, rfl, _, _, rfl, rfl, .inr ⟨by omega, by omega⟩, _, _, rfl, rfl, ?_⟩
          have r := r2 H3 (fun _ _ h => h) rfl
          have e : (n : Int) + (i : Int) * (m : Int) = ((n + i * m : Nat) : Int) := by push_cast; rfl
          show R2 (V.int ((n : Int) + (i : Int) * (m : Int))) H3
          rw [e]
          exact r
        have hc2 : (cycL f st m).filter (fun _ => true) = cycL f st m := List.filter_eq_self.mpr (by simp)
        rw [hc2] at hk3
        have eg : nI (grow f st m i) ++ (cycL f st m).map (fun (n : Nat) => V.int ((n + i * m : Nat) : Int)) = nI (grow f st m (i + 1)) := by
          rw [grow_succ]
          unfold nI
          rw [List.map_append, List.map_map]
          rfl
        have gl2 : (grow f st m (i + 1)).length ≤ 1200 := by
          rw [grow_succ, List.length_append, List.length_map]
          omega
        refine ⟨a, D3, _, _, rfl, rfl, s3 _ _ hl, hk3, ?_, fun p1 hp1 => ?_⟩
        · unfold nI
          rw [List.length_map, List.length_map]
          exact sl_le (by omega)
        refine ⟨(sI.trans s3).trans (same_new hp1), p1, _, _, rfl, ?_, gl2⟩
        rw [upd_same, eg]
    · obtain ⟨sI, a, x10, x11, rfl, hl, hlen⟩ := h
      obtain ⟨i, rfl⟩ : ∃ i, N = i := ⟨_, rfl⟩
      have gt := grow_take (f := f) (st := st) (p := m) (many := many) (T := N) N4 (by
        by_cases c : cycL f st m = []
        · exact .inl c
        · rw [if_neg c] at hN
          exact .inr (.inr hN))
      refine ⟨_, rfl, _, rfl, _, rfl, a, _, rfl, .inl (.inl hl), fun p1 hp1 => ?_⟩
      have s4 := same_new (o := .lst (cutV (nI (grow f st m N)) none (some (many : Int)))) hp1
      have ec : cutV (nI (grow f st m N)) none (some (many : Int)) = nI (membF f st m many) := by
        rw [← gt]
        unfold cutV nI
        rw [HT.sIx_nat]
        show (((grow f st m N).map _).drop 0).take (min many ((grow f st m N).map _).length - 0) = ((grow f st m N).take many).map _
        rw [List.drop_zero, Nat.sub_zero, List.map_take]
        by_cases c : many ≤ ((grow f st m N).map fun (n : Nat) => V.int (n : Int)).length
        · rw [Nat.min_eq_left c]
        · rw [Nat.min_eq_right (by omega), List.take_length, List.take_of_length_le (by omega)]
      refine ⟨p1, _, rfl, .inl (.inl upd_same), fun t1 o1 ht1 ho1 => ?_⟩
      have s5 := same_new (o := .frz o1 (.tup (cutV (nI (grow f st m N)) none (some (many : Int))))) ht1
      exact k _ t1 st m (((s1.trans sI).trans s4).trans s5) can (ec ▸ (PT.new ho1).sq)
end
end K1
namespace K1
open PySem PySem.Spec L2 Z K2 LamX
section
variable {P : Program} {w : World} {K : PySem.W.Frag} {mg : Str → Option Value} {base : Heap} {C CN CI : Addr}
theorem ok_counted (T : Txt K mg C CN CI) (G_is_whole : Pr P w K mg base "is_whole" s_is_whole 2 ["value", "low", "high"] (q_is_whole K)) : PrMX P w K mg base C "counted" "Lengths.counted" s_counted 3 ["self", "high"] (r_counted K C CN) := by
  obtain ⟨f, fd, F, gl, bd⟩ := T.d_counted
  refine ⟨f, fd, F, gl, bd, F.okX sc_counted (fun vs H Q E h => ?_) (fun cdv A outer s H vs Q E hr h => ?_)⟩
  · obtain ⟨x, v, f, rfl, _⟩ := h
    rfl
  · obtain ⟨x, v, f, rfl, hx, h⟩ := h
    have hu := hu_of hr
    refine ⟨_, (pss_cons (ps_if (pt_not (pt_val (pcall G_is_whole (hr.mono (by decide)) (pa_cons (pv 1) (pa_cons pe_int (pa_cons (pe_globI rfl T.c_MOST_HIGH) pa_nil)))))) (pss_one (ps_raiseE rfl (takes_of rfl rfl rfl rfl) (ok_err_InvalidNumber T) (hr.mono (by decide)) (pa_cons (pv 1) pa_nil))) pss_nil)
      (pss_cons (ps_set (i := 2) sc_counted.nd rfl (Or.inl rfl) (pe_callB call_len_seq (by rfl) T.b_len (by decide +kernel) (pa_cons (pe_lc (own := [("number", 3)]) (g := gName 3) rfl sc_counted.nd (pi_tup (pe_fld (pv 0) rfl)) (blkOk_by (own := [("number", 3)]) (N := N_counted) (sc := defScope s_counted) (by decide +kernel)) (fun _ _ _ _ _ => (pg_name (i := 3) sc_counted.nd rfl (Or.inl rfl))) (fun _ _ _ _ _ => (pts_one (pt_cmpR op_le (pv 3) (pv 1) (nomark _)))) (fun _ _ _ _ _ => (pv 3))) pa_nil)))
      (pss_one (ps_ret (pe_op op_add (pv 2) (pe_callB (cr_sum rfl) (by rfl) T.b_sum (by decide +kernel) (pa_cons (pe_lc (own := [("number", 3)]) (g := gName 3) rfl sc_counted.nd (pi_tup (pe_fld (pv 0) rfl)) (blkOk_by (own := [("number", 3)]) (N := N_counted) (sc := defScope s_counted) (by decide +kernel)) (fun _ _ _ _ _ => (pg_name (i := 3) sc_counted.nd rfl (Or.inl rfl))) (fun _ _ _ _ _ => (pts_one (pt_cmpR op_le (pv 3) (pv 1) (nomark _)))) (fun _ _ _ _ _ => (pe_op op_add (pe_op op_fdivW (pe_op op_sub (pv 1) (pv 3)) (pe_fldK (K := K) rfl (pv 0) rfl)) pe_int))) pa_nil))))))), ?_⟩
    rcases h with ⟨ho, bad⟩ | ⟨high, rfl, h0, h1, k⟩
    · exact ⟨_, rfl, _, _, _, rfl, .inr ⟨ho, _, rfl, iteT ⟨_, rfl, _, rfl, bad⟩⟩⟩
    refine ⟨_, rfl, _, _, _, rfl, .inl ⟨⟨_, rfl, by omega, by omega⟩, _, rfl, iteF ?_⟩⟩
    obtain ⟨dx, r, bt, ct, st, p, b, S⟩ := hx
    obtain ⟨st6, p6⟩ := S.sm
    have p0 := S.rnd.can.pos
    have cl1 : (cycL f st p).length ≤ 60 := by
      unfold cycL
      have := List.length_filter_le f (List.range' st p)
      rw [List.length_range'] at this
      omega
    have bl1 : (belowL f st).length ≤ 600 := by
      unfold belowL
      have := List.length_filter_le f (List.range st)
      rw [List.length_range] at this
      omega
    try unfold tRet
    try unfold gName
    try unfold tNext
    try unfold tSeq
    try unfold tAsg
    try unfold tCB
    try unfold tCons
    try unfold tOp
    dsimp only
    refine lcT (belowL f st) (fun (n : Nat) => V.int (n : Int)) (fun (n : Nat) => decide ((n : Int) ≤ high)) (fun (n : Nat) => V.int (n : Int)) (by omega) (fun R r => ⟨_, rfl, x, C, dx, _, _, rfl, S.ob, T.cl, T.n_below, rfl, r bt H (fun _ _ h => h) S.be⟩) (fun n H3 R1 R2 hn sm r1 r2 => ⟨rfl, _, rfl, _, rfl, _, _, rfl, rfl, _, rfl, ?_⟩) (fun H3 D3 s3 hD3 hk3 => ?_)
    · cases hb : decide ((n : Int) ≤ high) with
      | true => exact ifT rfl ⟨_, rfl, r2 H3 (fun _ _ h => h) hb⟩
      | false => exact ifF rfl (r1 H3 (fun _ _ h => h) hb)
    refine ⟨D3, _, rfl, .inl (.inl (.inl hk3)), ?_⟩
    have S3 := S.same s3
    refine ⟨_, rfl, ?_⟩
    try unfold tRet
    try unfold gName
    try unfold tNext
    try unfold tSeq
    try unfold tAsg
    try unfold tCB
    try unfold tCons
    try unfold tOp
    dsimp only
    refine lcT (cycL f st p) (fun (n : Nat) => V.int (n : Int)) (fun (n : Nat) => decide ((n : Int) ≤ high)) (fun (n : Nat) => V.int ((high - (n : Int)) / (p : Int) + 1)) (by omega) (fun R r => ⟨_, rfl, x, C, dx, _, _, rfl, S3.ob, T.cl, T.n_cycle, rfl, r ct H3 (fun _ _ h => h) S3.cy⟩) (fun n H4 R1 R2 hn sm r1 r2 => ⟨rfl, _, rfl, _, rfl, _, _, rfl, rfl, _, rfl, ?_⟩) (fun H4 D4 s4 hD4 hk4 => ?_)
    · cases hb : decide ((n : Int) ≤ high) with
      | true => exact ifT rfl ⟨_, rfl, _, rfl, _, _, rfl, rfl, _, rfl, x, C, dx, _, _, rfl, (S3.same sm).ob, T.cl, T.n_step, rfl, _, _, rfl, rfl, wide_div (b := 10) (by omega) (by show (p : Int).natAbs < 2 ^ 10; omega) (by omega) (by omega), _, _, rfl, rfl, r2 H4 (fun _ _ h => h) hb⟩
      | false => exact ifF rfl (r1 H4 (fun _ _ h => h) hb)
    refine ⟨D4, ((cycL f st p).filter fun (n : Nat) => decide ((n : Int) ≤ high)).map fun (n : Nat) => (high - (n : Int)) / (p : Int) + 1, rfl, .inl (.inl (by rw [hk4, List.map_map]; rfl)), ?_⟩
    refine ⟨_, _, rfl, rfl, ?_⟩
    have := k _ st p (s3.trans s4) S.rnd.can
    unfold countF at this
    show Q (.int (((((belowL f st).filter _).map _).length : Int) + _)) H4
    rw [List.length_map]
    exact this
end
end K1
namespace K1
open PySem PySem.Spec L2 Z K2 LamX
section
variable {P : Program} {w : World} {K : PySem.W.Frag} {mg : Str → Option Value} {base : Heap} {C CN CI : Addr}
theorem ok_law_counted (T : Txt K mg C CN CI) (G__law_normal : Pr P w K mg base "_law_normal" s_law_normal 1 ["_law_bits_here", "_law_top_here", "_law_period"] (sp2_law_normal K)) : Pr P w K mg base "_law_counted" s_law_counted 2 ["_law_bits_here", "_law_top_here", "_law_period", "_law_high"] (r_lcount K) := by
  obtain ⟨f, fd, F, gl, bd⟩ := T.d__law_counted
  refine ⟨f, fd, F, gl, bd, F.ok sc_law_counted (fun vs H Q E h => ?_) (fun cdv A outer s H vs Q E hr h => ?_)⟩
  · obtain ⟨l, T, P, f, M, high, rfl, _⟩ := h
    rfl
  · obtain ⟨l, T0, P, f, M0, high, rfl, hB, hM0, hM5, per, P0, P60, T500, h0, h1, k⟩ := h
    have hu := hu_of hr
    refine ⟨_, (pss_cons (ps_asg (pcall G__law_normal (hr.mono (by decide)) (pa_cons (pv 0) (pa_cons (pv 1) (pa_cons (pv 2) pa_nil)))) (pg_tup rfl (pgs_cons (pg_name (i := 4) sc_law_counted.nd rfl (Or.inl rfl)) (pgs_cons (pg_name (i := 5) sc_law_counted.nd rfl (Or.inr rfl)) (pgs_cons (pg_name (i := 6) sc_law_counted.nd rfl (Or.inl rfl)) (pgs_cons (pg_name (i := 7) sc_law_counted.nd rfl (Or.inl rfl)) (pgs_cons (pg_name (i := 8) sc_law_counted.nd rfl (Or.inl rfl)) pgs_nil)))))))
      (pss_cons (ps_if (pt_cmpR op_lt (pv 3) (pv 5) (nomark _)) (pss_one (ps_ret (pe_callB call_len_seq (by rfl) T.b_len (by decide +kernel) (pa_cons (pe_lc (own := [("_law_n", 11)]) (g := gName 11) rfl sc_law_counted.nd (pi_list (pv 6)) (blkOk_by (own := [("_law_n", 11)]) (N := N_law_counted) (sc := defScope s_law_counted) (by decide +kernel)) (fun _ _ _ _ _ => (pg_name (i := 11) sc_law_counted.nd rfl (Or.inl rfl))) (fun _ _ _ _ _ => (pts_one (pt_cmpR op_le (pv 11) (pv 3) (nomark _)))) (fun _ _ _ _ _ => (pv 11))) pa_nil)))) pss_nil)
      (pss_cons (ps_asg (pe_callB call_divmod (by rfl) T.b_divmod (by decide +kernel) (pa_cons (pe_op op_sub (pv 3) (pv 5)) (pa_cons (pv 4) pa_nil))) (pg_tup rfl (pgs_cons (pg_name (i := 9) sc_law_counted.nd rfl (Or.inl rfl)) (pgs_cons (pg_name (i := 10) sc_law_counted.nd rfl (Or.inr rfl)) pgs_nil))))
      (pss_one (ps_ret (pe_op op_add (pe_op op_add (pe_callB call_len_seq (by rfl) T.b_len (by decide +kernel) (pa_cons (pv 6) pa_nil)) (pe_op op_mulW (pv 9) (pe_callB call_len_seq (by rfl) T.b_len (by decide +kernel) (pa_cons (pv 7) pa_nil)))) (pe_callB call_len_seq (by rfl) T.b_len (by decide +kernel) (pa_cons (pe_lc (own := [("_law_n", 11)]) (g := gName 11) rfl sc_law_counted.nd (pi_list (pv 7)) (blkOk_by (own := [("_law_n", 11)]) (N := N_law_counted) (sc := defScope s_law_counted) (by decide +kernel)) (fun _ _ _ _ _ => (pg_name (i := 11) sc_law_counted.nd rfl (Or.inl rfl))) (fun _ _ _ _ _ => (pts_one (pt_cmpR op_le (pe_op op_sub (pv 11) (pv 5)) (pv 10) (nomark _)))) (fun _ _ _ _ _ => (pv 11))) pa_nil)))))))), ?_⟩
    refine ⟨_, rfl, _, rfl, _, rfl, l, T0, P, f, M0, rfl, hB, hM0, hM5, per, P0, P60, T500, fun H1 t m st a' b' s1 ht ha hb can => ?_⟩
    obtain ⟨c1, c2⟩ := canon_low can per P0
    have p0 := can.pos
    have bl1 : (belowL f st).length ≤ 600 := by
      unfold belowL
      have := List.length_filter_le f (List.range st)
      rw [List.length_range] at this
      omega
    have cl1 : (cycL f st m).length ≤ 72 := by
      unfold cycL
      have := List.length_filter_le f (List.range' st m)
      rw [List.length_range'] at this
      omega
    refine ⟨t, _, rfl, ht, rfl, _, _, rfl, _, _, rfl, _, _, rfl, _, _, rfl, _, _, rfl, rfl, ?_⟩
    refine ⟨_, rfl, _, rfl, _, _, rfl, rfl, _, rfl, ?_⟩
    by_cases c : high < (st : Int)
    · refine ifT (decide_eq_true c) ?_
      try unfold tRet
      try unfold gName
      try unfold tNext
      try unfold tSeq
      try unfold tAsg
      try unfold tCB
      try unfold tCons
      try unfold tOp
      dsimp only
      refine lcL (belowL f st) (fun (n : Nat) => V.int (n : Int)) (fun (n : Nat) => decide ((n : Int) ≤ high)) (fun (n : Nat) => V.int (n : Int)) (by omega) (fun R r => ⟨_, rfl, r a' H1 (fun _ _ h => h) (.inl (.inl ha))⟩) (fun n H3 R1 R2 hn sm r1 r2 => ⟨rfl, _, rfl, _, rfl, _, _, rfl, rfl, _, rfl, ?_⟩) (fun H3 D3 s3 hD3 hk3 => ?_)
      · cases hb : decide ((n : Int) ≤ high) with
        | true => exact ifT rfl ⟨_, rfl, r2 H3 (fun _ _ h => h) hb⟩
        | false => exact ifF rfl (r1 H3 (fun _ _ h => h) hb)
      refine ⟨D3, _, rfl, .inl (.inl (.inl hk3)), ?_⟩
      have := k _ st m (s1.trans s3) can
      rw [count_low c] at this
      rw [List.length_map]
      exact this
    refine ifF (decide_eq_false c) ?_
    refine ⟨_, rfl, _, rfl, _, _, rfl, rfl, _, rfl, _, _, rfl, ⟨by omega, by omega⟩, fun q hq => ⟨q, _, rfl, .inl (.inl upd_same), rfl, _, _, rfl, _, _, rfl, rfl, ?_⟩⟩
    have s2 := same_new (o := .tup [V.int ((high - (st : Int)) / (m : Int)), V.int ((high - (st : Int)) % (m : Int))]) hq
    generalize upd H1 q (.tup [V.int ((high - (st : Int)) / (m : Int)), V.int ((high - (st : Int)) % (m : Int))]) = H2 at s2 ⊢
    have ha := s2 _ _ ha
    have hb := s2 _ _ hb
    have big : ((high - (st : Int)) / (m : Int)).natAbs < 2 ^ 110 := by
      have d0 : 0 ≤ (high - (st : Int)) / (m : Int) := Int.ediv_nonneg (by omega) (by omega)
      have d1 : (high - (st : Int)) / (m : Int) ≤ high - (st : Int) := Int.ediv_le_self _ (by omega)
      exact Nat.lt_of_le_of_lt (show ((high - (st : Int)) / (m : Int)).natAbs ≤ 1000000000000000000000000000000 by omega) (by decide +kernel)
    refine ⟨_, rfl, a', _, rfl, .inl (.inl (.inl ha)), _, rfl, _, rfl, b', _, rfl, .inl (.inl (.inl hb)), _, _, rfl, rfl, wide_mul (a := 110) (b := 10) big (by unfold nI; rw [List.length_map]; omega) (by omega) (by omega) (by omega), _, _, rfl, rfl, ?_⟩
    try unfold tRet
    try unfold gName
    try unfold tNext
    try unfold tSeq
    try unfold tAsg
    try unfold tCB
    try unfold tCons
    try unfold tOp
    dsimp only
    refine lcL (cycL f st m) (fun (n : Nat) => V.int (n : Int)) (fun (n : Nat) => decide ((n : Int) - st ≤ (high - st) % m)) (fun (n : Nat) => V.int (n : Int)) (by omega) (fun R r => ⟨_, rfl, r b' H2 (fun _ _ h => h) (.inl (.inl hb))⟩) (fun n H3 R1 R2 hn sm r1 r2 => ⟨rfl, _, rfl, _, rfl, _, _, rfl, rfl, _, rfl, _, _, rfl, rfl, _, rfl, ?_⟩) (fun H3 D3 s3 hD3 hk3 => ?_)
    · cases hb : decide ((n : Int) - st ≤ (high - st) % m) with
      | true => exact ifT rfl ⟨_, rfl, r2 H3 (fun _ _ h => h) hb⟩
      | false => exact ifF rfl (r1 H3 (fun _ _ h => h) hb)
    refine ⟨D3, _, rfl, .inl (.inl (.inl hk3)), _, _, rfl, rfl, ?_⟩
    have := k _ st m ((s1.trans s2).trans s3) can
    rw [count_high p0 (by omega)] at this
    rw [List.length_map]
    unfold nI
    rw [List.length_map, List.length_map]
    exact this
end
end K1
namespace K1
open PySem PySem.Spec L2 Z K2 LamX
theorem LSt.cht {K : PySem.W.Frag} {C j x : Addr} {H H' : Hp} {f : Nat → Bool} (e : ChT j H H') (hj : JugAt H j) (h : LSt K C H x f) : LSt K C H' x f := by
  have im : Imm H H' := ⟨fun b xs q => e b _ q (hj.neL q (fun _ z => by cases z)) (fun _ z => by cases z), fun b o u q => e b _ q (hj.neL q (fun _ z => by cases z)) (fun _ z => by cases z)⟩
  obtain ⟨dx, r, bt, ct, st, p, b, S⟩ := h
  exact ⟨dx, r, bt, ct, st, p, b, ⟨e _ _ S.ob (hj.neL S.ob (fun _ z => by cases z)) (fun _ z => by cases z), SqT.imm im S.rd, SqT.imm im S.be, SqT.imm im S.cy, S.rnd, S.sm⟩⟩
theorem LSt.obj {K : PySem.W.Frag} {C : Addr} {H : Hp} {x : Addr} {f : Nat → Bool} (h : LSt K C H x f) : ∃ (dx : Addr) (fs : List (Str × V)), H x = some (.ins C dx fs) ∧ fs.lookup (Str.ofString "members") = none ∧ fs.lookup (Str.ofString "counted") = none := by
  obtain ⟨dx, r, bt, ct, st, p, b, S⟩ := h
  exact ⟨dx, _, S.ob, rfl, rfl⟩
theorem ten30 : (10 : Int) ^ (30 : Int).toNat = 1000000000000000000000000000000 := by decide +kernel
theorem memb_lt {f : Nat → Bool} {st p many n : Nat} (h : n ∈ membF f st p many) : n < st + p + many * p := by
  unfold membF at h
  have h := List.mem_of_mem_take h
  unfold grow at h
  rcases List.mem_append.mp h with h | h
  · have := below_lt h
    omega
  · obtain ⟨l, hl, hn⟩ := List.mem_flatten.mp h
    obtain ⟨t, ht, rfl⟩ := List.mem_map.mp hl
    obtain ⟨m, hm, rfl⟩ := List.mem_map.mp hn
    have := cyc_in hm
    have := List.mem_range.mp ht
    have := Nat.mul_le_mul_right p (show t ≤ many by omega)
    omega
theorem show_tup {K : PySem.W.Frag} {H : Hp} {t : Addr} {ns : List Nat} {Q : VK} (h : SqT K H t (nI ns)) (hl : ns.length ≤ 1300) (hb : ∀ n ∈ ns, n < 1000000) (k : Q (.str (PyData.tuple (nD2 ns)).shown) H) : rShow K [V.ref t] H Q := by
  have F : Fit (.tuple (nD2 ns)) ((42 + 2) * (nD2 ns).length + 3) (0 + 1) := fit_tup (fun d hd => by
    obtain ⟨n, hn, rfl⟩ := List.mem_map.mp hd
    have := hb n hn
    exact fit_big (by omega) (by omega))
  have e : (nD2 ns).length = ns.length := List.length_map ..
  rw [e] at F
  refine ⟨_, .tuple (nD2 ns), rfl, .of (.tup h (dp_nI _)) F.nod, F.ok, Nat.le_trans F.dep (by decide), Nat.le_trans F.len ?_, k⟩
  rw [sizeLine_eq]
  omega
theorem memb_show {K : PySem.W.Frag} {H : Hp} {t : Addr} {f : Nat → Bool} {st p many : Nat} {Q : VK} (h : SqT K H t (nI (membF f st p many))) (hs : st ≤ 600) (hp : p ≤ 72) (hm : many ≤ 400) (k : Q (.str (PyData.tuple (nD2 (membF f st p many))).shown) H) : rShow K [V.ref t] H Q := by
  refine show_tup h ?_ (fun n hn => ?_) k
  · unfold membF
    rw [List.length_take]
    omega
  · have := memb_lt hn
    have := Nat.mul_le_mul hm hp
    omega
theorem count_bound {f : Nat → Bool} {st p : Nat} {high : Int} (hp : 0 < p) (hs : st ≤ 600) (hp2 : p ≤ 72) (h0 : 0 ≤ high) (h1 : high ≤ 1000000000000000000000000000000) : 0 ≤ countF f st p high ∧ countF f st p high < 10 ^ 40 := by
  have bl1 : (belowL f st).length ≤ 600 := by
    unfold belowL
    have := List.length_filter_le f (List.range st)
    rw [List.length_range] at this
    omega
  have cl1 : (cycL f st p).length ≤ 72 := by
    unfold cycL
    have := List.length_filter_le f (List.range' st p)
    rw [List.length_range'] at this
    omega
  by_cases c : high < (st : Int)
  · rw [count_low c]
    have := List.length_filter_le (fun (n : Nat) => decide ((n : Int) ≤ high)) (belowL f st)
    omega
  · rw [count_high hp (by omega)]
    have := List.length_filter_le (fun (n : Nat) => decide ((n : Int) - st ≤ (high - st) % p)) (cycL f st p)
    have d0 : 0 ≤ (high - (st : Int)) / (p : Int) := Int.ediv_nonneg (by omega) (by omega)
    have d1 : (high - (st : Int)) / (p : Int) ≤ high - (st : Int) := Int.ediv_le_self _ (by omega)
    have m0 : 0 ≤ (high - (st : Int)) / (p : Int) * ((cycL f st p).length : Int) := Int.mul_nonneg d0 (by omega)
    have m1 : (high - (st : Int)) / (p : Int) * ((cycL f st p).length : Int) ≤ 1000000000000000000000000000000 * 72 := Int.mul_le_mul (by omega) (by omega) (by omega) (by omega)
    omega
theorem show_two {K : PySem.W.Frag} {H : Hp} {q : Addr} {c : Int} {Q : VK} (h : H q = some (.lst [V.int c, V.int c])) (h0 : 0 ≤ c) (h1 : c < 10 ^ 40) (k : Q (.str (PyData.list [.int c, .int c]).shown) H) : rShow K [V.ref q] H Q := by
  obtain ⟨r1, r2, r3, r4, r5⟩ := repr_ok (K := K) (xs := [V.int c, V.int c]) (ds := [.int c, .int c]) (k := 42) (m := 0) (.inl (.inl h)) (.cons (.int _) (.cons (.int _) .nil)) (fun d hd => by
    simp only [List.mem_cons, List.not_mem_nil, or_false] at hd
    rcases hd with rfl | rfl <;> exact fit_big h0 h1) (by show (42 + 2) * 2 + 3 ≤ 16000000; decide) (by decide)
  exact ⟨_, _, rfl, .of r1 r3, r2, r4, r5, k⟩
section
variable {P : Program} {w : World} {K : PySem.W.Frag} {mg : Str → Option Value} {base : Heap} {C CN CI c Pt Pu : Addr}
theorem right7 (T : Txt K mg C CN CI) (G__law_odd : Pr P w K mg base "_law_odd" s_law_odd 3 ["_law_jug_here"] (q_odd K)) (G__law_is_whole : Pr P w K mg base "_law_is_whole" s_law_is_whole 1 ["_law_value", "_law_low", "_law_high"] (q_is_whole K)) (G__law_numbers_right : PrG P w K mg base "_law_numbers_right" s_law_numbers_right 11 ["_law_jug_here"] (r_numbers Pt Pu)) (G__law_members : Pr P w K mg base "_law_members" s_law_members 2 ["_law_bits_here", "_law_top_here", "_law_period", "_law_many"] (r_lmemb K)) (G_members : PrMX P w K mg base C "members" "Lengths.members" s_members 3 ["self", "many"] (r_members K C CN)) (G_counted : PrMX P w K mg base C "counted" "Lengths.counted" s_counted 3 ["self", "high"] (r_counted K C CN)) (ne : Pt ≠ Pu) (TB : TabB base mg c Pt) {A : Around} {outer : List Env} {s : Shared} {H0 : Hp} {E : XK} {f : Addr} (hr : Room 11 (A.deeper (PyProof.Rows.envOfC "_law_right" (defScope s_law_right) s.heap.objs.size f (.ref c)))) (hgd : (A.deeper (PyProof.Rows.envOfC "_law_right" (defScope s_law_right) s.heap.objs.size f (.ref c))).guards = some []) : ∃ t, PSs (cxOf CX0 P w K mg base N_law_right "_law_right" (defScope s_law_right) f (.ref c) A outer s H0 E).nox ((defBody s_law_right).drop 7) t ∧ ∀ (Q : VK) (H : Hp) (j x l : Addr) (g : Nat → Bool) (a Pd M : Nat) (a2 a3 a7 a8 a9 : Option V), JugAt H j → Tb H Pt Pu → LSt K C H x g → l ≠ j → H l = some (.lst (((List.range M).map g).map V.bl)) → a + 2 * Pd ≤ M → M ≤ 1000 → Per g a Pd → 0 < Pd → Pd ≤ 12 → a ≤ 60 → (∀ H', ChT j H H' → Tb H' Pt Pu → Q (.bl true) H') → t { nx := fun _ H' => Q .non H', rt := Q } [some (.ref j), some (.int (Pd : Int)), a2, a3, some (.int (a : Int)), some (.ref l), some (.ref x), a7, a8, a9] H := by
  have hu := hu_of hr
  refine ⟨_, (pss_cons (ps_for PassesOwn.never rfl (pi_list (pe_lst (pa_cons (pcall G__law_odd (hr.mono (by decide)) (pa_cons (pv 0) pa_nil)) (pa_cons pe_int (pa_cons (pe_op op_add (pe_op op_pow pe_int pe_int) pe_int) (pa_cons (pe_un un_neg pe_int) pa_nil)))))) (pg_name (i := 9) sc_law_right.nd rfl (Or.inr rfl))
      (pss_cons (ps_if (PW.pt (pw_and (pt_not (pt_val (pcall G__law_is_whole (hr.mono (by decide)) (pa_cons (pv 9) (pa_cons pe_int (pa_cons pe_int pa_nil)))))) (pw_and1 (pt_cmpR (op_neDK (K := K) rfl (show (Around.deeper A _).units + 64 < cLine from hr.units)) (tell (k := 8) T TB rfl rfl hmR (huR ne) hgd (by have h := hr.un; show (Around.deeper A _).units + 80 < cLine; omega) (hr.mono (by decide)) (fun A2 o2 s2 H2 E2 f2 c2 hr2 => (pmethX E2 (pv 6) T.cl G_members (hr2.mono (by decide)) (passes_call (takes_of rfl rfl rfl rfl) (fun _ _ _ _ h => h)) (pa_cons (pv 9) pa_nil))) (LamX.lamS_by (sc := defScope s_law_right) (by decide +kernel))) (pe_lst (pa_cons pe_str (pa_cons (pe_callB (call_show hgd hr.units) (by rfl) T.b_repr (by decide +kernel) (pa_cons (pv 9) pa_nil)) pa_nil))) (nomark _))))) (pss_one (ps_ret pe_bl)) pss_nil)
      (pss_one (ps_if (PW.pt (pw_and (pt_not (pt_val (pcall G__law_is_whole (hr.mono (by decide)) (pa_cons (pv 9) (pa_cons pe_int (pa_cons (pe_op op_pow pe_int pe_int) pa_nil)))))) (pw_and1 (pt_cmpR (op_neDK (K := K) rfl (show (Around.deeper A _).units + 64 < cLine from hr.units)) (tell (k := 8) T TB rfl rfl hmR (huR ne) hgd (by have h := hr.un; show (Around.deeper A _).units + 80 < cLine; omega) (hr.mono (by decide)) (fun A2 o2 s2 H2 E2 f2 c2 hr2 => (pmethX E2 (pv 6) T.cl G_counted (hr2.mono (by decide)) (passes_call (takes_of rfl rfl rfl rfl) (fun _ _ _ _ h => h)) (pa_cons (pv 9) pa_nil))) (LamX.lamS_by (sc := defScope s_law_right) (by decide +kernel))) (pe_lst (pa_cons pe_str (pa_cons (pe_callB (call_show hgd hr.units) (by rfl) T.b_repr (by decide +kernel) (pa_cons (pv 9) pa_nil)) pa_nil))) (nomark _))))) (pss_one (ps_ret pe_bl)) pss_nil))))
      (pss_one (ps_ret (pe_and (pe_cmpR op_eq (pe_callB (call_show hgd hr.units) (by rfl) T.b_repr (by decide +kernel) (pa_cons (pmethXN0 E0 (pv 6) T.cl G_members (hr.mono (by decide)) passL kb_members (pk_cons pe_int pk_nil)) pa_nil)) (pe_callB (call_show hgd hr.units) (by rfl) T.b_repr (by decide +kernel) (pa_cons (pcall G__law_members (hr.mono (by decide)) (pa_cons (pv 5) (pa_cons (pv 4) (pa_cons (pv 1) (pa_cons pe_int pa_nil))))) pa_nil)) (nomark _)) (pe_one (pcallG G__law_numbers_right (hr.mono (by decide)) hgd (pa_cons (pv 0) pa_nil))))))), ?_⟩
  intro Q H j x l g a P M a2 a3 a7 a8 a9 hj hT hL nl hl hM hM9 per P0 P12 a60 k
  refine forE (fun lt H1 => ∃ (v : V) (d : PyData), OddOk d = true ∧ (∀ H2, ChT j H1 H2 → OddN K H2 v d) ∧ Chg j H H1 ∧ JugAt H1 j ∧ lt ≠ j ∧ H1 lt = some (.lst [v, .int 401, .int (10 ^ (30 : Int).toNat + 1), .int (-1)])) (fun R hR => ?_) (fun lt H1 pre => ?_)
  · refine ⟨_, rfl, j, rfl, hj, fun H1 v c1 j1 hd => ?_⟩
    obtain ⟨d, okd, hd⟩ := hd
    refine ⟨10, 30, rfl, rfl, ⟨by decide, by decide, by decide⟩, _, _, rfl, rfl, _, rfl, by show 4 ≤ sizeLine; exact sl_le (by decide), fun lt hlt => ?_⟩
    have s2 := same_new (o := .lst [v, .int 401, .int (10 ^ (30 : Int).toNat + 1), .int (-1)]) hlt
    exact hR lt _ ⟨v, d, okd, fun H2 c => hd H2 ((ChT.of (Chg.of s2)).trans c), c1.trans (Chg.of s2), jugS s2 j1, j1.ne hlt, upd_same⟩
  obtain ⟨v, d, okd, hd, c1, j1, nlt, hlt⟩ := pre
  have L1 := hL.chg c1 hj
  have T1 := hT.chg c1 hj
  have okN : PyData.strOk (Str.ofString "number") = true := by decide +kernel
  have each : ∀ y ∈ [v, .int 401, .int (10 ^ (30 : Int).toNat + 1), .int (-1)], ∃ d', OddOk d' = true ∧ ∀ H2, ChT j H1 H2 → OddN K H2 y d' := fun y hy => by
    simp only [List.mem_cons, List.not_mem_nil, or_false] at hy
    rcases hy with rfl | rfl | rfl | rfl
    · exact ⟨d, okd, hd⟩
    · exact ⟨.int 401, by decide +kernel, fun _ _ => ⟨.inl ⟨_, rfl⟩, .of (.int _) rfl⟩⟩
    · exact ⟨.int (10 ^ (30 : Int).toNat + 1), by decide +kernel, fun _ _ => ⟨.inl ⟨_, rfl⟩, .of (.int _) rfl⟩⟩
    · exact ⟨.int (-1), by decide +kernel, fun _ _ => ⟨.inl ⟨_, rfl⟩, .of (.int _) rfl⟩⟩
  refine ⟨[v, .int 401, .int (10 ^ (30 : Int).toNat + 1), .int (-1)], fun i σ H' => ChT j H1 H' ∧ JugAt H' j ∧ Tb H' Pt Pu ∧ ∃ x9, σ = [some (.ref j), some (.int (P : Int)), a2, a3, some (.int (a : Int)), some (.ref l), some (.ref x), a7, a8, x9], ⟨fun _ _ h _ _ => h, j1, T1, _, rfl⟩, fun i σ H' _ h => .inl (.inl (h.1 _ _ hlt nlt (fun _ z => by cases z))), fun i y σ H' hy h => ?_, fun σ H' h => ?_⟩
  · obtain ⟨c5, j5, t5, x9, rfl⟩ := h
    obtain ⟨d', okd', hd'⟩ := each y (List.mem_of_getElem? hy)
    have okd2 := okd'
    unfold OddOk at okd2
    simp only [Bool.and_eq_true, decide_eq_true_eq] at okd2
    refine ⟨_, rfl, y, 0, 400, rfl, ?_⟩
    by_cases h1 : In y 0 400
    case' pos =>
      refine .inl ⟨h1, true, rfl, ifF rfl (ifF rfl ?_)⟩
      have c6 := c5
      have j6 := j5
      have t6 := t5
    case' neg =>
      refine .inr ⟨out_of h1 (hd' H' c5).1, false, rfl, ifT rfl ?_⟩
      refine ⟨Tb.all t5, fun HX xX tX => ?_⟩
      have cX : ChT j H1 HX := c5.trans (ChT.ext xX)
      have LX := LSt.cht cX j1 L1
      obtain ⟨dx, fs, hob, hm1, hm2⟩ := LX.obj
      refine ⟨_, rfl, x, dx, fs, rfl, hob, hm1, _, rfl, x, y, g, rfl, LX, .inl ⟨out_of h1 (hd' HX cX).1, bad_tells (fun H' s => (hd' H' (cX.trans (ChT.of (Chg.of s)))).2) okd' fun H3 q s' e => ?_⟩⟩
      have cH := cX.trans (ChT.of (Chg.of s'))
      refine ⟨_, rfl, y, d', rfl, (hd' H3 cH).2, okd2.1.1.2, okd2.1.2, okd2.2, by show 2 ≤ sizeLine; exact sl_le (by decide), fun q2 hq2 => ?_⟩
      have s2 := same_new (o := .lst [V.str (Str.ofString "number"), .str d'.shown]) hq2
      refine ⟨.list [.str (Str.ofString "number"), .str d'.shown], .list [.str (Str.ofString "number"), .str d'.shown], .lst (.inl (.inl (s2 _ _ e))) (.cons (.str _) (.cons (.str _) .nil)), .lst (.inl (.inl upd_same)) (.cons (.str _) (.cons (.str _) .nil)), shaped_two okN okd2.1.1.1, shaped_two okN okd2.1.1.1, ?_⟩
      rw [eqv_wt]
      refine ⟨_, rfl, ifF rfl ?_⟩
      have c6 := cH.trans (ChT.of (Chg.of s2))
      have j6 := jugS (s'.trans s2) (jugN xX j5)
      have t6 := Tb.same (s'.trans s2) (Tb.of tX)
    all_goals
      refine ⟨_, rfl, 10, 30, rfl, rfl, ⟨by decide, by decide, by decide⟩, y, 0, _, rfl, ?_⟩
      by_cases h2 : In y 0 1000000000000000000000000000000
      case' pos =>
        refine .inl ⟨by rw [ten30]; exact h2, true, rfl, ifF rfl (ifF rfl ?_)⟩
        have c7 := c6
        have j7 := j6
        have t7 := t6
      case' neg =>
        refine .inr ⟨by rw [ten30]; exact out_of h2 (hd' _ c6).1, false, rfl, ifT rfl ?_⟩
        refine ⟨Tb.all t6, fun HX xX tX => ?_⟩
        have cX : ChT j H1 HX := c6.trans (ChT.ext xX)
        have LX := LSt.cht cX j1 L1
        obtain ⟨dx, fs, hob, hm1, hm2⟩ := LX.obj
        refine ⟨_, rfl, x, dx, fs, rfl, hob, hm2, _, rfl, x, y, g, rfl, LX, .inl ⟨out_of h2 (hd' HX cX).1, bad_tells (fun H' s => (hd' H' (cX.trans (ChT.of (Chg.of s)))).2) okd' fun H3 q s' e => ?_⟩⟩
        have cH := cX.trans (ChT.of (Chg.of s'))
        refine ⟨_, rfl, y, d', rfl, (hd' H3 cH).2, okd2.1.1.2, okd2.1.2, okd2.2, by show 2 ≤ sizeLine; exact sl_le (by decide), fun q2 hq2 => ?_⟩
        have s2 := same_new (o := .lst [V.str (Str.ofString "number"), .str d'.shown]) hq2
        refine ⟨.list [.str (Str.ofString "number"), .str d'.shown], .list [.str (Str.ofString "number"), .str d'.shown], .lst (.inl (.inl (s2 _ _ e))) (.cons (.str _) (.cons (.str _) .nil)), .lst (.inl (.inl upd_same)) (.cons (.str _) (.cons (.str _) .nil)), shaped_two okN okd2.1.1.1, shaped_two okN okd2.1.1.1, ?_⟩
        rw [eqv_wt]
        refine ⟨_, rfl, ifF rfl ?_⟩
        have c7 := cH.trans (ChT.of (Chg.of s2))
        have j7 := jugS (s'.trans s2) (jugN xX j6)
        have t7 := Tb.same (s'.trans s2) (Tb.of tX)
      all_goals exact ⟨c7, j7, t7, _, rfl⟩
  · obtain ⟨c5, j5, t5, x9, rfl⟩ := h
    have L5 := LSt.cht c5 j1 L1
    have l5 := c5 _ _ (c1 _ _ hl nl) nl (fun _ z => by cases z)
    have L6 := L5
    obtain ⟨dx, fs, hob, hm1, hm2⟩ := L5.obj
    obtain ⟨sc, pc, canC, pc60⟩ : ∃ s p, Canon g s p ∧ p ≤ 60 := by
      obtain ⟨dx, r, bt, ct, st, p, b, S⟩ := L6
      exact ⟨st, p, S.rnd.can, S.sm.2⟩
    obtain ⟨q1, q2⟩ := canon_low canC per P0
    refine ⟨_, rfl, x, dx, fs, rfl, hob, hm1, rfl, x, _, g, rfl, L6, .inr ⟨2, rfl, by omega, fun H6 t st p s6 can ht => ?_⟩⟩
    obtain ⟨rfl, rfl⟩ := can.uniq canC
    try unfold tNil
    try dsimp only
    refine memb_show ht (by omega) (by omega) (by omega) ?_
    have l6 := s6 _ _ l5
    refine ⟨_, rfl, _, rfl, _, rfl, l, a, P, g, M, 2, rfl, .inl (.inl l6), hM, by omega, per, P0, by omega, by omega, by omega, fun H7 t7 st7 p7 s7 can7 ht7 => ?_⟩
    obtain ⟨rfl, rfl⟩ := can7.uniq can
    try unfold tNil
    try dsimp only
    refine memb_show ht7 (by omega) (by omega) (by omega) ?_
    refine ⟨rfl, true, congrArg V.bl (decide_eq_true rfl), iteT ?_⟩
    have s67 := s6.trans s7
    exact ⟨_, rfl, j, rfl, jugS s67 j5, Tb.same s67 t5, fun H8 c8 t8 => k H8 (((ChT.of c1).trans c5).trans ((ChT.of (Chg.of s67)).trans c8)) t8⟩
end
end K1
namespace K1
open PySem PySem.Spec L2 Z K2 LamX
section
variable {P : Program} {w : World} {K : PySem.W.Frag} {mg : Str → Option Value} {base : Heap} {C CN CI c Pt Pu : Addr}
theorem right6 (T : Txt K mg C CN CI) (G__law_take : Pr P w K mg base "_law_take" s_law_take 1 ["_law_jug_here", "_law_many"] sp_law_take) (G__law_counted : Pr P w K mg base "_law_counted" s_law_counted 2 ["_law_bits_here", "_law_top_here", "_law_period", "_law_high"] (r_lcount K)) (G__law_odd : Pr P w K mg base "_law_odd" s_law_odd 3 ["_law_jug_here"] (q_odd K)) (G__law_is_whole : Pr P w K mg base "_law_is_whole" s_law_is_whole 1 ["_law_value", "_law_low", "_law_high"] (q_is_whole K)) (G__law_numbers_right : PrG P w K mg base "_law_numbers_right" s_law_numbers_right 11 ["_law_jug_here"] (r_numbers Pt Pu)) (G__law_members : Pr P w K mg base "_law_members" s_law_members 2 ["_law_bits_here", "_law_top_here", "_law_period", "_law_many"] (r_lmemb K)) (G_counted : PrMX P w K mg base C "counted" "Lengths.counted" s_counted 3 ["self", "high"] (r_counted K C CN)) (G_members : PrMX P w K mg base C "members" "Lengths.members" s_members 3 ["self", "many"] (r_members K C CN)) (ne : Pt ≠ Pu) (TB : TabB base mg c Pt) {A : Around} {outer : List Env} {s : Shared} {H0 : Hp} {E : XK} {f : Addr} (hr : Room 11 (A.deeper (PyProof.Rows.envOfC "_law_right" (defScope s_law_right) s.heap.objs.size f (.ref c)))) (hgd : (A.deeper (PyProof.Rows.envOfC "_law_right" (defScope s_law_right) s.heap.objs.size f (.ref c))).guards = some []) : ∃ t, PSs (cxOf CX0 P w K mg base N_law_right "_law_right" (defScope s_law_right) f (.ref c) A outer s H0 E).nox ((defBody s_law_right).drop 6) t ∧ ∀ (Q : VK) (H : Hp) (j x l : Addr) (g : Nat → Bool) (a Pd M : Nat) (a2 a3 a7 a8 a9 : Option V), JugAt H j → Tb H Pt Pu → LSt K C H x g → l ≠ j → H l = some (.lst (((List.range M).map g).map V.bl)) → a + 2 * Pd ≤ M → M ≤ 1000 → Per g a Pd → 0 < Pd → Pd ≤ 12 → a ≤ 60 → (∀ H', ChT j H H' → Tb H' Pt Pu → Q (.bl true) H') → t { nx := fun _ H' => Q .non H', rt := Q } [some (.ref j), some (.int (Pd : Int)), a2, a3, some (.int (a : Int)), some (.ref l), some (.ref x), a7, a8, a9] H := by
  have hu := hu_of hr
  obtain ⟨tl, htl, go⟩ := right7 T G__law_odd G__law_is_whole G__law_numbers_right G__law_members G_members G_counted ne TB hr hgd (outer := outer) (H0 := H0) (E := E)
  refine ⟨_, (pss_cons (ps_for PassesOwn.never rfl (pi_list (pe_lst (pa_cons pe_int (pa_cons (pv 4) (pa_cons (pcall G__law_take (hr.mono (by decide)) (pa_cons (pv 0) (pa_cons pe_int pa_nil))) (pa_cons (pe_op op_sub (pe_op op_pow pe_int pe_int) (pcall G__law_take (hr.mono (by decide)) (pa_cons (pv 0) (pa_cons pe_int pa_nil)))) (pa_cons (pe_op op_add (pe_op op_pow pe_int pe_int) (pcall G__law_take (hr.mono (by decide)) (pa_cons (pv 0) (pa_cons pe_int pa_nil)))) pa_nil))))))) (pg_name (i := 8) sc_law_right.nd rfl (Or.inl rfl))
      (pss_one (ps_if (pt_cmpR op_ne (pe_callB (call_show hgd hr.units) (by rfl) T.b_repr (by decide +kernel) (pa_cons (pe_lst (pa_cons (pmethX E0 (pv 6) T.cl G_counted (hr.mono (by decide)) passL (pa_cons (pv 8) pa_nil)) (pa_cons (pmethXN0 E0 (pv 6) T.cl G_counted (hr.mono (by decide)) passL kb_counted (pk_cons (pv 8) pk_nil)) pa_nil))) pa_nil)) (pe_callB (call_show hgd hr.units) (by rfl) T.b_repr (by decide +kernel) (pa_cons (pe_op op_rep (pe_lst (pa_cons (pcall G__law_counted (hr.mono (by decide)) (pa_cons (pv 5) (pa_cons (pv 4) (pa_cons (pv 1) (pa_cons (pv 8) pa_nil))))) pa_nil)) pe_int) pa_nil)) (nomark _)) (pss_one (ps_ret pe_bl)) pss_nil)))
      htl), ?_⟩
  intro Q H j x l g a P M a2 a3 a7 a8 a9 hj hT hL nl hl hM hM9 per P0 P12 a60 k
  refine forE (fun lt H1 => Chg j H H1 ∧ JugAt H1 j ∧ ∃ ms : List Int, (∀ m ∈ ms, 0 ≤ m ∧ m ≤ 1000000000000000000000000000000) ∧ H1 lt = some (.lst (ms.map V.int))) (fun R hR => ?_) (fun lt H1 pre => ?_)
  · refine ⟨_, rfl, _, rfl, j, 100, rfl, hj, by decide, by decide, fun H1 k1 c1 j1 k10 k11 => ?_⟩
    refine ⟨10, 30, rfl, rfl, ⟨by decide, by decide, by decide⟩, _, rfl, j, 70, rfl, j1, by decide, by decide, fun H2 k2 c2 j2 k20 k21 => ⟨_, _, rfl, rfl, ?_⟩⟩
    refine ⟨10, 12, rfl, rfl, ⟨by decide, by decide, by decide⟩, _, rfl, j, 70, rfl, j2, by decide, by decide, fun H3 k3 c3 j3 k30 k31 => ⟨_, _, rfl, rfl, ?_⟩⟩
    refine ⟨by show 5 ≤ sizeLine; exact sl_le (by decide), fun lt hlt => ?_⟩
    have s3 := same_new (o := .lst ([0, (a : Int), k1, (10 : Int) ^ (30 : Int).toNat - k2, (10 : Int) ^ (12 : Int).toNat + k3].map V.int)) hlt
    refine hR lt _ ⟨((c1.trans c2).trans c3).trans (Chg.of s3), jugS s3 j3, [0, (a : Int), k1, (10 : Int) ^ (30 : Int).toNat - k2, (10 : Int) ^ (12 : Int).toNat + k3], fun m hm => ?_, upd_same⟩
    have e12 : (10 : Int) ^ (12 : Int).toNat = 1000000000000 := by decide +kernel
    rw [ten30, e12] at hm
    simp only [List.mem_cons, List.not_mem_nil, or_false] at hm
    rcases hm with rfl | rfl | rfl | rfl | rfl <;> omega
  obtain ⟨c1, j1, ms, hms, hlt⟩ := pre
  have L1 := hL.chg c1 hj
  have T1 := hT.chg c1 hj
  have l1 := c1 _ _ hl nl
  refine ⟨ms.map V.int, fun i σ H' => Same H1 H' ∧ ∃ x8, σ = [some (.ref j), some (.int (P : Int)), a2, a3, some (.int (a : Int)), some (.ref l), some (.ref x), a7, x8, a9], ⟨fun _ _ h => h, _, rfl⟩, fun i σ H' _ h => .inl (.inl (h.1 _ _ hlt)), fun i y σ H' hy h => ?_, fun σ H' h => ?_⟩
  · obtain ⟨s5, x8, rfl⟩ := h
    obtain ⟨m, hm, rfl⟩ := map_at hy
    obtain ⟨h0, h1⟩ := hms m (List.mem_of_getElem? hm)
    have L5 := L1.same s5
    have l5 := s5 _ _ l1
    obtain ⟨dx, fs, hob, hm1, hm2⟩ := L5.obj
    obtain ⟨sc, pc, canC, pc60⟩ : ∃ s p, Canon g s p ∧ p ≤ 60 := by
      obtain ⟨dx, r, bt, ct, st, p, b, S⟩ := id L5
      exact ⟨st, p, S.rnd.can, S.sm.2⟩
    obtain ⟨q1, q2⟩ := canon_low canC per P0
    refine ⟨_, rfl, x, dx, fs, rfl, hob, hm2, _, rfl, x, _, g, rfl, L5, .inr ⟨m, rfl, h0, h1, fun H6 st p s6 can => ?_⟩⟩
    obtain ⟨rfl, rfl⟩ := can.uniq canC
    have L6 := L5.same s6
    refine ⟨_, rfl, x, dx, fs, rfl, s6 _ _ hob, hm2, _, rfl, rfl, x, _, g, rfl, L6, .inr ⟨m, rfl, h0, h1, fun H7 st7 p7 s7 can7 => ?_⟩⟩
    obtain ⟨rfl, rfl⟩ := can7.uniq can
    refine ⟨by show 2 ≤ sizeLine; exact sl_le (by decide), fun q hq => ?_⟩
    have s8 := same_new (o := .lst [V.int (countF g st7 p7 m), V.int (countF g st7 p7 m)]) hq
    obtain ⟨b0, b1⟩ := count_bound (f := g) (st := st7) (p := p7) can7.pos (by omega) (by omega) h0 h1
    try unfold tNil
    try dsimp only
    refine show_two upd_same b0 b1 ?_
    have s68 := (s6.trans s7).trans s8
    have l8 := s68 _ _ l5
    refine ⟨_, rfl, _, rfl, _, rfl, _, rfl, l, a, P, g, M, m, rfl, .inl (.inl l8), hM, by omega, per, P0, by omega, by omega, h0, h1, fun H9 st9 p9 s9 can9 => ?_⟩
    obtain ⟨rfl, rfl⟩ := can9.uniq can7
    refine ⟨by show 1 ≤ sizeLine; exact sl_le (by decide), fun p1 hp1 => ⟨p1, 2, _, rfl, rfl, upd_same, by decide, by decide, by show 2 ≤ sizeLine; exact sl_le (by decide), fun p2 hp2 => ?_⟩⟩
    have sA := (same_new (o := .lst [V.int (countF g st9 p9 m)]) hp1).trans (same_new (o := .lst [V.int (countF g st9 p9 m), V.int (countF g st9 p9 m)]) hp2)
    try unfold tNil
    try dsimp only
    refine show_two (c := countF g st9 p9 m) upd_same b0 b1 ?_
    exact ⟨rfl, false, bl_ne _, iteF ⟨((s5.trans s68).trans s9).trans sA, _, rfl⟩⟩
  · obtain ⟨s5, x8, rfl⟩ := h
    exact go Q _ j x l g a P M _ _ _ _ _ (jugS s5 j1) (Tb.same s5 T1) (L1.same s5) nl (s5 _ _ l1) hM hM9 per P0 P12 a60 (fun H3 c3 t3 => k H3 ((ChT.of (c1.trans (Chg.of s5))).trans c3) t3)
end
end K1
namespace K1
open PySem PySem.Spec L2 Z K2 LamX
section
variable {P : Program} {w : World} {K : PySem.W.Frag} {mg : Str → Option Value} {base : Heap} {C CN CI c Pt Pu : Addr}
theorem right5 (T : Txt K mg C CN CI) (G__law_take : Pr P w K mg base "_law_take" s_law_take 1 ["_law_jug_here", "_law_many"] sp_law_take) (G__law_one_of : Pr P w K mg base "_law_one_of" s_law_one_of 2 ["_law_jug_here", "_law_some"] (sp_law_one_of K)) (G__law_members : Pr P w K mg base "_law_members" s_law_members 2 ["_law_bits_here", "_law_top_here", "_law_period", "_law_many"] (r_lmemb K)) (G__law_counted : Pr P w K mg base "_law_counted" s_law_counted 2 ["_law_bits_here", "_law_top_here", "_law_period", "_law_high"] (r_lcount K)) (G__law_odd : Pr P w K mg base "_law_odd" s_law_odd 3 ["_law_jug_here"] (q_odd K)) (G__law_is_whole : Pr P w K mg base "_law_is_whole" s_law_is_whole 1 ["_law_value", "_law_low", "_law_high"] (q_is_whole K)) (G__law_numbers_right : PrG P w K mg base "_law_numbers_right" s_law_numbers_right 11 ["_law_jug_here"] (r_numbers Pt Pu)) (G_members : PrMX P w K mg base C "members" "Lengths.members" s_members 3 ["self", "many"] (r_members K C CN)) (G_counted : PrMX P w K mg base C "counted" "Lengths.counted" s_counted 3 ["self", "high"] (r_counted K C CN)) (ne : Pt ≠ Pu) (TB : TabB base mg c Pt) {A : Around} {outer : List Env} {s : Shared} {H0 : Hp} {E : XK} {f : Addr} (hr : Room 11 (A.deeper (PyProof.Rows.envOfC "_law_right" (defScope s_law_right) s.heap.objs.size f (.ref c)))) (hgd : (A.deeper (PyProof.Rows.envOfC "_law_right" (defScope s_law_right) s.heap.objs.size f (.ref c))).guards = some []) : ∃ t, PSs (cxOf CX0 P w K mg base N_law_right "_law_right" (defScope s_law_right) f (.ref c) A outer s H0 E).nox ((defBody s_law_right).drop 5) t ∧ ∀ (Q : VK) (H : Hp) (j x l : Addr) (g : Nat → Bool) (a Pd M : Nat) (a2 a3 a7 a8 a9 : Option V), JugAt H j → Tb H Pt Pu → LSt K C H x g → l ≠ j → H l = some (.lst (((List.range M).map g).map V.bl)) → a + 2 * Pd ≤ M → M ≤ 1000 → Per g a Pd → 0 < Pd → Pd ≤ 12 → a ≤ 60 → (∀ H', ChT j H H' → Tb H' Pt Pu → Q (.bl true) H') → t { nx := fun _ H' => Q .non H', rt := Q } [some (.ref j), some (.int (Pd : Int)), a2, a3, some (.int (a : Int)), some (.ref l), some (.ref x), a7, a8, a9] H := by
  have hu := hu_of hr
  obtain ⟨tl, htl, go⟩ := right6 T G__law_take G__law_counted G__law_odd G__law_is_whole G__law_numbers_right G__law_members G_counted G_members ne TB hr hgd (outer := outer) (H0 := H0) (E := E)
  refine ⟨_, (pss_cons (ps_for PassesOwn.never rfl (pi_list (pe_lst (pa_cons pe_int (pa_cons pe_int (pa_cons (pcall G__law_take (hr.mono (by decide)) (pa_cons (pv 0) (pa_cons pe_int pa_nil))) (pa_cons (pcall G__law_one_of (hr.mono (by decide)) (pa_cons (pv 0) (pa_cons (pe_lst (pa_cons pe_int (pa_cons pe_int (pa_cons pe_int (pa_cons pe_int pa_nil))))) pa_nil))) pa_nil)))))) (pg_name (i := 7) sc_law_right.nd rfl (Or.inl rfl))
      (pss_one (ps_if (pt_cmpR op_ne (pe_callB (call_show hgd hr.units) (by rfl) T.b_repr (by decide +kernel) (pa_cons (pmethX E0 (pv 6) T.cl G_members (hr.mono (by decide)) passL (pa_cons (pv 7) pa_nil)) pa_nil)) (pe_callB (call_show hgd hr.units) (by rfl) T.b_repr (by decide +kernel) (pa_cons (pcall G__law_members (hr.mono (by decide)) (pa_cons (pv 5) (pa_cons (pv 4) (pa_cons (pv 1) (pa_cons (pv 7) pa_nil))))) pa_nil)) (nomark _)) (pss_one (ps_ret pe_bl)) pss_nil)))
      htl), ?_⟩
  intro Q H j x l g a P M a2 a3 a7 a8 a9 hj hT hL nl hl hM hM9 per P0 P12 a60 k
  refine forE (fun lt H1 => Chg j H H1 ∧ JugAt H1 j ∧ ∃ ms : List Nat, (∀ m ∈ ms, m ≤ 400) ∧ H1 lt = some (.lst (nI ms))) (fun R hR => ?_) (fun lt H1 pre => ?_)
  · refine ⟨_, rfl, j, 30, rfl, hj, by decide, by decide, fun H1 k1 c1 j1 k10 k11 => ⟨_, rfl, by show 4 ≤ sizeLine; exact sl_le (by decide), fun l0 hl0 => ?_⟩⟩
    have n0 := j1.ne hl0
    refine ⟨j, l0, [V.int 3, V.int 3, V.int 3, V.int 400], rfl, jug_upd n0 j1, n0, .inl (.inl upd_same), by simp, by simp, fun H2 v2 c2 j2 hv2 => ?_⟩
    obtain ⟨m2, rfl, b2⟩ : ∃ m : Nat, v2 = .int (m : Int) ∧ m ≤ 400 := by
      simp only [List.mem_cons, List.not_mem_nil, or_false] at hv2
      rcases hv2 with rfl | rfl | rfl | rfl
      · exact ⟨3, rfl, by decide⟩
      · exact ⟨3, rfl, by decide⟩
      · exact ⟨3, rfl, by decide⟩
      · exact ⟨400, rfl, by decide⟩
    obtain ⟨m1, rfl⟩ : ∃ n : Nat, k1 = (n : Int) := ⟨k1.toNat, by omega⟩
    refine ⟨by show 4 ≤ sizeLine; exact sl_le (by decide), fun lt hlt => ?_⟩
    have s3 := same_new (o := .lst (nI [0, 1, m1, m2])) hlt
    refine hR lt _ ⟨((c1.trans (Chg.of (same_new hl0))).trans c2).trans (Chg.of s3), jugS s3 j2, [0, 1, m1, m2], fun m hm => ?_, upd_same⟩
    simp only [List.mem_cons, List.not_mem_nil, or_false] at hm
    rcases hm with rfl | rfl | rfl | rfl <;> omega
  obtain ⟨c1, j1, ms, hms, hlt⟩ := pre
  have L1 := hL.chg c1 hj
  have T1 := hT.chg c1 hj
  have l1 := c1 _ _ hl nl
  refine ⟨nI ms, fun i σ H' => Same H1 H' ∧ ∃ x7, σ = [some (.ref j), some (.int (P : Int)), a2, a3, some (.int (a : Int)), some (.ref l), some (.ref x), x7, a8, a9], ⟨fun _ _ h => h, _, rfl⟩, fun i σ H' _ h => .inl (.inl (h.1 _ _ hlt)), fun i y σ H' hy h => ?_, fun σ H' h => ?_⟩
  · obtain ⟨s5, x7, rfl⟩ := h
    obtain ⟨m, hm, rfl⟩ := map_at hy
    have m4 := hms m (List.mem_of_getElem? hm)
    have L5 := L1.same s5
    have l5 := s5 _ _ l1
    obtain ⟨dx, fs, hob, hm1, hm2⟩ := L5.obj
    obtain ⟨sc, pc, canC, pc60⟩ : ∃ s p, Canon g s p ∧ p ≤ 60 := by
      obtain ⟨dx, r, bt, ct, st, p, b, S⟩ := id L5
      exact ⟨st, p, S.rnd.can, S.sm.2⟩
    obtain ⟨q1, q2⟩ := canon_low canC per P0
    refine ⟨_, rfl, x, dx, fs, rfl, hob, hm1, _, rfl, x, _, g, rfl, L5, .inr ⟨m, rfl, m4, fun H6 t st p s6 can ht => ?_⟩⟩
    obtain ⟨rfl, rfl⟩ := can.uniq canC
    try unfold tNil
    try dsimp only
    refine memb_show ht (by omega) (by omega) (by omega) ?_
    have l6 := s6 _ _ l5
    refine ⟨_, rfl, _, rfl, _, rfl, _, rfl, l, a, P, g, M, m, rfl, .inl (.inl l6), hM, by omega, per, P0, by omega, by omega, m4, fun H7 t7 st7 p7 s7 can7 ht7 => ?_⟩
    obtain ⟨rfl, rfl⟩ := can7.uniq can
    try unfold tNil
    try dsimp only
    refine memb_show ht7 (by omega) (by omega) (by omega) ?_
    exact ⟨rfl, false, bl_ne _, iteF ⟨(s5.trans s6).trans s7, _, rfl⟩⟩
  · obtain ⟨s5, x7, rfl⟩ := h
    exact go Q _ j x l g a P M _ _ _ _ _ (jugS s5 j1) (Tb.same s5 T1) (L1.same s5) nl (s5 _ _ l1) hM hM9 per P0 P12 a60 (fun H3 c3 t3 => k H3 ((ChT.of (c1.trans (Chg.of s5))).trans c3) t3)
end
end K1
namespace K1
open PySem PySem.Spec L2 Z K2 LamX
section
variable {P : Program} {w : World} {K : PySem.W.Frag} {mg : Str → Option Value} {base : Heap} {C CN CI c Pt Pu : Addr}
theorem ok_law_right (T : Txt K mg C CN CI) (G__law_steps : Pr P w K mg base "_law_steps" s_law_steps 3 ["_law_jug_here"] (sp2_law_steps K)) (G__law_drawn_words : Pr P w K mg base "_law_drawn_words" s_law_drawn_words 3 ["_law_jug_here", "_law_steps_here", "_law_high"] (sp2_drawn_words K)) (G__law_top : Pr P w K mg base "_law_top" s_law_top 1 ["_law_words"] (sp2_law_top K)) (G__law_bits : Pr P w K mg base "_law_bits" s_law_bits 2 ["_law_words", "_law_many"] (sp2_law_bits K)) (G_init : PrI P w K mg base C "Lengths.__init__" s_init 4 ["self", "text"] (sp2_init K C)) (G__law_set_text : Pr P w K mg base "_law_set_text" s_law_set_text 1 ["_law_words"] (sp2_set_text K)) (G__law_take : Pr P w K mg base "_law_take" s_law_take 1 ["_law_jug_here", "_law_many"] sp_law_take) (G__law_one_of : Pr P w K mg base "_law_one_of" s_law_one_of 2 ["_law_jug_here", "_law_some"] (sp_law_one_of K)) (G__law_odd : Pr P w K mg base "_law_odd" s_law_odd 3 ["_law_jug_here"] (q_odd K)) (G__law_numbers_right : PrG P w K mg base "_law_numbers_right" s_law_numbers_right 11 ["_law_jug_here"] (r_numbers Pt Pu)) (G_members : PrMX P w K mg base C "members" "Lengths.members" s_members 3 ["self", "many"] (r_members K C CN)) (G__law_members : Pr P w K mg base "_law_members" s_law_members 2 ["_law_bits_here", "_law_top_here", "_law_period", "_law_many"] (r_lmemb K)) (G__law_is_whole : Pr P w K mg base "_law_is_whole" s_law_is_whole 1 ["_law_value", "_law_low", "_law_high"] (q_is_whole K)) (G_counted : PrMX P w K mg base C "counted" "Lengths.counted" s_counted 3 ["self", "high"] (r_counted K C CN)) (G__law_counted : Pr P w K mg base "_law_counted" s_law_counted 2 ["_law_bits_here", "_law_top_here", "_law_period", "_law_high"] (r_lcount K)) (G_eq : PrE P w K mg base C "Lengths.__eq__" s_eq 1 (sp2_eq K C)) {f : Addr} {fd : FuncData} (F : Fun K "_law_right" "_law_right" s_law_right f fd) (hc : fd.code = .ref c) (ne : Pt ≠ Pu) (TB : TabB base mg c Pt) : FnG P w K mg base 12 f fd ["_law_jug_here"] (r_right Pt Pu) := by
  refine okGC F hc sc_law_right (fun vs H Q E h => ?_) (fun A outer s H vs Q E hr hgd h => ?_)
  · obtain ⟨j, rfl, _⟩ := h
    rfl
  · obtain ⟨j, rfl, hj, hT, k⟩ := h
    have hu := hu_of hr
    obtain ⟨tl, htl, go⟩ := right5 T G__law_take G__law_one_of G__law_members G__law_counted G__law_odd G__law_is_whole G__law_numbers_right G_members G_counted ne TB hr hgd (outer := outer) (H0 := H) (E := E)
    refine ⟨_, (pss_cons (ps_asg (pcall G__law_steps (hr.mono (by decide)) (pa_cons (pv 0) pa_nil)) (pg_tup rfl (pgs_cons (pg_name (i := 1) sc_law_right.nd rfl (Or.inl rfl)) (pgs_cons (pg_name (i := 2) sc_law_right.nd rfl (Or.inl rfl)) pgs_nil))))
      (pss_cons (ps_set (i := 3) sc_law_right.nd rfl (Or.inl rfl) (pcall G__law_drawn_words (hr.mono (by decide)) (pa_cons (pv 0) (pa_cons (pv 2) (pa_cons pe_int pa_nil)))))
      (pss_cons (ps_set (i := 4) sc_law_right.nd rfl (Or.inl rfl) (pcall G__law_top (hr.mono (by decide)) (pa_cons (pv 3) pa_nil)))
      (pss_cons (ps_set (i := 5) sc_law_right.nd rfl (Or.inl rfl) (pcall G__law_bits (hr.mono (by decide)) (pa_cons (pv 3) (pa_cons (pe_op op_add (pv 4) (pe_op op_mulW pe_int (pv 1))) pa_nil))))
      (pss_cons (ps_set (i := 6) sc_law_right.nd rfl (Or.inr rfl) (pmake G_init T.mgC (hr.mono (by decide)) (pa_cons (pcall G__law_set_text (hr.mono (by decide)) (pa_cons (pv 3) pa_nil)) pa_nil)))
      htl))))), ?_⟩
    refine ⟨_, rfl, j, rfl, hj, fun H1 t lst P ss c1 j1 ht nls hls P0 P12 hss hne hlen => ?_⟩
    refine ⟨t, _, rfl, ht, rfl, _, _, rfl, _, _, rfl, rfl, ?_⟩
    refine ⟨_, rfl, _, rfl, j, lst, ss, 40, rfl, j1, nls, hls, hne, by omega, by omega, fun H2 v ws c2 j2 nv hW wl hws => ?_⟩
    have cT := c1.trans c2
    have T2 := hT.chg cT hj
    have stp : StepsOk ws P := fun w hw => hss _ (hws w hw).2
    have tw : top ws ≤ 41 := top_le fun w hw => by have := (hws w hw).1; omega
    have per : Per (has ws) (top ws) P := has_per stp
    obtain ⟨a, ha⟩ : ∃ a, top ws = a := ⟨_, rfl⟩
    rw [ha] at tw per
    refine ⟨_, rfl, v, ws, rfl, hW, by omega, fun H3 s3 => ?_⟩
    rw [ha]
    have wok : WOk ws P := ⟨by omega, P0, by omega, stp, fun w hw => by have := (hws w hw).1; omega⟩
    refine ⟨_, rfl, _, rfl, _, rfl, _, _, rfl, rfl, wide_mul (a := 2) (b := 10) (by decide) (by show (P : Int).natAbs < 2 ^ 10; omega) (by decide) (by decide) (by decide), _, _, rfl, rfl, v, ws, a + 2 * P, congrArg (fun z : Int => [v, V.int z]) (show (a : Int) + 2 * (P : Int) = ((a + 2 * P : Nat) : Int) by omega), hW.same s3, by omega, fun H4 l s4 hl hkl => ?_⟩
    refine ⟨_, rfl, v, ws, rfl, (hW.same s3).same s4, by omega, fun w hw => ?_, fun Ha sa x dx h1 h2 h3 => ?_⟩
    · have := (hws w hw).1
      have := hss _ (hws w hw).2
      refine ⟨by omega, ?_⟩
      rcases this with h | h
      · omega
      · have := Nat.le_of_dvd P0 h
        omega
    refine ⟨x, dx, ws, P, rfl, upd_same, wok, fun Hb Lx cg => ⟨rfl, ?_⟩⟩
    have sm := sa.trans (same_mk h1 h2 h3 cg)
    have s34 := (s3.trans s4).trans sm
    have j5 := jugS s34 j2
    exact go Q _ j x l (has ws) a P (a + 2 * P) _ _ _ _ _ j5 (Tb.same s34 T2) Lx (JugAt.ne (jugS s3 j2) hl) (sm _ _ hkl) (by omega) (by omega) per P0 P12 (by omega) (fun H3 c3 t3 => k H3 ((ChT.of (cT.trans (Chg.of s34))).trans c3) t3)
end
end K1
namespace K1
open PySem PySem.Spec L2 Z K2
section
variable {P : Program} {w : World} {K : PySem.W.Frag} {mg : Str → Option Value} {base : Heap} {C CN CI : Addr}
theorem ok_law_jug (T : Txt K mg C CN CI)  : Pr P w K mg base "_law_jug" s_law_jug 1 ["_law_script", "_law_turn"] (sp_law_jug K) := by
  obtain ⟨f, fd, F, gl, bd⟩ := T.d__law_jug
  refine ⟨f, fd, F, gl, bd, F.ok sc_law_jug (fun vs H Q E h => ?_) (fun cdv A outer s H vs Q E hr h => ?_)⟩
  · obtain ⟨a, ns, t, rfl, _⟩ := h
    rfl
  · obtain ⟨a, ns, t, rfl, hs, h1, h2, hz, k⟩ := h
    have hu := hu_of hr
    refine ⟨_, (pss_cons (ps_set (i := 2) sc_law_jug.nd rfl (Or.inl rfl) (pe_op op_add pe_int (pe_op op_mul pe_int (pv 1))))
      (pss_cons (ps_for PassesOwn.never rfl (pi_list (pe_slice sl_list (pv 0) po_none (po_some pe_int))) (pg_name (i := 3) sc_law_jug.nd rfl (Or.inl rfl))
      (pss_one (ps_set (i := 2) sc_law_jug.nd rfl (Or.inl rfl) (pe_op op_modN (pe_callTy call_int1 (by rfl) T.b_int (by decide +kernel) (pa_cons (pe_op op_add (pe_op op_add (pe_op op_mul (pv 2) pe_int) (pe_op op_mul (pe_op op_modN (pe_callTy call_int1 (by rfl) T.b_int (by decide +kernel) (pa_cons (pv 3) pa_nil)) pe_int) pe_int)) pe_int) pa_nil)) pe_int))))
      (pss_cons (ps_set (i := 4) sc_law_jug.nd rfl (Or.inl rfl) (pe_ifExp (pt_cmpR op_lt (pv 1) (pe_callB call_len_seq (by rfl) T.b_len (by decide +kernel) (pa_cons (pv 0) pa_nil)) (nomark _)) (pe_callTy call_int1 (by rfl) T.b_int (by decide +kernel) (pa_cons (pe_ix ix_list (pv 0) (pv 1) (fun _ _ => rfl)) pa_nil)) (pv 2)))
      (pss_cons (ps_set (i := 5) sc_law_jug.nd rfl (Or.inl rfl) (pe_ifExp (pt_cmpR op_ge (pe_callB call_abs (by rfl) T.b_abs (by decide +kernel) (pa_cons (pv 4) pa_nil)) (pe_op op_pow pe_int pe_int) (nomark _)) (pe_callB call_abs (by rfl) T.b_abs (by decide +kernel) (pa_cons (pv 4) pa_nil)) pe_int))
      (pss_one (ps_ret (pe_lst (pa_cons (pv 5) (pa_cons (pe_op op_modN (pe_callTy call_int1 (by rfl) T.b_int (by decide +kernel) (pa_cons (pe_op op_add (pe_op op_add (pe_op op_mul (pv 2) pe_int) (pe_op op_mul (pe_op op_modN (pe_callTy call_int1 (by rfl) T.b_int (by decide +kernel) (pa_cons (pv 4) pa_nil)) pe_int) pe_int)) pe_int) pa_nil)) pe_int) (pa_cons pe_int pa_nil)))))))))), ?_⟩
    refine ⟨_, rfl, _, _, rfl, rfl, .inl ⟨by decide, by decide⟩, _, _, rfl, rfl, ?_⟩
    refine ⟨_, rfl, _, rfl, a, _, rfl, hs, fun l hl => ?_⟩
    have s1 : Same H (upd H l (.lst (cutV (ns.map V.int) none (some 8)))) := same_new hl
    have l1 : upd H l (.lst (cutV (ns.map V.int) none (some 8))) l = some (.lst (cutV (ns.map V.int) none (some 8))) := upd_same
    generalize upd H l (.lst (cutV (ns.map V.int) none (some 8))) = H1 at s1 l1 ⊢
    refine ⟨l, rfl, ⟨_, .inl (.inl l1)⟩, ?_⟩
    refine for_list (xs := cutV (ns.map V.int) none (some 8)) (fun i σ H' => H' = H1 ∧ ∃ sd : Int, ∃ x, σ = [some (.ref a), some (.int t), some (.int sd), x, none, none] ∧ -(2 ^ 64) < sd ∧ sd < 2 ^ 64) ⟨rfl, _, _, rfl, by omega, by omega⟩ (fun i σ H' _ h => .inl (.inl (by rw [h.1]; exact l1))) ?_ ?_
    · rintro i x σ H' hx ⟨rfl, sd, x0, rfl, b1, b2⟩
      obtain ⟨z, hz, rfl⟩ := List.mem_map.mp (cut_mem (List.mem_of_getElem? hx))
      refine ⟨_, rfl, _, _, rfl, rfl, .inr ⟨by decide, by decide⟩, _, rfl, .inl ⟨_, rfl, _, _, rfl, rfl, nz1, _, _, rfl, rfl, .inr ⟨by decide, by decide⟩, _, _, rfl, rfl, _, _, rfl, rfl, .inl ⟨_, rfl, _, _, rfl, rfl, nz1, rfl, _, _, rfl, ?_, ?_⟩⟩⟩
      · exact Int.lt_of_lt_of_le (by decide) (fm_range (by decide)).1
      · exact Int.lt_trans (fm_range (by decide)).2 (by decide)
    rintro σ H' ⟨rfl, sd, x0, rfl, b1, b2⟩
    by_cases ht : t < (ns.length : Int)
    · obtain ⟨y, hy, hat⟩ := at_of (xs := ns.map V.int) h1 (by rw [List.length_map]; exact ht)
      obtain ⟨cell, _, rfl⟩ := List.mem_map.mp hy
      refine ⟨_, rfl, _, rfl, a, _, rfl, .inl (SqL_same s1 hs), _, _, rfl, rfl, true, congrArg V.bl (decide_eq_true (by rw [List.length_map]; exact ht)), iteT ?_⟩
      refine ⟨_, rfl, _, rfl, a, _, t, _, rfl, rfl, SqL_same s1 hs, hat, .inl ⟨_, rfl, ?_⟩⟩
      by_cases hg : (10 : Int) ^ 18 ≤ (if cell < 0 then -cell else cell)
      · refine ⟨_, rfl, _, rfl, _, _, rfl, rfl, ⟨by decide, by decide, by decide⟩, _, _, rfl, rfl, true, congrArg V.bl (decide_eq_true hg), iteT ⟨_, rfl, _, rfl, ?_⟩⟩
        refine ⟨_, rfl, _, rfl, _, _, rfl, rfl, .inr ⟨by decide, by decide⟩, _, rfl, .inl ⟨_, rfl, _, _, rfl, rfl, nz1, _, _, rfl, rfl, .inr ⟨by decide, by decide⟩, _, _, rfl, rfl, _, _, rfl, rfl, .inl ⟨_, rfl, _, _, rfl, rfl, nz2, by show 3 ≤ sizeLine; exact sl_le (by decide), fun q hq => ?_⟩⟩⟩
        refine k _ q (s1.trans (same_new hq)) (none_of s1 hq) ⟨_, _, _, upd_same, ?_, ?_⟩
        · exact Int.lt_of_lt_of_le (by decide) (fm_range (by decide)).1
        · exact Int.lt_trans (fm_range (by decide)).2 (by decide)
      · refine ⟨_, rfl, _, rfl, _, _, rfl, rfl, ⟨by decide, by decide, by decide⟩, _, _, rfl, rfl, false, congrArg V.bl (decide_eq_false hg), iteF ?_⟩
        refine ⟨_, rfl, _, rfl, _, _, rfl, rfl, .inr ⟨by decide, by decide⟩, _, rfl, .inl ⟨_, rfl, _, _, rfl, rfl, nz1, _, _, rfl, rfl, .inr ⟨by decide, by decide⟩, _, _, rfl, rfl, _, _, rfl, rfl, .inl ⟨_, rfl, _, _, rfl, rfl, nz2, by show 3 ≤ sizeLine; exact sl_le (by decide), fun q hq => ?_⟩⟩⟩
        refine k _ q (s1.trans (same_new hq)) (none_of s1 hq) ⟨_, _, _, upd_same, ?_, ?_⟩
        · exact Int.lt_of_lt_of_le (by decide) (fm_range (by decide)).1
        · exact Int.lt_trans (fm_range (by decide)).2 (by decide)
    · refine ⟨_, rfl, _, rfl, a, _, rfl, .inl (SqL_same s1 hs), _, _, rfl, rfl, false, congrArg V.bl (decide_eq_false (by rw [List.length_map]; exact ht)), iteF ⟨_, rfl, ?_⟩⟩
      by_cases hg : (10 : Int) ^ 18 ≤ (if sd < 0 then -sd else sd)
      · refine ⟨_, rfl, _, rfl, _, _, rfl, rfl, ⟨by decide, by decide, by decide⟩, _, _, rfl, rfl, true, congrArg V.bl (decide_eq_true hg), iteT ⟨_, rfl, _, rfl, ?_⟩⟩
        refine ⟨_, rfl, _, rfl, _, _, rfl, rfl, .inr ⟨by decide, by decide⟩, _, rfl, .inl ⟨_, rfl, _, _, rfl, rfl, nz1, _, _, rfl, rfl, .inr ⟨by decide, by decide⟩, _, _, rfl, rfl, _, _, rfl, rfl, .inl ⟨_, rfl, _, _, rfl, rfl, nz2, by show 3 ≤ sizeLine; exact sl_le (by decide), fun q hq => ?_⟩⟩⟩
        refine k _ q (s1.trans (same_new hq)) (none_of s1 hq) ⟨_, _, _, upd_same, ?_, ?_⟩
        · exact Int.lt_of_lt_of_le (by decide) (fm_range (by decide)).1
        · exact Int.lt_trans (fm_range (by decide)).2 (by decide)
      · refine ⟨_, rfl, _, rfl, _, _, rfl, rfl, ⟨by decide, by decide, by decide⟩, _, _, rfl, rfl, false, congrArg V.bl (decide_eq_false hg), iteF ?_⟩
        refine ⟨_, rfl, _, rfl, _, _, rfl, rfl, .inr ⟨by decide, by decide⟩, _, rfl, .inl ⟨_, rfl, _, _, rfl, rfl, nz1, _, _, rfl, rfl, .inr ⟨by decide, by decide⟩, _, _, rfl, rfl, _, _, rfl, rfl, .inl ⟨_, rfl, _, _, rfl, rfl, nz2, by show 3 ≤ sizeLine; exact sl_le (by decide), fun q hq => ?_⟩⟩⟩
        refine k _ q (s1.trans (same_new hq)) (none_of s1 hq) ⟨_, _, _, upd_same, ?_, ?_⟩
        · exact Int.lt_of_lt_of_le (by decide) (fm_range (by decide)).1
        · exact Int.lt_trans (fm_range (by decide)).2 (by decide)
end
end K1
namespace K1
open PySem PySem.Spec L2 Z K2 LamX
theorem tabs_upd {H : Hp} {D P : Addr} {q : Str} {l : List V} {o : HO} (h : H D = some (.lst l)) (t : TabS H P q) : TabS (upd H D o) P q := by
  obtain ⟨ps, h1, h2, h3⟩ := t
  have n : ∀ {b : Addr} {u : HO}, H b = some u → u ≠ .lst l → b ≠ D := fun e d z => by
    rw [z, h] at e
    exact d (Option.some.inj e).symm
  refine ⟨ps, by rw [upd_ne (n h1 (fun z => by cases z))]; exact h1, h2, fun pos cv hc => ?_⟩
  obtain ⟨a, e1, e2⟩ := h3 pos cv hc
  exact ⟨a, e1, by rw [upd_ne (n e2 (fun z => by cases z))]; exact e2⟩
theorem Tb.upd {H : Hp} {D Pt Pu : Addr} {l : List V} {o : HO} (h : H D = some (.lst l)) (t : Tb H Pt Pu) : Tb (upd H D o) Pt Pu := ⟨tabs_upd h t.1, tabs_upd h t.2⟩
section
variable {P : Program} {w : World} {K : PySem.W.Frag} {mg : Str → Option Value} {base : Heap} {C CN CI c Pt Pu : Addr}
theorem ok_law (T : Txt K mg C CN CI) (G__law_jug : Pr P w K mg base "_law_jug" s_law_jug 1 ["_law_script", "_law_turn"] (sp_law_jug K)) (G__law_right : PrG P w K mg base "_law_right" s_law_right 12 ["_law_jug_here"] (r_right Pt Pu)) : PrG P w K mg base "law" s_law 13 ["_law_script"] (r_law K Pt Pu) := by
  obtain ⟨f, fd, F, gl, bd⟩ := T.d_law
  refine ⟨f, fd, F, gl, bd, okG F sc_law (fun vs H Q E h => ?_) (fun cdv A outer s H vs Q E hr hgd h => ?_)⟩
  · obtain ⟨a, ns, rfl, _⟩ := h
    rfl
  · obtain ⟨a, ns, rfl, hs, hT, hz, k⟩ := h
    have hu := hu_of hr
    refine ⟨_, (pss_one (ps_ret (pe_callB (cr_all rfl) (by rfl) T.b_all (by decide +kernel) (pa_cons (pe_lc (own := [("_law_turn", 1)]) (g := gName 1) (tt := tYes) rfl sc_law.nd (pi_range1 rfl T.b_range (pa_cons (pe_callB (call_max2 rfl) (by rfl) T.b_max (by decide +kernel) (pa_cons pe_int (pa_cons (pe_callB (call_min2 rfl) (by rfl) T.b_min (by decide +kernel) (pa_cons (pe_callB call_len_seq (by rfl) T.b_len (by decide +kernel) (pa_cons (pv 0) pa_nil)) (pa_cons pe_int pa_nil))) pa_nil))) pa_nil)) (blkOk_by (own := [("_law_turn", 1)]) (N := N_law) (sc := defScope s_law) (by decide +kernel)) (fun _ _ _ _ _ => (pg_name (i := 1) sc_law.nd rfl (Or.inl rfl))) (fun _ _ _ _ _ => pts_nil) (fun _ _ _ _ _ => (pcallG G__law_right (hr.mono (by decide)) hgd (pa_cons (pcall G__law_jug (hr.mono (by decide)) (pa_cons (pv 0) (pa_cons (pv 1) pa_nil))) pa_nil)))) pa_nil)))), ?_⟩
    obtain ⟨n, hn, hn2, hn3⟩ : ∃ n : Int, n = (if (if (3 : Int) < ((ns.map V.int).length : Int) then (3 : Int) else ((ns.map V.int).length : Int)) > 2 then (if (3 : Int) < ((ns.map V.int).length : Int) then (3 : Int) else ((ns.map V.int).length : Int)) else 2) ∧ 2 ≤ n ∧ n ≤ 3 := ⟨_, rfl, by split <;> omega, by split <;> split <;> omega⟩
    refine ⟨_, rfl, a, _, rfl, .inl hs, _, _, rfl, _, _, rfl, ?_⟩
    refine ⟨n, congrArg (fun z => [V.int z]) hn.symm, by omega, by omega, fun D hD => ?_⟩
    have key : a ≠ D ∨ ∀ H', SqL K H' a (ns.map V.int) := by
      rcases hs with (q | ⟨o, q⟩) | q
      · exact .inl (ne_of_none q hD)
      · exact .inl (ne_of_none q hD)
      · exact .inr fun _ => .inr q
    refine lc_it (n := n.toNat) (fun i H' => SqL K H' a (ns.map V.int) ∧ Tb H' Pt Pu ∧ H' D = some (.lst ((List.replicate i true).map V.bl))) ⟨SqL_same (same_new hD) hs, Tb.same (same_new hD) hT, upd_same⟩ (fun i H' hi _ => hi) (fun H' _ => Nat.le_refl _) (fun i y H' H2 hi h yl => ?_) (fun H' h => ?_)
    · obtain ⟨hs', hT', hk⟩ := h
      obtain ⟨rfl, rfl⟩ := yl
      refine ⟨rfl, _, rfl, _, rfl, a, ns, _, rfl, hs', by omega, by omega, hz, fun H3 j s3 hj jug => ⟨j, rfl, jug, Tb.same s3 hT', fun H4 c4 t4 => ?_⟩⟩
      have nD : D ≠ j := ne_of_none hk hj
      have k4 := c4 _ _ (s3 _ _ hk) nD (fun _ z => by cases z)
      have q4 : SqL K H4 a (ns.map V.int) := by
        rcases hs' with (q | ⟨o, q⟩) | q
        · exact .inl (.inl (c4 _ _ (s3 _ _ q) (ne_of_none q hj) (fun _ z => by cases z)))
        · exact .inl (.inr ⟨o, c4 _ _ (s3 _ _ q) (ne_of_none q hj) (fun _ z => by cases z)⟩)
        · exact .inr q
      refine ⟨_, k4, by rw [List.length_map, List.length_replicate]; exact Nat.lt_of_lt_of_le (show i < 100 by omega) (sl_le (by decide)), ?_, Tb.upd k4 t4, by rw [upd_same, List.replicate_succ', List.map_append]; rfl⟩
      rcases key with nk | nk
      · exact SqL.chg Chg.upd nk q4
      · exact nk _
    obtain ⟨hs', hT', hk⟩ := h
    refine ⟨D, List.replicate n.toNat true, rfl, .inl (.inl hk), ?_⟩
    have e : (List.replicate n.toNat true).all id = true := by
      rw [List.all_eq_true]
      intro b hb
      exact (List.mem_replicate.mp hb).2
    rw [e]
    exact k H'
end
end K1
namespace K1
open PySem PySem.Spec L2 Z K2 LamX
section
variable {P : Program} {w : World} {K : PySem.W.Frag} {mg : Str → Option Value} {base : Heap} {C CN CI : Addr}
theorem ok_law_odd3 (T : Txt K mg C CN CI) (G__law_one_of : Pr P w K mg base "_law_one_of" s_law_one_of 2 ["_law_jug_here", "_law_some"] (sp_law_one_of K)) : Pr P w K mg base "_law_odd" s_law_odd 3 ["_law_jug_here"] (q_odd3 K) := by
  obtain ⟨f, fd, F, gl, bd⟩ := T.d__law_odd
  refine ⟨f, fd, F, gl, bd, F.ok sc_law_odd (fun vs H Q E h => ?_) (fun cdv A outer s H vs Q E hr h => ?_)⟩
  · obtain ⟨j, rfl, _⟩ := h
    rfl
  · obtain ⟨j, rfl, hj, k⟩ := h
    have hu := hu_of hr
    refine ⟨_, (pss_one (ps_ret (pcall G__law_one_of (hr.mono (by decide)) (pa_cons (pv 0) (pa_cons (pe_lst (pa_cons pe_non (pa_cons pe_bl (pa_cons pe_bl (pa_cons (pe_un un_neg pe_int) (pa_cons pe_int (pa_cons pe_int (pa_cons pe_int (pa_cons (pe_op op_pow pe_int pe_int) (pa_cons pe_str (pa_cons pe_str (pa_cons pe_str (pa_cons pe_str (pa_cons (pe_tupP pa_nil) (pa_cons (pe_tupP (pa_cons pe_int pa_nil)) (pa_cons (pe_tup (pa_cons pe_int (pa_cons pe_int pa_nil))) (pa_cons (pe_tup (pa_cons pe_str (pa_cons pe_int pa_nil))) (pa_cons (pe_lst pa_nil) (pa_cons (pe_lst (pa_cons pe_int (pa_cons pe_int pa_nil))) (pa_cons (pe_lst (pa_cons (pe_tup (pa_cons pe_int (pa_cons pe_int pa_nil))) pa_nil)) (pa_cons pe_dnewK (pa_cons (pe_disp (pps_cons pe_str pe_int pps_nil) rfl rfl (by simp) (by decide)) (pa_cons (pe_tupP (pa_cons pe_non pa_nil)) (pa_cons (pe_tup (pa_cons (pe_tup (pa_cons pe_int (pa_cons pe_int pa_nil))) (pa_cons pe_int pa_nil))) (pa_cons (pe_tupP (pa_cons (pe_lst pa_nil) pa_nil)) pa_nil))))))))))))))))))))))))) pa_nil))))), ?_⟩
    have zl : ∀ {n : Nat}, n ≤ 30 → n ≤ sizeLine := fun h => Nat.le_trans h (by decide +kernel)
    refine ⟨_, rfl, ?_⟩
    refine ⟨1, rfl, ?_⟩
    refine ⟨10, 31, rfl, rfl, ⟨by decide, by decide, by decide⟩, ?_⟩
    refine ⟨zl (by simp), fun p1 o1 n1 f1 => ?_⟩
    have s1 : Same H (upd H p1 (.frz o1 (.tup []))) := same_new n1
    have e1 : (upd H p1 (.frz o1 (.tup []))) p1 = some (.frz o1 (.tup [])) := upd_same
    generalize hH1 : upd H p1 (.frz o1 (.tup [])) = H1 at s1 e1
    have d1 : p1 ≠ j := JugAt.ne hj n1
    have j1 : JugAt H1 j := jugS s1 hj
    refine ⟨zl (by simp), fun p2 o2 n2 f2 => ?_⟩
    have s2 : Same H1 (upd H1 p2 (.frz o2 (.tup [.int 1]))) := same_new n2
    have e2 : (upd H1 p2 (.frz o2 (.tup [.int 1]))) p2 = some (.frz o2 (.tup [.int 1])) := upd_same
    generalize hH2 : upd H1 p2 (.frz o2 (.tup [.int 1])) = H2 at s2 e2
    replace e1 := s2 _ _ e1
    have d2 : p2 ≠ j := JugAt.ne j1 n2
    have j2 : JugAt H2 j := jugS s2 j1
    refine ⟨zl (by simp), fun p3 n3 => ?_⟩
    have s3 : Same H2 (upd H2 p3 (.tup [.int 1, .int 2])) := same_new n3
    have e3 : (upd H2 p3 (.tup [.int 1, .int 2])) p3 = some (.tup [.int 1, .int 2]) := upd_same
    generalize hH3 : upd H2 p3 (.tup [.int 1, .int 2]) = H3 at s3 e3
    replace e1 := s3 _ _ e1
    replace e2 := s3 _ _ e2
    have d3 : p3 ≠ j := JugAt.ne j2 n3
    have j3 : JugAt H3 j := jugS s3 j2
    refine ⟨zl (by simp), fun p4 n4 => ?_⟩
    have s4 : Same H3 (upd H3 p4 (.tup [.str (Str.ofString "x"), .int 1])) := same_new n4
    have e4 : (upd H3 p4 (.tup [.str (Str.ofString "x"), .int 1])) p4 = some (.tup [.str (Str.ofString "x"), .int 1]) := upd_same
    generalize hH4 : upd H3 p4 (.tup [.str (Str.ofString "x"), .int 1]) = H4 at s4 e4
    replace e1 := s4 _ _ e1
    replace e2 := s4 _ _ e2
    replace e3 := s4 _ _ e3
    have d4 : p4 ≠ j := JugAt.ne j3 n4
    have j4 : JugAt H4 j := jugS s4 j3
    refine ⟨zl (by simp), fun p5 n5 => ?_⟩
    have s5 : Same H4 (upd H4 p5 (.lst [])) := same_new n5
    have e5 : (upd H4 p5 (.lst [])) p5 = some (.lst []) := upd_same
    generalize hH5 : upd H4 p5 (.lst []) = H5 at s5 e5
    replace e1 := s5 _ _ e1
    replace e2 := s5 _ _ e2
    replace e3 := s5 _ _ e3
    replace e4 := s5 _ _ e4
    have d5 : p5 ≠ j := JugAt.ne j4 n5
    have j5 : JugAt H5 j := jugS s5 j4
    refine ⟨zl (by simp), fun p6 n6 => ?_⟩
    have s6 : Same H5 (upd H5 p6 (.lst [.int 1, .int 2])) := same_new n6
    have e6 : (upd H5 p6 (.lst [.int 1, .int 2])) p6 = some (.lst [.int 1, .int 2]) := upd_same
    generalize hH6 : upd H5 p6 (.lst [.int 1, .int 2]) = H6 at s6 e6
    replace e1 := s6 _ _ e1
    replace e2 := s6 _ _ e2
    replace e3 := s6 _ _ e3
    replace e4 := s6 _ _ e4
    replace e5 := s6 _ _ e5
    have d6 : p6 ≠ j := JugAt.ne j5 n6
    have j6 : JugAt H6 j := jugS s6 j5
    refine ⟨zl (by simp), fun p7 n7 => ?_⟩
    have s7 : Same H6 (upd H6 p7 (.tup [.int 1, .int 2])) := same_new n7
    have e7 : (upd H6 p7 (.tup [.int 1, .int 2])) p7 = some (.tup [.int 1, .int 2]) := upd_same
    generalize hH7 : upd H6 p7 (.tup [.int 1, .int 2]) = H7 at s7 e7
    replace e1 := s7 _ _ e1
    replace e2 := s7 _ _ e2
    replace e3 := s7 _ _ e3
    replace e4 := s7 _ _ e4
    replace e5 := s7 _ _ e5
    replace e6 := s7 _ _ e6
    have d7 : p7 ≠ j := JugAt.ne j6 n7
    have j7 : JugAt H7 j := jugS s7 j6
    refine ⟨zl (by simp), fun p8 n8 => ?_⟩
    have s8 : Same H7 (upd H7 p8 (.lst [.ref p7])) := same_new n8
    have e8 : (upd H7 p8 (.lst [.ref p7])) p8 = some (.lst [.ref p7]) := upd_same
    generalize hH8 : upd H7 p8 (.lst [.ref p7]) = H8 at s8 e8
    replace e1 := s8 _ _ e1
    replace e2 := s8 _ _ e2
    replace e3 := s8 _ _ e3
    replace e4 := s8 _ _ e4
    replace e5 := s8 _ _ e5
    replace e6 := s8 _ _ e6
    replace e7 := s8 _ _ e7
    have d8 : p8 ≠ j := JugAt.ne j7 n8
    have j8 : JugAt H8 j := jugS s8 j7
    intro p9 n9
    have s9 : Same H8 (upd H8 p9 (.dK [])) := same_new n9
    have e9 : (upd H8 p9 (.dK [])) p9 = some (.dK []) := upd_same
    generalize hH9 : upd H8 p9 (.dK []) = H9 at s9 e9
    replace e1 := s9 _ _ e1
    replace e2 := s9 _ _ e2
    replace e3 := s9 _ _ e3
    replace e4 := s9 _ _ e4
    replace e5 := s9 _ _ e5
    replace e6 := s9 _ _ e6
    replace e7 := s9 _ _ e7
    replace e8 := s9 _ _ e8
    have d9 : p9 ≠ j := JugAt.ne j8 n9
    have j9 : JugAt H9 j := jugS s9 j8
    intro p10 n10
    refine ⟨upd_same, [(.inr (Str.ofString "x"), .int 1)], rfl, by decide, ?_⟩
    rw [show mergeK [] [((.inr (Str.ofString "x") : Key), V.int 1)] = [(.inr (Str.ofString "x"), .int 1)] from rfl]
    have s10 : Same H9 (upd (upd H9 p10 (.dK [])) p10 (.dK [(.inr (Str.ofString "x"), .int 1)])) := same_new2 n10
    have e10 : (upd (upd H9 p10 (.dK [])) p10 (.dK [(.inr (Str.ofString "x"), .int 1)])) p10 = some (.dK [(.inr (Str.ofString "x"), .int 1)]) := upd_same
    generalize hH10 : upd (upd H9 p10 (.dK [])) p10 (.dK [(.inr (Str.ofString "x"), .int 1)]) = H10 at s10 e10
    replace e1 := s10 _ _ e1
    replace e2 := s10 _ _ e2
    replace e3 := s10 _ _ e3
    replace e4 := s10 _ _ e4
    replace e5 := s10 _ _ e5
    replace e6 := s10 _ _ e6
    replace e7 := s10 _ _ e7
    replace e8 := s10 _ _ e8
    replace e9 := s10 _ _ e9
    have d10 : p10 ≠ j := JugAt.ne j9 n10
    have j10 : JugAt H10 j := jugS s10 j9
    refine ⟨zl (by simp), fun p11 o11 n11 f11 => ?_⟩
    have s11 : Same H10 (upd H10 p11 (.frz o11 (.tup [.non]))) := same_new n11
    have e11 : (upd H10 p11 (.frz o11 (.tup [.non]))) p11 = some (.frz o11 (.tup [.non])) := upd_same
    generalize hH11 : upd H10 p11 (.frz o11 (.tup [.non])) = H11 at s11 e11
    replace e1 := s11 _ _ e1
    replace e2 := s11 _ _ e2
    replace e3 := s11 _ _ e3
    replace e4 := s11 _ _ e4
    replace e5 := s11 _ _ e5
    replace e6 := s11 _ _ e6
    replace e7 := s11 _ _ e7
    replace e8 := s11 _ _ e8
    replace e9 := s11 _ _ e9
    replace e10 := s11 _ _ e10
    have d11 : p11 ≠ j := JugAt.ne j10 n11
    have j11 : JugAt H11 j := jugS s11 j10
    refine ⟨zl (by simp), fun p12 n12 => ?_⟩
    have s12 : Same H11 (upd H11 p12 (.tup [.int 1, .int 2])) := same_new n12
    have e12 : (upd H11 p12 (.tup [.int 1, .int 2])) p12 = some (.tup [.int 1, .int 2]) := upd_same
    generalize hH12 : upd H11 p12 (.tup [.int 1, .int 2]) = H12 at s12 e12
    replace e1 := s12 _ _ e1
    replace e2 := s12 _ _ e2
    replace e3 := s12 _ _ e3
    replace e4 := s12 _ _ e4
    replace e5 := s12 _ _ e5
    replace e6 := s12 _ _ e6
    replace e7 := s12 _ _ e7
    replace e8 := s12 _ _ e8
    replace e9 := s12 _ _ e9
    replace e10 := s12 _ _ e10
    replace e11 := s12 _ _ e11
    have d12 : p12 ≠ j := JugAt.ne j11 n12
    have j12 : JugAt H12 j := jugS s12 j11
    refine ⟨zl (by simp), fun p13 n13 => ?_⟩
    have s13 : Same H12 (upd H12 p13 (.tup [.ref p12, .int 3])) := same_new n13
    have e13 : (upd H12 p13 (.tup [.ref p12, .int 3])) p13 = some (.tup [.ref p12, .int 3]) := upd_same
    generalize hH13 : upd H12 p13 (.tup [.ref p12, .int 3]) = H13 at s13 e13
    replace e1 := s13 _ _ e1
    replace e2 := s13 _ _ e2
    replace e3 := s13 _ _ e3
    replace e4 := s13 _ _ e4
    replace e5 := s13 _ _ e5
    replace e6 := s13 _ _ e6
    replace e7 := s13 _ _ e7
    replace e8 := s13 _ _ e8
    replace e9 := s13 _ _ e9
    replace e10 := s13 _ _ e10
    replace e11 := s13 _ _ e11
    replace e12 := s13 _ _ e12
    have d13 : p13 ≠ j := JugAt.ne j12 n13
    have j13 : JugAt H13 j := jugS s13 j12
    refine ⟨zl (by simp), fun p14 n14 => ?_⟩
    have s14 : Same H13 (upd H13 p14 (.lst [])) := same_new n14
    have e14 : (upd H13 p14 (.lst [])) p14 = some (.lst []) := upd_same
    generalize hH14 : upd H13 p14 (.lst []) = H14 at s14 e14
    replace e1 := s14 _ _ e1
    replace e2 := s14 _ _ e2
    replace e3 := s14 _ _ e3
    replace e4 := s14 _ _ e4
    replace e5 := s14 _ _ e5
    replace e6 := s14 _ _ e6
    replace e7 := s14 _ _ e7
    replace e8 := s14 _ _ e8
    replace e9 := s14 _ _ e9
    replace e10 := s14 _ _ e10
    replace e11 := s14 _ _ e11
    replace e12 := s14 _ _ e12
    replace e13 := s14 _ _ e13
    have d14 : p14 ≠ j := JugAt.ne j13 n14
    have j14 : JugAt H14 j := jugS s14 j13
    refine ⟨zl (by simp), fun p15 o15 n15 f15 => ?_⟩
    have s15 : Same H14 (upd H14 p15 (.frz o15 (.tup [.ref p14]))) := same_new n15
    have e15 : (upd H14 p15 (.frz o15 (.tup [.ref p14]))) p15 = some (.frz o15 (.tup [.ref p14])) := upd_same
    generalize hH15 : upd H14 p15 (.frz o15 (.tup [.ref p14])) = H15 at s15 e15
    replace e1 := s15 _ _ e1
    replace e2 := s15 _ _ e2
    replace e3 := s15 _ _ e3
    replace e4 := s15 _ _ e4
    replace e5 := s15 _ _ e5
    replace e6 := s15 _ _ e6
    replace e7 := s15 _ _ e7
    replace e8 := s15 _ _ e8
    replace e9 := s15 _ _ e9
    replace e10 := s15 _ _ e10
    replace e11 := s15 _ _ e11
    replace e12 := s15 _ _ e12
    replace e13 := s15 _ _ e13
    replace e14 := s15 _ _ e14
    have d15 : p15 ≠ j := JugAt.ne j14 n15
    have j15 : JugAt H15 j := jugS s15 j14
    refine ⟨zl (by simp), fun p16 n16 => ?_⟩
    have s16 : Same H15 (upd H15 p16 (.lst [.non, .bl true, .bl false, .int (-1), .int 0, .int 1, .int 1000, .int (10 ^ 31), .str (Str.ofString ""), .str (Str.ofString "x"), .str (Str.ofString "1"), .str (Str.ofString "END"), .ref p1, .ref p2, .ref p3, .ref p4, .ref p5, .ref p6, .ref p8, .ref p9, .ref p10, .ref p11, .ref p13, .ref p15])) := same_new n16
    have e16 : (upd H15 p16 (.lst [.non, .bl true, .bl false, .int (-1), .int 0, .int 1, .int 1000, .int (10 ^ 31), .str (Str.ofString ""), .str (Str.ofString "x"), .str (Str.ofString "1"), .str (Str.ofString "END"), .ref p1, .ref p2, .ref p3, .ref p4, .ref p5, .ref p6, .ref p8, .ref p9, .ref p10, .ref p11, .ref p13, .ref p15])) p16 = some (.lst [.non, .bl true, .bl false, .int (-1), .int 0, .int 1, .int 1000, .int (10 ^ 31), .str (Str.ofString ""), .str (Str.ofString "x"), .str (Str.ofString "1"), .str (Str.ofString "END"), .ref p1, .ref p2, .ref p3, .ref p4, .ref p5, .ref p6, .ref p8, .ref p9, .ref p10, .ref p11, .ref p13, .ref p15]) := upd_same
    generalize hH16 : upd H15 p16 (.lst [.non, .bl true, .bl false, .int (-1), .int 0, .int 1, .int 1000, .int (10 ^ 31), .str (Str.ofString ""), .str (Str.ofString "x"), .str (Str.ofString "1"), .str (Str.ofString "END"), .ref p1, .ref p2, .ref p3, .ref p4, .ref p5, .ref p6, .ref p8, .ref p9, .ref p10, .ref p11, .ref p13, .ref p15]) = H16 at s16 e16
    replace e1 := s16 _ _ e1
    replace e2 := s16 _ _ e2
    replace e3 := s16 _ _ e3
    replace e4 := s16 _ _ e4
    replace e5 := s16 _ _ e5
    replace e6 := s16 _ _ e6
    replace e7 := s16 _ _ e7
    replace e8 := s16 _ _ e8
    replace e9 := s16 _ _ e9
    replace e10 := s16 _ _ e10
    replace e11 := s16 _ _ e11
    replace e12 := s16 _ _ e12
    replace e13 := s16 _ _ e13
    replace e14 := s16 _ _ e14
    replace e15 := s16 _ _ e15
    have d16 : p16 ≠ j := JugAt.ne j15 n16
    have j16 : JugAt H16 j := jugS s16 j15
    have S : Same H H16 := fun b o e => s16 _ _ (s15 _ _ (s14 _ _ (s13 _ _ (s12 _ _ (s11 _ _ (s10 _ _ (s9 _ _ (s8 _ _ (s7 _ _ (s6 _ _ (s5 _ _ (s4 _ _ (s3 _ _ (s2 _ _ (s1 _ _ (e))))))))))))))))
    subst hH16
    refine ⟨j, p16, [.non, .bl true, .bl false, .int (-1), .int 0, .int 1, .int 1000, .int (10 ^ 31), .str (Str.ofString ""), .str (Str.ofString "x"), .str (Str.ofString "1"), .str (Str.ofString "END"), .ref p1, .ref p2, .ref p3, .ref p4, .ref p5, .ref p6, .ref p8, .ref p9, .ref p10, .ref p11, .ref p13, .ref p15], rfl, j16, d16, .inl (.inl e16), (by simp), by simp, fun H' x cg hj' hx => ?_⟩
    replace e1 := cg _ _ e1 d1
    replace e2 := cg _ _ e2 d2
    replace e3 := cg _ _ e3 d3
    replace e4 := cg _ _ e4 d4
    replace e5 := cg _ _ e5 d5
    replace e6 := cg _ _ e6 d6
    replace e7 := cg _ _ e7 d7
    replace e8 := cg _ _ e8 d8
    replace e9 := cg _ _ e9 d9
    replace e10 := cg _ _ e10 d10
    replace e11 := cg _ _ e11 d11
    replace e12 := cg _ _ e12 d12
    replace e13 := cg _ _ e13 d13
    replace e14 := cg _ _ e14 d14
    replace e15 := cg _ _ e15 d15
    replace e16 := cg _ _ e16 d16
    simp only [List.mem_cons, List.not_mem_nil, or_false] at hx
    rcases hx with rfl | rfl | rfl | rfl | rfl | rfl | rfl | rfl | rfl | rfl | rfl | rfl | rfl | rfl | rfl | rfl | rfl | rfl | rfl | rfl | rfl | rfl | rfl | rfl
    · exact k H' _ ((Chg.of S).trans cg) hj' (fun H2 ch => .inr (.inr (.inl rfl))) (.inl fun H2 ch => .inr (.inr (.inl rfl)))
    · exact k H' _ ((Chg.of S).trans cg) hj' (fun H2 ch => .inr (.inl ⟨_, rfl⟩)) (.inl fun H2 ch => .inr (.inl ⟨_, rfl⟩))
    · exact k H' _ ((Chg.of S).trans cg) hj' (fun H2 ch => .inr (.inl ⟨_, rfl⟩)) (.inl fun H2 ch => .inr (.inl ⟨_, rfl⟩))
    · exact k H' _ ((Chg.of S).trans cg) hj' (fun H2 ch => .inl ⟨_, rfl⟩) (.inl fun H2 ch => .inl ⟨_, rfl⟩)
    · exact k H' _ ((Chg.of S).trans cg) hj' (fun H2 ch => .inl ⟨_, rfl⟩) (.inl fun H2 ch => .inl ⟨_, rfl⟩)
    · exact k H' _ ((Chg.of S).trans cg) hj' (fun H2 ch => .inl ⟨_, rfl⟩) (.inl fun H2 ch => .inl ⟨_, rfl⟩)
    · exact k H' _ ((Chg.of S).trans cg) hj' (fun H2 ch => .inl ⟨_, rfl⟩) (.inl fun H2 ch => .inl ⟨_, rfl⟩)
    · exact k H' _ ((Chg.of S).trans cg) hj' (fun H2 ch => .inl ⟨_, rfl⟩) (.inl fun H2 ch => .inl ⟨_, rfl⟩)
    · exact k H' _ ((Chg.of S).trans cg) hj' (fun H2 ch => .inr (.inr (.inr (.inl ⟨_, rfl⟩)))) (.inl fun H2 ch => .inr (.inr (.inr (.inl ⟨_, rfl⟩))))
    · exact k H' _ ((Chg.of S).trans cg) hj' (fun H2 ch => .inr (.inr (.inr (.inl ⟨_, rfl⟩)))) (.inl fun H2 ch => .inr (.inr (.inr (.inl ⟨_, rfl⟩))))
    · exact k H' _ ((Chg.of S).trans cg) hj' (fun H2 ch => .inr (.inr (.inr (.inl ⟨_, rfl⟩)))) (.inl fun H2 ch => .inr (.inr (.inr (.inl ⟨_, rfl⟩))))
    · exact k H' _ ((Chg.of S).trans cg) hj' (fun H2 ch => .inr (.inr (.inr (.inl ⟨_, rfl⟩)))) (.inl fun H2 ch => .inr (.inr (.inr (.inl ⟨_, rfl⟩))))
    · exact k H' _ ((Chg.of S).trans cg) hj' (fun H2 ch => .inr (.inr (.inr (.inr (.inl ⟨_, _, rfl, (PT.sq ⟨_, (ch _ _ e1 d1 (fun _ z => by cases z)), f1⟩)⟩))))) (.inr ⟨_, _, rfl, by simp, fun H2 ch => ⟨(PT.sq ⟨_, (ch _ _ e1 d1 (fun _ z => by cases z)), f1⟩), (fun y hy => by simp at hy)⟩⟩)
    · exact k H' _ ((Chg.of S).trans cg) hj' (fun H2 ch => .inr (.inr (.inr (.inr (.inl ⟨_, _, rfl, (PT.sq ⟨_, (ch _ _ e2 d2 (fun _ z => by cases z)), f2⟩)⟩))))) (.inr ⟨_, _, rfl, by simp, fun H2 ch => ⟨(PT.sq ⟨_, (ch _ _ e2 d2 (fun _ z => by cases z)), f2⟩), (fun y hy => by
        simp only [List.mem_cons, List.not_mem_nil, or_false] at hy
        obtain rfl := hy
        exact .inl ⟨_, rfl⟩
        )⟩⟩)
    · exact k H' _ ((Chg.of S).trans cg) hj' (fun H2 ch => .inr (.inr (.inr (.inr (.inl ⟨_, _, rfl, (.inl (.inl (ch _ _ e3 d3 (fun _ z => by cases z))))⟩))))) (.inr ⟨_, _, rfl, by simp, fun H2 ch => ⟨(.inl (.inl (ch _ _ e3 d3 (fun _ z => by cases z)))), (fun y hy => by
        simp only [List.mem_cons, List.not_mem_nil, or_false] at hy
        rcases hy with rfl | rfl
        · exact .inl ⟨_, rfl⟩
        · exact .inl ⟨_, rfl⟩
        )⟩⟩)
    · exact k H' _ ((Chg.of S).trans cg) hj' (fun H2 ch => .inr (.inr (.inr (.inr (.inl ⟨_, _, rfl, (.inl (.inl (ch _ _ e4 d4 (fun _ z => by cases z))))⟩))))) (.inr ⟨_, _, rfl, by simp, fun H2 ch => ⟨(.inl (.inl (ch _ _ e4 d4 (fun _ z => by cases z)))), (fun y hy => by
        simp only [List.mem_cons, List.not_mem_nil, or_false] at hy
        rcases hy with rfl | rfl
        · exact .inr (.inr (.inr (.inl ⟨_, rfl⟩)))
        · exact .inl ⟨_, rfl⟩
        )⟩⟩)
    · exact k H' _ ((Chg.of S).trans cg) hj' (fun H2 ch => .inr (.inr (.inr (.inr (.inr (.inl ⟨_, _, rfl, (ch _ _ e5 d5 (fun _ z => by cases z))⟩)))))) (.inl fun H2 ch => .inr (.inr (.inr (.inr (.inl ⟨_, _, rfl, (ch _ _ e5 d5 (fun _ z => by cases z))⟩)))))
    · exact k H' _ ((Chg.of S).trans cg) hj' (fun H2 ch => .inr (.inr (.inr (.inr (.inr (.inl ⟨_, _, rfl, (ch _ _ e6 d6 (fun _ z => by cases z))⟩)))))) (.inl fun H2 ch => .inr (.inr (.inr (.inr (.inl ⟨_, _, rfl, (ch _ _ e6 d6 (fun _ z => by cases z))⟩)))))
    · exact k H' _ ((Chg.of S).trans cg) hj' (fun H2 ch => .inr (.inr (.inr (.inr (.inr (.inl ⟨_, _, rfl, (ch _ _ e8 d8 (fun _ z => by cases z))⟩)))))) (.inl fun H2 ch => .inr (.inr (.inr (.inr (.inl ⟨_, _, rfl, (ch _ _ e8 d8 (fun _ z => by cases z))⟩)))))
    · exact k H' _ ((Chg.of S).trans cg) hj' (fun H2 ch => .inr (.inr (.inr (.inr (.inr (.inr ⟨_, _, rfl, (ch _ _ e9 d9 (fun _ z => by cases z))⟩)))))) (.inl fun H2 ch => .inr (.inr (.inr (.inr (.inr ⟨_, _, rfl, (ch _ _ e9 d9 (fun _ z => by cases z))⟩)))))
    · exact k H' _ ((Chg.of S).trans cg) hj' (fun H2 ch => .inr (.inr (.inr (.inr (.inr (.inr ⟨_, _, rfl, (ch _ _ e10 d10 (fun _ z => by cases z))⟩)))))) (.inl fun H2 ch => .inr (.inr (.inr (.inr (.inr ⟨_, _, rfl, (ch _ _ e10 d10 (fun _ z => by cases z))⟩)))))
    · exact k H' _ ((Chg.of S).trans cg) hj' (fun H2 ch => .inr (.inr (.inr (.inr (.inl ⟨_, _, rfl, (PT.sq ⟨_, (ch _ _ e11 d11 (fun _ z => by cases z)), f11⟩)⟩))))) (.inr ⟨_, _, rfl, by simp, fun H2 ch => ⟨(PT.sq ⟨_, (ch _ _ e11 d11 (fun _ z => by cases z)), f11⟩), (fun y hy => by
        simp only [List.mem_cons, List.not_mem_nil, or_false] at hy
        obtain rfl := hy
        exact .inr (.inr (.inl rfl))
        )⟩⟩)
    · exact k H' _ ((Chg.of S).trans cg) hj' (fun H2 ch => .inr (.inr (.inr (.inr (.inl ⟨_, _, rfl, (.inl (.inl (ch _ _ e13 d13 (fun _ z => by cases z))))⟩))))) (.inr ⟨_, _, rfl, by simp, fun H2 ch => ⟨(.inl (.inl (ch _ _ e13 d13 (fun _ z => by cases z)))), (fun y hy => by
        simp only [List.mem_cons, List.not_mem_nil, or_false] at hy
        rcases hy with rfl | rfl
        · exact .inr (.inr (.inr (.inr (.inl ⟨_, _, rfl, (.inl (.inl (ch _ _ e12 d12 (fun _ z => by cases z))))⟩))))
        · exact .inl ⟨_, rfl⟩
        )⟩⟩)
    · exact k H' _ ((Chg.of S).trans cg) hj' (fun H2 ch => .inr (.inr (.inr (.inr (.inl ⟨_, _, rfl, (PT.sq ⟨_, (ch _ _ e15 d15 (fun _ z => by cases z)), f15⟩)⟩))))) (.inr ⟨_, _, rfl, by simp, fun H2 ch => ⟨(PT.sq ⟨_, (ch _ _ e15 d15 (fun _ z => by cases z)), f15⟩), (fun y hy => by
        simp only [List.mem_cons, List.not_mem_nil, or_false] at hy
        obtain rfl := hy
        exact .inr (.inr (.inr (.inr (.inr (.inl ⟨_, _, rfl, (ch _ _ e14 d14 (fun _ z => by cases z))⟩)))))
        )⟩⟩)
end
end K1
/-! The law's end with tables: what the top says of a def's code object and its table. -/
namespace Z
open PySem PySem.Spec PyProof.Rows L2 LamX
/-- the def of that name stands at an address, with a code object whose table is empty -/
def TabOf (mg : Str → Option Value) (h : Heap) (nm : Str) : Prop := ∃ (a : Addr) (o : Obj) (fd : FuncData) (c P : Addr), mg nm = some (.ref a) ∧ h.get? a = some o ∧ o.data = .func fd ∧ fd.code = .ref c ∧ h.IsCode c P #[] ∧ h.TableAt c P #[]
/-- read by a part that holds the def and its code object -/
theorem TabOf.read {K : PySem.W.Frag} {mg : Str → Option Value} {h : Heap} {nm : Str} {f c P : Addr} {oc : Value} {od : Option Addr} {fd : FuncData} {osl : Array (Option Value)} {cl : Value} {cd : Option Addr} {vs : Array Value} {csl : Array (Option Value)}
    (t : TabOf mg h nm) (KX : K.In h) (hm : mg nm = some (.ref f)) (lk : K.lookup f = some ⟨oc, od, .func fd, osl⟩) (hc : fd.code = .ref c) (lc : K.lookup c = some ⟨cl, cd, .fields vs, csl⟩) (hp : vs[11]? = some (.ref P)) :
    h.get? P = some noTab ∧ PySem.W.CodeHd h c P := by
  obtain ⟨a, o, fd', c', P', h1, h2, h3, h4, h5, h6⟩ := t
  rw [hm] at h1
  cases h1
  rw [KX _ _ lk] at h2
  cases h2
  cases h3
  rw [hc] at h4
  cases h4
  have X := PySem.W.CodeHd.of h5 h6
  obtain ⟨⟨o2, vs2, e1, e2, e3, e4⟩, e5⟩ := h6
  rw [KX _ _ lc] at e1
  cases e1
  cases e3
  rw [hp] at e4
  cases e4
  exact ⟨e5, X⟩
theorem walkGT2 {l : PySem.W.OpenLaw} {n k : Nat} {q : Program} {loose : List Str} {XP : (Str → Option Value) → Heap → Prop} {YP : World → Heap → Prop} {d : DefRec} {K : Params → PySem.W.Frag} {x : Str}
    (hn : l.most = some n) (hn2 : n ≤ sizeLine) (hdf : d.params.defaults = []) (hr : Room k callerA)
    (hY : ∀ (w : World) (h : Heap), YP w h → (K w.params).In h) (nms : List Str) (hrec : (nms.all fun nm => (recsOf q).any fun e => e.name == nm) = true)
    (F : ∀ (w : World) (mg : Str → Option Value) (fa : Addr) (h : Heap), (K w.params).In h → h.Ns mainGlobals mg → mg d.name = some (.ref fa) → (∀ nm ∈ nms, TabOf mg h nm) → LawAtG l w (K w.params) k n x mg fa h) :
    PySem.W.WalkO q loose XP YP l.row.toRowW d [] (fun f vs => PySem.call f vs) := by
  refine Att.attach_call hn hdf fun w s₀ s₁ mg mb fa o pm cd doc a vs ns G Y ho hd hcd hmg hobj hints hlen hg => ?_
  have KX := hY w _ Y
  have tabs : ∀ nm ∈ nms, TabOf mg s₁.heap nm := fun nm hm => by
    obtain ⟨dL, h1, h2⟩ := List.any_eq_true.mp (List.all_eq_true.mp hrec nm hm)
    have e := G.T.tab dL h1
    rw [beq_iff_eq.mp h2] at e
    exact e
  obtain ⟨fd, cs, sp, hT, nT, hC, hb, hsp, hF⟩ := F w mg fa _ KX G.T.g hmg tabs
  exact law_callGT KX G.T.g G.T.b G.T.builtins G.T.nolimit hg hT nT hC G.T.bmain hobj hints (Nat.le_trans hlen hn2) hr hF hb fun H hH hS => hsp H a ns hlen hH hS
end Z
/-! What the top has left, and the end. -/
namespace K1
open PySem PySem.Spec L2 Z LamX K2
theorem kit_not {K : PySem.W.Frag} {C : Addr} {T : String} (icl : PySem.W.isClsIn K C = true) (tcl : PySem.W.typeIn K (.ref C) = some (.type "type")) (s : PySem.W.subIn K (.type T) (.ref C) = some false) : PySem.W.kitOne K (.type T) (.ref C) = some false := by
  have e1 : ((PySem.W.clsIn K C).isSome && PySem.W.typeIn K (.ref C) == some (.type "type")) = true := by
    rw [tcl]
    unfold PySem.W.isClsIn at icl
    rw [icl]
    rfl
  have e : PySem.W.kitCls K (.type T) (.ref C) = some false := (if_pos e1).trans s
  unfold PySem.W.kitOne
  rw [if_neg (by intro z; exact nomatch eq_of_beq z)]
  exact e
theorem kit_sub {K : PySem.W.Frag} {C D : Addr} {b : Bool} (icl : PySem.W.isClsIn K D = true) (tcl : PySem.W.typeIn K (.ref D) = some (.type "type")) (n : PySem.W.subIn K (.ref C) (.ref D) = some true) : PySem.W.kitOne K (.ref C) (.ref D) = some true := by
  have e1 : ((PySem.W.clsIn K D).isSome && PySem.W.typeIn K (.ref D) == some (.type "type")) = true := by
    rw [tcl]
    unfold PySem.W.isClsIn at icl
    rw [icl]
    rfl
  have e : PySem.W.kitCls K (.ref C) (.ref D) = some true := (if_pos e1).trans n
  unfold PySem.W.kitOne
  split
  · rfl
  · exact e
theorem kit_self {K : PySem.W.Frag} {C : Addr} : PySem.W.kitOne K (.ref C) (.ref C) = some true := by
  unfold PySem.W.kitOne
  rw [if_pos (beq_self_eq_true _)]
theorem all_mk {l : PySem.W.OpenLaw} {w : World} {K : PySem.W.Frag} {h : Heap} {mg : Str → Option Value} {nmE0 qE0 : Str} {NE0 fIE0 : Addr} {bsE0 : List Value} {snE0 : List Str} {subE0 : List Value} {abE0 : Bool} {colE0 : Option Bool} {ddE0 : Option Addr} {m0E0 m1E0 m2E0 m3E0 m5E0 : Option Value} {odIE0 anIE0 : Option Addr} {slIE0 : Array (Option Value)} {ocIE0 kVIE0 dcIE0 pmIE0 cdIE0 ctIE0 : Value} {BE00 : Addr} {nmE1 qE1 : Str} {NE1 fIE1 : Addr} {bsE1 : List Value} {snE1 : List Str} {subE1 : List Value} {abE1 : Bool} {colE1 : Option Bool} {ddE1 : Option Addr} {m0E1 m1E1 m2E1 m3E1 m5E1 : Option Value} {odIE1 anIE1 : Option Addr} {slIE1 : Array (Option Value)} {ocIE1 kVIE1 dcIE1 pmIE1 cdIE1 ctIE1 : Value} {BE10 : Addr} {cc36 Pt : Addr} {clc36 : Value} {ddc36 : Option Addr} {vsc36 : Array Value} {slc36 : Array (Option Value)} {cc35 Pu : Addr} {clc35 : Value} {ddc35 : Option Addr} {vsc35 : Array Value} {slc35 : Array (Option Value)} {fa C CN CI f0 f1 f2 f3 f4 f5 f6 f7 f8 f9 f10 f11 f12 f13 f14 f15 f16 f17 f18 f19 f20 f21 f22 f23 f24 f25 f26 f27 f28 f29 f30 f31 f32 f33 f34 f35 f36 f37 : Addr} {t_FIGURES t_MOST_NUMBER t_MOST_STEP t_MOST_START t_MOST_MEMBERS t_MOST_HIGH : Tok} (X : K.In h) (G : h.Ns mainGlobals mg) (hfa : mg "law" = some (.ref fa)) (TO : ∀ nm ∈ (["_law_right", "_law_numbers_right"] : List Str), TabOf mg h nm)
    {od0 an0 od1 an1 od2 an2 od3 an3 od4 an4 od5 an5 od6 an6 od7 an7 od8 an8 od9 an9 od10 an10 od11 an11 od12 an12 od13 an13 od14 an14 od15 an15 od16 an16 od17 an17 od18 an18 od19 an19 od20 an20 od21 an21 od22 an22 od23 an23 od24 an24 od25 an25 od26 an26 od27 an27 od28 an28 od29 an29 od30 an30 od31 an31 od32 an32 od33 an33 od34 an34 od35 an35 od36 an36 od37 an37 : Option Addr} {sl0 sl1 sl2 sl3 sl4 sl5 sl6 sl7 sl8 sl9 sl10 sl11 sl12 sl13 sl14 sl15 sl16 sl17 sl18 sl19 sl20 sl21 sl22 sl23 sl24 sl25 sl26 sl27 sl28 sl29 sl30 sl31 sl32 sl33 sl34 sl35 sl36 sl37 : Array (Option Value)} {oc0 kV0 dc0 pm0 cd0 ct0 oc1 kV1 dc1 pm1 cd1 ct1 oc2 kV2 dc2 pm2 cd2 ct2 oc3 kV3 dc3 pm3 cd3 ct3 oc4 kV4 dc4 pm4 cd4 ct4 oc5 kV5 dc5 pm5 cd5 ct5 oc6 kV6 dc6 pm6 cd6 ct6 oc7 kV7 dc7 pm7 cd7 ct7 oc8 kV8 dc8 pm8 cd8 ct8 oc9 kV9 dc9 pm9 cd9 ct9 oc10 kV10 dc10 pm10 cd10 ct10 oc11 kV11 dc11 pm11 cd11 ct11 oc12 kV12 dc12 pm12 cd12 ct12 oc13 kV13 dc13 pm13 cd13 ct13 oc14 kV14 dc14 pm14 cd14 ct14 oc15 kV15 dc15 pm15 cd15 ct15 oc16 kV16 dc16 pm16 cd16 ct16 oc17 kV17 dc17 pm17 cd17 ct17 oc18 kV18 dc18 pm18 cd18 ct18 oc19 kV19 dc19 pm19 cd19 ct19 oc20 kV20 dc20 pm20 cd20 ct20 oc21 kV21 dc21 pm21 cd21 ct21 oc22 kV22 dc22 pm22 cd22 ct22 oc23 kV23 dc23 pm23 cd23 ct23 oc24 kV24 dc24 pm24 cd24 ct24 oc25 kV25 dc25 pm25 cd25 ct25 oc26 kV26 dc26 pm26 cd26 ct26 oc27 kV27 dc27 pm27 cd27 ct27 oc28 kV28 dc28 pm28 cd28 ct28 oc29 kV29 dc29 pm29 cd29 ct29 oc30 kV30 dc30 pm30 cd30 ct30 oc31 kV31 dc31 pm31 cd31 ct31 oc32 kV32 dc32 pm32 cd32 ct32 oc33 kV33 dc33 pm33 cd33 ct33 oc34 kV34 dc34 pm34 cd34 ct34 oc35 kV35 dc35 pm35 cd35 ct35 oc36 kV36 dc36 pm36 cd36 ct36 oc37 kV37 dc37 pm37 cd37 ct37 : Value}
    (aC : PySem.W.nsIn K mainGlobals "Lengths" = some (some (.ref C)))
    (aCN : PySem.W.nsIn K mainGlobals "InvalidNumber" = some (some (.ref CN)))
    (aCI : PySem.W.nsIn K mainGlobals "InvalidNumbers" = some (some (.ref CI)))
    (a0 : PySem.W.nsIn K mainGlobals "is_number" = some (some (.ref f0)))
    (l0 : K.lookup f0 = some ⟨oc0, od0, .func (PySem.W.fnOf "is_number" "is_number" (defArgs s_is_number) (defBody s_is_number) (defScope s_is_number) .none kV0 dc0 pm0 an0 cd0 ct0), sl0⟩)
    (c0 : PySem.W.codeIn K cd0 "is_number" = true)
    (k0 : PySem.W.keepIn K (.ref f0) = true)
    (a1 : PySem.W.nsIn K mainGlobals "is_whole" = some (some (.ref f1)))
    (l1 : K.lookup f1 = some ⟨oc1, od1, .func (PySem.W.fnOf "is_whole" "is_whole" (defArgs s_is_whole) (defBody s_is_whole) (defScope s_is_whole) .none kV1 dc1 pm1 an1 cd1 ct1), sl1⟩)
    (c1 : PySem.W.codeIn K cd1 "is_whole" = true)
    (k1 : PySem.W.keepIn K (.ref f1) = true)
    (a2 : PySem.W.nsIn K mainGlobals "number_in" = some (some (.ref f2)))
    (l2 : K.lookup f2 = some ⟨oc2, od2, .func (PySem.W.fnOf "number_in" "number_in" (defArgs s_number_in) (defBody s_number_in) (defScope s_number_in) .none kV2 dc2 pm2 an2 cd2 ct2), sl2⟩)
    (c2 : PySem.W.codeIn K cd2 "number_in" = true)
    (k2 : PySem.W.keepIn K (.ref f2) = true)
    (a3 : PySem.W.nsIn K mainGlobals "all_bits" = some (some (.ref f3)))
    (l3 : K.lookup f3 = some ⟨oc3, od3, .func (PySem.W.fnOf "all_bits" "all_bits" (defArgs s_all_bits) (defBody s_all_bits) (defScope s_all_bits) .none kV3 dc3 pm3 an3 cd3 ct3), sl3⟩)
    (c3 : PySem.W.codeIn K cd3 "all_bits" = true)
    (k3 : PySem.W.keepIn K (.ref f3) = true)
    (a4 : PySem.W.nsIn K mainGlobals "repeated" = some (some (.ref f4)))
    (l4 : K.lookup f4 = some ⟨oc4, od4, .func (PySem.W.fnOf "repeated" "repeated" (defArgs s_repeated) (defBody s_repeated) (defScope s_repeated) .none kV4 dc4 pm4 an4 cd4 ct4), sl4⟩)
    (c4 : PySem.W.codeIn K cd4 "repeated" = true)
    (k4 : PySem.W.keepIn K (.ref f4) = true)
    (a5 : PySem.W.nsIn K mainGlobals "settled" = some (some (.ref f5)))
    (l5 : K.lookup f5 = some ⟨oc5, od5, .func (PySem.W.fnOf "settled" "settled" (defArgs s_settled) (defBody s_settled) (defScope s_settled) .none kV5 dc5 pm5 an5 cd5 ct5), sl5⟩)
    (c5 : PySem.W.codeIn K cd5 "settled" = true)
    (k5 : PySem.W.keepIn K (.ref f5) = true)
    (a6 : PySem.W.nsIn K mainGlobals "numbers_in" = some (some (.ref f6)))
    (l6 : K.lookup f6 = some ⟨oc6, od6, .func (PySem.W.fnOf "numbers_in" "numbers_in" (defArgs s_numbers_in) (defBody s_numbers_in) (defScope s_numbers_in) .none kV6 dc6 pm6 an6 cd6 ct6), sl6⟩)
    (c6 : PySem.W.codeIn K cd6 "numbers_in" = true)
    (k6 : PySem.W.keepIn K (.ref f6) = true)
    (a7 : PySem.W.findIn K (.ref C) "__init__" = some (some (.ref f7)))
    (i7 : PySem.W.isFn K (.ref f7) = true)
    (l7 : K.lookup f7 = some ⟨oc7, od7, .func (PySem.W.fnOf "__init__" "Lengths.__init__" (defArgs s_init) (defBody s_init) (defScope s_init) .none kV7 dc7 pm7 an7 cd7 ct7), sl7⟩)
    (c7 : PySem.W.codeIn K cd7 "Lengths.__init__" = true)
    (k7 : PySem.W.keepIn K (.ref f7) = true)
    (a8 : PySem.W.findIn K (.ref C) "__eq__" = some (some (.ref f8)))
    (i8 : PySem.W.isFn K (.ref f8) = true)
    (l8 : K.lookup f8 = some ⟨oc8, od8, .func (PySem.W.fnOf "__eq__" "Lengths.__eq__" (defArgs s_eq) (defBody s_eq) (defScope s_eq) .none kV8 dc8 pm8 an8 cd8 ct8), sl8⟩)
    (c8 : PySem.W.codeIn K cd8 "Lengths.__eq__" = true)
    (k8 : PySem.W.keepIn K (.ref f8) = true)
    (a9 : PySem.W.findIn K (.ref C) "take" = some (some (.ref f9)))
    (i9 : PySem.W.isFn K (.ref f9) = true)
    (l9 : K.lookup f9 = some ⟨oc9, od9, .func (PySem.W.fnOf "take" "Lengths.take" (defArgs s_take) (defBody s_take) (defScope s_take) .none kV9 dc9 pm9 an9 cd9 ct9), sl9⟩)
    (c9 : PySem.W.codeIn K cd9 "Lengths.take" = true)
    (k9 : PySem.W.keepIn K (.ref f9) = true)
    (a10 : PySem.W.findIn K (.ref C) "members" = some (some (.ref f10)))
    (i10 : PySem.W.isFn K (.ref f10) = true)
    (l10 : K.lookup f10 = some ⟨oc10, od10, .func (PySem.W.fnOf "members" "Lengths.members" (defArgs s_members) (defBody s_members) (defScope s_members) .none kV10 dc10 pm10 an10 cd10 ct10), sl10⟩)
    (c10 : PySem.W.codeIn K cd10 "Lengths.members" = true)
    (k10 : PySem.W.keepIn K (.ref f10) = true)
    (a11 : PySem.W.findIn K (.ref C) "counted" = some (some (.ref f11)))
    (i11 : PySem.W.isFn K (.ref f11) = true)
    (l11 : K.lookup f11 = some ⟨oc11, od11, .func (PySem.W.fnOf "counted" "Lengths.counted" (defArgs s_counted) (defBody s_counted) (defScope s_counted) .none kV11 dc11 pm11 an11 cd11 ct11), sl11⟩)
    (c11 : PySem.W.codeIn K cd11 "Lengths.counted" = true)
    (k11 : PySem.W.keepIn K (.ref f11) = true)
    (a12 : PySem.W.nsIn K mainGlobals "words_in" = some (some (.ref f12)))
    (l12 : K.lookup f12 = some ⟨oc12, od12, .func (PySem.W.fnOf "words_in" "words_in" (defArgs s_words_in) (defBody s_words_in) (defScope s_words_in) .none kV12 dc12 pm12 an12 cd12 ct12), sl12⟩)
    (c12 : PySem.W.codeIn K cd12 "words_in" = true)
    (k12 : PySem.W.keepIn K (.ref f12) = true)
    (a13 : PySem.W.nsIn K mainGlobals "_word_in" = some (some (.ref f13)))
    (l13 : K.lookup f13 = some ⟨oc13, od13, .func (PySem.W.fnOf "_word_in" "_word_in" (defArgs s_word_in) (defBody s_word_in) (defScope s_word_in) .none kV13 dc13 pm13 an13 cd13 ct13), sl13⟩)
    (c13 : PySem.W.codeIn K cd13 "_word_in" = true)
    (k13 : PySem.W.keepIn K (.ref f13) = true)
    (a14 : PySem.W.nsIn K mainGlobals "common_step" = some (some (.ref f14)))
    (l14 : K.lookup f14 = some ⟨oc14, od14, .func (PySem.W.fnOf "common_step" "common_step" (defArgs s_common_step) (defBody s_common_step) (defScope s_common_step) .none kV14 dc14 pm14 an14 cd14 ct14), sl14⟩)
    (c14 : PySem.W.codeIn K cd14 "common_step" = true)
    (k14 : PySem.W.keepIn K (.ref f14) = true)
    (a15 : PySem.W.nsIn K mainGlobals "rounded_words" = some (some (.ref f15)))
    (l15 : K.lookup f15 = some ⟨oc15, od15, .func (PySem.W.fnOf "rounded_words" "rounded_words" (defArgs s_rounded_words) (defBody s_rounded_words) (defScope s_rounded_words) .none kV15 dc15 pm15 an15 cd15 ct15), sl15⟩)
    (c15 : PySem.W.codeIn K cd15 "rounded_words" = true)
    (k15 : PySem.W.keepIn K (.ref f15) = true)
    (a16 : PySem.W.nsIn K mainGlobals "_normal_text" = some (some (.ref f16)))
    (l16 : K.lookup f16 = some ⟨oc16, od16, .func (PySem.W.fnOf "_normal_text" "_normal_text" (defArgs s_normal_text) (defBody s_normal_text) (defScope s_normal_text) .none kV16 dc16 pm16 an16 cd16 ct16), sl16⟩)
    (c16 : PySem.W.codeIn K cd16 "_normal_text" = true)
    (k16 : PySem.W.keepIn K (.ref f16) = true)
    (a17 : PySem.W.nsIn K mainGlobals "made_lengths" = some (some (.ref f17)))
    (l17 : K.lookup f17 = some ⟨oc17, od17, .func (PySem.W.fnOf "made_lengths" "made_lengths" (defArgs s_made_lengths) (defBody s_made_lengths) (defScope s_made_lengths) .none kV17 dc17 pm17 an17 cd17 ct17), sl17⟩)
    (c17 : PySem.W.codeIn K cd17 "made_lengths" = true)
    (k17 : PySem.W.keepIn K (.ref f17) = true)
    (a18 : PySem.W.nsIn K mainGlobals "of_numbers" = some (some (.ref f18)))
    (l18 : K.lookup f18 = some ⟨oc18, od18, .func (PySem.W.fnOf "of_numbers" "of_numbers" (defArgs s_of_numbers) (defBody s_of_numbers) (defScope s_of_numbers) .none kV18 dc18 pm18 an18 cd18 ct18), sl18⟩)
    (c18 : PySem.W.codeIn K cd18 "of_numbers" = true)
    (k18 : PySem.W.keepIn K (.ref f18) = true)
    (a19 : PySem.W.nsIn K mainGlobals "_law_jug" = some (some (.ref f19)))
    (l19 : K.lookup f19 = some ⟨oc19, od19, .func (PySem.W.fnOf "_law_jug" "_law_jug" (defArgs s_law_jug) (defBody s_law_jug) (defScope s_law_jug) .none kV19 dc19 pm19 an19 cd19 ct19), sl19⟩)
    (c19 : PySem.W.codeIn K cd19 "_law_jug" = true)
    (k19 : PySem.W.keepIn K (.ref f19) = true)
    (a20 : PySem.W.nsIn K mainGlobals "_law_take" = some (some (.ref f20)))
    (l20 : K.lookup f20 = some ⟨oc20, od20, .func (PySem.W.fnOf "_law_take" "_law_take" (defArgs s_law_take) (defBody s_law_take) (defScope s_law_take) .none kV20 dc20 pm20 an20 cd20 ct20), sl20⟩)
    (c20 : PySem.W.codeIn K cd20 "_law_take" = true)
    (k20 : PySem.W.keepIn K (.ref f20) = true)
    (a21 : PySem.W.nsIn K mainGlobals "_law_one_of" = some (some (.ref f21)))
    (l21 : K.lookup f21 = some ⟨oc21, od21, .func (PySem.W.fnOf "_law_one_of" "_law_one_of" (defArgs s_law_one_of) (defBody s_law_one_of) (defScope s_law_one_of) .none kV21 dc21 pm21 an21 cd21 ct21), sl21⟩)
    (c21 : PySem.W.codeIn K cd21 "_law_one_of" = true)
    (k21 : PySem.W.keepIn K (.ref f21) = true)
    (a22 : PySem.W.nsIn K mainGlobals "_law_set_text" = some (some (.ref f22)))
    (l22 : K.lookup f22 = some ⟨oc22, od22, .func (PySem.W.fnOf "_law_set_text" "_law_set_text" (defArgs s_law_set_text) (defBody s_law_set_text) (defScope s_law_set_text) .none kV22 dc22 pm22 an22 cd22 ct22), sl22⟩)
    (c22 : PySem.W.codeIn K cd22 "_law_set_text" = true)
    (k22 : PySem.W.keepIn K (.ref f22) = true)
    (a23 : PySem.W.nsIn K mainGlobals "_law_has" = some (some (.ref f23)))
    (l23 : K.lookup f23 = some ⟨oc23, od23, .func (PySem.W.fnOf "_law_has" "_law_has" (defArgs s_law_has) (defBody s_law_has) (defScope s_law_has) .none kV23 dc23 pm23 an23 cd23 ct23), sl23⟩)
    (c23 : PySem.W.codeIn K cd23 "_law_has" = true)
    (k23 : PySem.W.keepIn K (.ref f23) = true)
    (a24 : PySem.W.nsIn K mainGlobals "_law_normal" = some (some (.ref f24)))
    (l24 : K.lookup f24 = some ⟨oc24, od24, .func (PySem.W.fnOf "_law_normal" "_law_normal" (defArgs s_law_normal) (defBody s_law_normal) (defScope s_law_normal) .none kV24 dc24 pm24 an24 cd24 ct24), sl24⟩)
    (c24 : PySem.W.codeIn K cd24 "_law_normal" = true)
    (k24 : PySem.W.keepIn K (.ref f24) = true)
    (a25 : PySem.W.nsIn K mainGlobals "_law_drawn_words" = some (some (.ref f25)))
    (l25 : K.lookup f25 = some ⟨oc25, od25, .func (PySem.W.fnOf "_law_drawn_words" "_law_drawn_words" (defArgs s_law_drawn_words) (defBody s_law_drawn_words) (defScope s_law_drawn_words) .none kV25 dc25 pm25 an25 cd25 ct25), sl25⟩)
    (c25 : PySem.W.codeIn K cd25 "_law_drawn_words" = true)
    (k25 : PySem.W.keepIn K (.ref f25) = true)
    (a26 : PySem.W.nsIn K mainGlobals "_law_steps" = some (some (.ref f26)))
    (l26 : K.lookup f26 = some ⟨oc26, od26, .func (PySem.W.fnOf "_law_steps" "_law_steps" (defArgs s_law_steps) (defBody s_law_steps) (defScope s_law_steps) .none kV26 dc26 pm26 an26 cd26 ct26), sl26⟩)
    (c26 : PySem.W.codeIn K cd26 "_law_steps" = true)
    (k26 : PySem.W.keepIn K (.ref f26) = true)
    (a27 : PySem.W.nsIn K mainGlobals "_law_odd" = some (some (.ref f27)))
    (l27 : K.lookup f27 = some ⟨oc27, od27, .func (PySem.W.fnOf "_law_odd" "_law_odd" (defArgs s_law_odd) (defBody s_law_odd) (defScope s_law_odd) .none kV27 dc27 pm27 an27 cd27 ct27), sl27⟩)
    (c27 : PySem.W.codeIn K cd27 "_law_odd" = true)
    (k27 : PySem.W.keepIn K (.ref f27) = true)
    (a28 : PySem.W.nsIn K mainGlobals "_law_spot_changed" = some (some (.ref f28)))
    (l28 : K.lookup f28 = some ⟨oc28, od28, .func (PySem.W.fnOf "_law_spot_changed" "_law_spot_changed" (defArgs s_law_spot_changed) (defBody s_law_spot_changed) (defScope s_law_spot_changed) .none kV28 dc28 pm28 an28 cd28 ct28), sl28⟩)
    (c28 : PySem.W.codeIn K cd28 "_law_spot_changed" = true)
    (k28 : PySem.W.keepIn K (.ref f28) = true)
    (a29 : PySem.W.nsIn K mainGlobals "_law_top" = some (some (.ref f29)))
    (l29 : K.lookup f29 = some ⟨oc29, od29, .func (PySem.W.fnOf "_law_top" "_law_top" (defArgs s_law_top) (defBody s_law_top) (defScope s_law_top) .none kV29 dc29 pm29 an29 cd29 ct29), sl29⟩)
    (c29 : PySem.W.codeIn K cd29 "_law_top" = true)
    (k29 : PySem.W.keepIn K (.ref f29) = true)
    (a30 : PySem.W.nsIn K mainGlobals "_law_bits" = some (some (.ref f30)))
    (l30 : K.lookup f30 = some ⟨oc30, od30, .func (PySem.W.fnOf "_law_bits" "_law_bits" (defArgs s_law_bits) (defBody s_law_bits) (defScope s_law_bits) .none kV30 dc30 pm30 an30 cd30 ct30), sl30⟩)
    (c30 : PySem.W.codeIn K cd30 "_law_bits" = true)
    (k30 : PySem.W.keepIn K (.ref f30) = true)
    (a31 : PySem.W.nsIn K mainGlobals "_law_is_whole" = some (some (.ref f31)))
    (l31 : K.lookup f31 = some ⟨oc31, od31, .func (PySem.W.fnOf "_law_is_whole" "_law_is_whole" (defArgs s_law_is_whole) (defBody s_law_is_whole) (defScope s_law_is_whole) .none kV31 dc31 pm31 an31 cd31 ct31), sl31⟩)
    (c31 : PySem.W.codeIn K cd31 "_law_is_whole" = true)
    (k31 : PySem.W.keepIn K (.ref f31) = true)
    (a32 : PySem.W.nsIn K mainGlobals "_law_told" = some (some (.ref f32)))
    (l32 : K.lookup f32 = some ⟨oc32, od32, .func (PySem.W.fnOf "_law_told" "_law_told" (defArgs s_law_told) (defBody s_law_told) (defScope s_law_told) .none kV32 dc32 pm32 an32 cd32 ct32), sl32⟩)
    (c32 : PySem.W.codeIn K cd32 "_law_told" = true)
    (k32 : PySem.W.keepIn K (.ref f32) = true)
    (a33 : PySem.W.nsIn K mainGlobals "_law_counted" = some (some (.ref f33)))
    (l33 : K.lookup f33 = some ⟨oc33, od33, .func (PySem.W.fnOf "_law_counted" "_law_counted" (defArgs s_law_counted) (defBody s_law_counted) (defScope s_law_counted) .none kV33 dc33 pm33 an33 cd33 ct33), sl33⟩)
    (c33 : PySem.W.codeIn K cd33 "_law_counted" = true)
    (k33 : PySem.W.keepIn K (.ref f33) = true)
    (a34 : PySem.W.nsIn K mainGlobals "_law_members" = some (some (.ref f34)))
    (l34 : K.lookup f34 = some ⟨oc34, od34, .func (PySem.W.fnOf "_law_members" "_law_members" (defArgs s_law_members) (defBody s_law_members) (defScope s_law_members) .none kV34 dc34 pm34 an34 cd34 ct34), sl34⟩)
    (c34 : PySem.W.codeIn K cd34 "_law_members" = true)
    (k34 : PySem.W.keepIn K (.ref f34) = true)
    (a35 : PySem.W.nsIn K mainGlobals "_law_numbers_right" = some (some (.ref f35)))
    (l35 : K.lookup f35 = some ⟨oc35, od35, .func (PySem.W.fnOf "_law_numbers_right" "_law_numbers_right" (defArgs s_law_numbers_right) (defBody s_law_numbers_right) (defScope s_law_numbers_right) .none kV35 dc35 pm35 an35 cd35 ct35), sl35⟩)
    (c35 : PySem.W.codeIn K cd35 "_law_numbers_right" = true)
    (k35 : PySem.W.keepIn K (.ref f35) = true)
    (a36 : PySem.W.nsIn K mainGlobals "_law_right" = some (some (.ref f36)))
    (l36 : K.lookup f36 = some ⟨oc36, od36, .func (PySem.W.fnOf "_law_right" "_law_right" (defArgs s_law_right) (defBody s_law_right) (defScope s_law_right) .none kV36 dc36 pm36 an36 cd36 ct36), sl36⟩)
    (c36 : PySem.W.codeIn K cd36 "_law_right" = true)
    (k36 : PySem.W.keepIn K (.ref f36) = true)
    (a37 : PySem.W.nsIn K mainGlobals "law" = some (some (.ref f37)))
    (l37 : K.lookup f37 = some ⟨oc37, od37, .func (PySem.W.fnOf "law" "law" (defArgs s_law) (defBody s_law) (defScope s_law) .none kV37 dc37 pm37 an37 cd37 ct37), sl37⟩)
    (c37 : PySem.W.codeIn K cd37 "law" = true)
    (k37 : PySem.W.keepIn K (.ref f37) = true)
    (pg : PySem.W.plainGet K C Str.empty = true)
    (hd : PySem.W.hasDictIn K C = true)
    (po : PySem.W.plainOver K C = true)
    (sa : PySem.W.findIn K (.ref C) "__setattr__" = some (some (.builtin "object.__setattr__")))
    (mk : PySem.W.makesIn K C = true)
    (kc : PySem.W.keepIn K (.ref C) = true)
    (n_rounded : PySem.W.findIn K (.ref C) "rounded" = some none)
    (n_start : PySem.W.findIn K (.ref C) "start" = some none)
    (n_step : PySem.W.findIn K (.ref C) "step" = some none)
    (n_below : PySem.W.findIn K (.ref C) "below" = some none)
    (n_cycle : PySem.W.findIn K (.ref C) "cycle" = some none)
    (n_least : PySem.W.findIn K (.ref C) "least" = some none)
    (n_is_endless : PySem.W.findIn K (.ref C) "is_endless" = some none)
    (n_text : PySem.W.findIn K (.ref C) "text" = some none)
    (isC : PySem.W.findIn K (.ref C) "__class__" = some (some (.builtin "object.__class__")))
    (isG : PySem.W.specialIn K (.builtin "object.__class__") "__get__" = some (some (.builtin "getset_descriptor.__get__")))
    (isT : PySem.W.takesIn K (.builtin "object.__class__") = some true)
    (isM : PySem.W.mroIn K C (.type "object") = some true)
    (neq : PySem.W.findIn K (.ref C) "__ne__" = some (some (.builtin "object.__ne__")))
    (icl : PySem.W.isClsIn K C = true)
    (tcl : PySem.W.typeIn K (.ref C) = some (.type "type"))
    (s_str : PySem.W.subIn K (.type "str") (.ref C) = some false)
    (f_str : PySem.W.notFirst K C (.type "str") = true)
    (s_int : PySem.W.subIn K (.type "int") (.ref C) = some false)
    (f_int : PySem.W.notFirst K C (.type "int") = true)
    (s_tuple : PySem.W.subIn K (.type "tuple") (.ref C) = some false)
    (f_tuple : PySem.W.notFirst K C (.type "tuple") = true)
    (xLE0 : K.lookup CN = some (excClassObj nmE0 qE0 CN NE0 bsE0 [.ref BE00, .type "ValueError", .type "Exception", .type "BaseException", .type "object"] true snE0 subE0 abE0 colE0 ddE0 m0E0 m1E0 m2E0 m3E0 m5E0 "ValueError.__new__"))
    (saE0 : PySem.W.findIn K (.ref CN) "__setattr__" = some (some (.builtin "object.__setattr__")))
    (gaE0 : PySem.W.findIn K (.ref CN) "__getattribute__" = some (some (.builtin "BaseException.__getattribute__")))
    (ggE0 : PySem.W.findIn K (.ref CN) "__getattr__" = some none)
    (nfE0 : PySem.W.findIn K (.ref CN) "given" = some none)
    (iIE0 : PySem.W.findIn K (.ref CN) "__init__" = some (some (.ref fIE0)))
    (tIE0 : PySem.W.typeIn K (.ref fIE0) = some (.type "function"))
    (lIE0 : K.lookup fIE0 = some ⟨ocIE0, odIE0, .func (PySem.W.fnOf "__init__" "InvalidNumber.__init__" (defArgs s_err_InvalidNumber) (defBody s_err_InvalidNumber) (defScope s_err_InvalidNumber) .none kVIE0 dcIE0 pmIE0 anIE0 cdIE0 ctIE0), slIE0⟩)
    (cIE0 : PySem.W.codeIn K cdIE0 "InvalidNumber.__init__" = true)
    (kIE0 : PySem.W.keepIn K (.ref fIE0) = true)
    (kCE0 : PySem.W.keepIn K (.ref CN) = true)
    (eCE0 : PySem.W.subIn K (.ref CN) (.type "BaseException") = some true)
    (tCE0 : PySem.W.typeIn K (.ref CN) = some (.type "type"))
    (hCE0 : PySem.W.hasDictIn K CN = true)
    (sCE0 : PySem.W.subIn K (.ref CN) (.ref CN) = some true)
    (xLE1 : K.lookup CI = some (excClassObj nmE1 qE1 CI NE1 bsE1 [.ref BE10, .type "ValueError", .type "Exception", .type "BaseException", .type "object"] true snE1 subE1 abE1 colE1 ddE1 m0E1 m1E1 m2E1 m3E1 m5E1 "ValueError.__new__"))
    (saE1 : PySem.W.findIn K (.ref CI) "__setattr__" = some (some (.builtin "object.__setattr__")))
    (gaE1 : PySem.W.findIn K (.ref CI) "__getattribute__" = some (some (.builtin "BaseException.__getattribute__")))
    (ggE1 : PySem.W.findIn K (.ref CI) "__getattr__" = some none)
    (nfE1 : PySem.W.findIn K (.ref CI) "index" = some none)
    (iIE1 : PySem.W.findIn K (.ref CI) "__init__" = some (some (.ref fIE1)))
    (tIE1 : PySem.W.typeIn K (.ref fIE1) = some (.type "function"))
    (lIE1 : K.lookup fIE1 = some ⟨ocIE1, odIE1, .func (PySem.W.fnOf "__init__" "InvalidNumbers.__init__" (defArgs s_err_InvalidNumbers) (defBody s_err_InvalidNumbers) (defScope s_err_InvalidNumbers) .none kVIE1 dcIE1 pmIE1 anIE1 cdIE1 ctIE1), slIE1⟩)
    (cIE1 : PySem.W.codeIn K cdIE1 "InvalidNumbers.__init__" = true)
    (kIE1 : PySem.W.keepIn K (.ref fIE1) = true)
    (kCE1 : PySem.W.keepIn K (.ref CI) = true)
    (eCE1 : PySem.W.subIn K (.ref CI) (.type "BaseException") = some true)
    (tCE1 : PySem.W.typeIn K (.ref CI) = some (.type "type"))
    (hCE1 : PySem.W.hasDictIn K CI = true)
    (sCE1 : PySem.W.subIn K (.ref CI) (.ref CI) = some true)
    (z_isinstance : PySem.W.nsIn K mainGlobals "isinstance" = some none)
    (z_int : PySem.W.nsIn K mainGlobals "int" = some none)
    (z_bool : PySem.W.nsIn K mainGlobals "bool" = some none)
    (z_str : PySem.W.nsIn K mainGlobals "str" = some none)
    (z_len : PySem.W.nsIn K mainGlobals "len" = some none)
    (z_tuple : PySem.W.nsIn K mainGlobals "tuple" = some none)
    (z_list : PySem.W.nsIn K mainGlobals "list" = some none)
    (z_enumerate : PySem.W.nsIn K mainGlobals "enumerate" = some none)
    (z_range : PySem.W.nsIn K mainGlobals "range" = some none)
    (z_divmod : PySem.W.nsIn K mainGlobals "divmod" = some none)
    (z_abs : PySem.W.nsIn K mainGlobals "abs" = some none)
    (z_sorted : PySem.W.nsIn K mainGlobals "sorted" = some none)
    (z_repr : PySem.W.nsIn K mainGlobals "repr" = some none)
    (z_all : PySem.W.nsIn K mainGlobals "all" = some none)
    (z_max : PySem.W.nsIn K mainGlobals "max" = some none)
    (z_min : PySem.W.nsIn K mainGlobals "min" = some none)
    (z_sum : PySem.W.nsIn K mainGlobals "sum" = some none)
    (z_set : PySem.W.nsIn K mainGlobals "set" = some none)
    (g_FIGURES : PySem.W.nsIn K mainGlobals "FIGURES" = some (some (.str "0123456789" t_FIGURES)))
    (g_MOST_NUMBER : PySem.W.nsIn K mainGlobals "MOST_NUMBER" = some (some (.int 1000 t_MOST_NUMBER)))
    (g_MOST_STEP : PySem.W.nsIn K mainGlobals "MOST_STEP" = some (some (.int 60 t_MOST_STEP)))
    (g_MOST_START : PySem.W.nsIn K mainGlobals "MOST_START" = some (some (.int 600 t_MOST_START)))
    (g_MOST_MEMBERS : PySem.W.nsIn K mainGlobals "MOST_MEMBERS" = some (some (.int 400 t_MOST_MEMBERS)))
    (g_MOST_HIGH : PySem.W.nsIn K mainGlobals "MOST_HIGH" = some (some (.int 1000000000000000000000000000000 t_MOST_HIGH)))
    (q_lcm : PySem.W.nsIn K mainGlobals "lcm" = some (some (.builtin "math.lcm")))
    (sNI : PySem.W.subIn K (.ref CI) (.ref CN) = some false)
    (r36 : cd36 = .ref cc36)
    (lc36 : K.lookup cc36 = some ⟨clc36, ddc36, .fields vsc36, slc36⟩)
    (hp36 : vsc36[11]? = some (.ref Pt))
    (np36 : K.lookup Pt = none)
    (r35 : cd35 = .ref cc35)
    (lc35 : K.lookup cc35 = some ⟨clc35, ddc35, .fields vsc35, slc35⟩)
    (hp35 : vsc35[11]? = some (.ref Pu))
    (np35 : K.lookup Pu = none)
    (neq2 : Pt ≠ Pu) :
    LawAtG l w K 13 63 "_law_script" mg fa h := by
  have e := hfa.symm.trans (PySem.W.mg_of X G a37)
  cases e
  have F0 := fun_mk (st := s_is_number) l0 c0 k0
  have b0 := F0.binds (ps := ["value"]) fun _ _ _ _ _ _ us hl => match us, hl with | [_], _ => rfl
  have F1 := fun_mk (st := s_is_whole) l1 c1 k1
  have b1 := F1.binds (ps := ["value", "low", "high"]) fun _ _ _ _ _ _ us hl => match us, hl with | [_, _, _], _ => rfl
  have F2 := fun_mk (st := s_number_in) l2 c2 k2
  have b2 := F2.binds (ps := ["word", "high"]) fun _ _ _ _ _ _ us hl => match us, hl with | [_, _], _ => rfl
  have F3 := fun_mk (st := s_all_bits) l3 c3 k3
  have b3 := F3.binds (ps := ["many"]) fun _ _ _ _ _ _ us hl => match us, hl with | [_], _ => rfl
  have F4 := fun_mk (st := s_repeated) l4 c4 k4
  have b4 := F4.binds (ps := ["cycle", "step", "many"]) fun _ _ _ _ _ _ us hl => match us, hl with | [_, _, _], _ => rfl
  have F5 := fun_mk (st := s_settled) l5 c5 k5
  have b5 := F5.binds (ps := ["start", "step", "bits"]) fun _ _ _ _ _ _ us hl => match us, hl with | [_, _, _], _ => rfl
  have F6 := fun_mk (st := s_numbers_in) l6 c6 k6
  have b6 := F6.binds (ps := ["bits"]) fun _ _ _ _ _ _ us hl => match us, hl with | [_], _ => rfl
  have F7 := fun_mk (st := s_init) l7 c7 k7
  have b7 := F7.binds (ps := ["self", "text"]) fun _ _ _ _ _ _ us hl => match us, hl with | [_, _], _ => rfl
  have F8 := fun_mk (st := s_eq) l8 c8 k8
  have b8 := F8.binds (ps := ["self", "other"]) fun _ _ _ _ _ _ us hl => match us, hl with | [_, _], _ => rfl
  have F9 := fun_mk (st := s_take) l9 c9 k9
  have b9 := F9.binds (ps := ["self", "rounded"]) fun _ _ _ _ _ _ us hl => match us, hl with | [_, _], _ => rfl
  have F10 := fun_mk (st := s_members) l10 c10 k10
  have b10 := F10.binds (ps := ["self", "many"]) fun _ _ _ _ _ _ us hl => match us, hl with | [_, _], _ => rfl
  have F11 := fun_mk (st := s_counted) l11 c11 k11
  have b11 := F11.binds (ps := ["self", "high"]) fun _ _ _ _ _ _ us hl => match us, hl with | [_, _], _ => rfl
  have F12 := fun_mk (st := s_words_in) l12 c12 k12
  have b12 := F12.binds (ps := ["text"]) fun _ _ _ _ _ _ us hl => match us, hl with | [_], _ => rfl
  have F13 := fun_mk (st := s_word_in) l13 c13 k13
  have b13 := F13.binds (ps := ["word"]) fun _ _ _ _ _ _ us hl => match us, hl with | [_], _ => rfl
  have F14 := fun_mk (st := s_common_step) l14 c14 k14
  have b14 := F14.binds (ps := ["words"]) fun _ _ _ _ _ _ us hl => match us, hl with | [_], _ => rfl
  have F15 := fun_mk (st := s_rounded_words) l15 c15 k15
  have b15 := F15.binds (ps := ["words", "step"]) fun _ _ _ _ _ _ us hl => match us, hl with | [_, _], _ => rfl
  have F16 := fun_mk (st := s_normal_text) l16 c16 k16
  have b16 := F16.binds (ps := ["below", "cycle", "step"]) fun _ _ _ _ _ _ us hl => match us, hl with | [_, _, _], _ => rfl
  have F17 := fun_mk (st := s_made_lengths) l17 c17 k17
  have b17 := F17.binds (ps := ["rounded"]) fun _ _ _ _ _ _ us hl => match us, hl with | [_], _ => rfl
  have F18 := fun_mk (st := s_of_numbers) l18 c18 k18
  have b18 := F18.binds (ps := ["numbers"]) fun _ _ _ _ _ _ us hl => match us, hl with | [_], _ => rfl
  have F19 := fun_mk (st := s_law_jug) l19 c19 k19
  have b19 := F19.binds (ps := ["_law_script", "_law_turn"]) fun _ _ _ _ _ _ us hl => match us, hl with | [_, _], _ => rfl
  have F20 := fun_mk (st := s_law_take) l20 c20 k20
  have b20 := F20.binds (ps := ["_law_jug_here", "_law_many"]) fun _ _ _ _ _ _ us hl => match us, hl with | [_, _], _ => rfl
  have F21 := fun_mk (st := s_law_one_of) l21 c21 k21
  have b21 := F21.binds (ps := ["_law_jug_here", "_law_some"]) fun _ _ _ _ _ _ us hl => match us, hl with | [_, _], _ => rfl
  have F22 := fun_mk (st := s_law_set_text) l22 c22 k22
  have b22 := F22.binds (ps := ["_law_words"]) fun _ _ _ _ _ _ us hl => match us, hl with | [_], _ => rfl
  have F23 := fun_mk (st := s_law_has) l23 c23 k23
  have b23 := F23.binds (ps := ["_law_words", "_law_number"]) fun _ _ _ _ _ _ us hl => match us, hl with | [_, _], _ => rfl
  have F24 := fun_mk (st := s_law_normal) l24 c24 k24
  have b24 := F24.binds (ps := ["_law_bits_here", "_law_top_here", "_law_period"]) fun _ _ _ _ _ _ us hl => match us, hl with | [_, _, _], _ => rfl
  have F25 := fun_mk (st := s_law_drawn_words) l25 c25 k25
  have b25 := F25.binds (ps := ["_law_jug_here", "_law_steps_here", "_law_high"]) fun _ _ _ _ _ _ us hl => match us, hl with | [_, _, _], _ => rfl
  have F26 := fun_mk (st := s_law_steps) l26 c26 k26
  have b26 := F26.binds (ps := ["_law_jug_here"]) fun _ _ _ _ _ _ us hl => match us, hl with | [_], _ => rfl
  have F27 := fun_mk (st := s_law_odd) l27 c27 k27
  have b27 := F27.binds (ps := ["_law_jug_here"]) fun _ _ _ _ _ _ us hl => match us, hl with | [_], _ => rfl
  have F28 := fun_mk (st := s_law_spot_changed) l28 c28 k28
  have b28 := F28.binds (ps := ["_law_jug_here", "_law_row", "_law_thing"]) fun _ _ _ _ _ _ us hl => match us, hl with | [_, _, _], _ => rfl
  have F29 := fun_mk (st := s_law_top) l29 c29 k29
  have b29 := F29.binds (ps := ["_law_words"]) fun _ _ _ _ _ _ us hl => match us, hl with | [_], _ => rfl
  have F30 := fun_mk (st := s_law_bits) l30 c30 k30
  have b30 := F30.binds (ps := ["_law_words", "_law_many"]) fun _ _ _ _ _ _ us hl => match us, hl with | [_, _], _ => rfl
  have F31 := fun_mk (st := s_law_is_whole) l31 c31 k31
  have b31 := F31.binds (ps := ["_law_value", "_law_low", "_law_high"]) fun _ _ _ _ _ _ us hl => match us, hl with | [_, _, _], _ => rfl
  have F32 := fun_mk (st := s_law_told) l32 c32 k32
  have b32 := F32.binds (ps := ["_law_call"]) fun _ _ _ _ _ _ us hl => match us, hl with | [_], _ => rfl
  have F33 := fun_mk (st := s_law_counted) l33 c33 k33
  have b33 := F33.binds (ps := ["_law_bits_here", "_law_top_here", "_law_period", "_law_high"]) fun _ _ _ _ _ _ us hl => match us, hl with | [_, _, _, _], _ => rfl
  have F34 := fun_mk (st := s_law_members) l34 c34 k34
  have b34 := F34.binds (ps := ["_law_bits_here", "_law_top_here", "_law_period", "_law_many"]) fun _ _ _ _ _ _ us hl => match us, hl with | [_, _, _, _], _ => rfl
  have F35 := fun_mk (st := s_law_numbers_right) l35 c35 k35
  have b35 := F35.binds (ps := ["_law_jug_here"]) fun _ _ _ _ _ _ us hl => match us, hl with | [_], _ => rfl
  have F36 := fun_mk (st := s_law_right) l36 c36 k36
  have b36 := F36.binds (ps := ["_law_jug_here"]) fun _ _ _ _ _ _ us hl => match us, hl with | [_], _ => rfl
  have F37 := fun_mk (st := s_law) l37 c37 k37
  have b37 := F37.binds (ps := ["_law_script"]) fun _ _ _ _ _ _ us hl => match us, hl with | [_], _ => rfl
  have FIE0 := fun_mk (st := s_err_InvalidNumber) lIE0 cIE0 kIE0
  have bIE0 := FIE0.binds (ps := ["self", "given"]) fun _ _ _ _ _ _ us hl => match us, hl with | [_, _], _ => rfl
  have FIE1 := fun_mk (st := s_err_InvalidNumbers) lIE1 cIE1 kIE1
  have bIE1 := FIE1.binds (ps := ["self", "index"]) fun _ _ _ _ _ _ us hl => match us, hl with | [_, _], _ => rfl
  have T : Txt K mg C CN CI := {
    b_isinstance := PySem.W.mg_none_of X G z_isinstance
    b_int := PySem.W.mg_none_of X G z_int
    b_bool := PySem.W.mg_none_of X G z_bool
    b_str := PySem.W.mg_none_of X G z_str
    b_len := PySem.W.mg_none_of X G z_len
    b_tuple := PySem.W.mg_none_of X G z_tuple
    b_list := PySem.W.mg_none_of X G z_list
    b_enumerate := PySem.W.mg_none_of X G z_enumerate
    b_range := PySem.W.mg_none_of X G z_range
    b_divmod := PySem.W.mg_none_of X G z_divmod
    b_abs := PySem.W.mg_none_of X G z_abs
    b_sorted := PySem.W.mg_none_of X G z_sorted
    b_repr := PySem.W.mg_none_of X G z_repr
    b_all := PySem.W.mg_none_of X G z_all
    b_max := PySem.W.mg_none_of X G z_max
    b_min := PySem.W.mg_none_of X G z_min
    b_sum := PySem.W.mg_none_of X G z_sum
    b_set := PySem.W.mg_none_of X G z_set
    c_FIGURES := ⟨_, PySem.W.mg_of X G g_FIGURES⟩
    c_MOST_NUMBER := ⟨_, PySem.W.mg_of X G g_MOST_NUMBER⟩
    c_MOST_STEP := ⟨_, PySem.W.mg_of X G g_MOST_STEP⟩
    c_MOST_START := ⟨_, PySem.W.mg_of X G g_MOST_START⟩
    c_MOST_MEMBERS := ⟨_, PySem.W.mg_of X G g_MOST_MEMBERS⟩
    c_MOST_HIGH := ⟨_, PySem.W.mg_of X G g_MOST_HIGH⟩
    g_lcm := PySem.W.mg_of X G q_lcm
    mgC := PySem.W.mg_of X G aC
    mgCN := PySem.W.mg_of X G aCN
    mgCI := PySem.W.mg_of X G aCI
    x_InvalidNumber := ⟨PySem.W.mg_of X G aCN, ⟨⟨_, _, _, _, _, _, _, _, _, _, _, _, _, _, _, xLE0, rfl⟩, saE0, eCE0, tCE0, kCE0⟩, ⟨gaE0, ggE0, eCE0, hCE0⟩, nfE0, PySem.W.exm_ref eCE0 hCE0 tCE0 sCE0, ⟨fIE0, _, FIE0, iIE0, tIE0, bIE0⟩⟩
    x_InvalidNumbers := ⟨PySem.W.mg_of X G aCI, ⟨⟨_, _, _, _, _, _, _, _, _, _, _, _, _, _, _, xLE1, rfl⟩, saE1, eCE1, tCE1, kCE1⟩, ⟨gaE1, ggE1, eCE1, hCE1⟩, nfE1, PySem.W.exm_ref eCE1 hCE1 tCE1 sCE1, ⟨fIE1, _, FIE1, iIE1, tIE1, bIE1⟩⟩
    cl := ⟨pg, hd, po, sa⟩
    n_rounded := n_rounded
    n_start := n_start
    n_step := n_step
    n_below := n_below
    n_cycle := n_cycle
    n_least := n_least
    n_is_endless := n_is_endless
    n_text := n_text
    isC := isC
    isG := isG
    isT := isT
    isM := isM
    k_self := kit_self
    k_str := kit_not icl tcl s_str
    k_int := kit_not icl tcl s_int
    k_tup := kit_not icl tcl s_tuple
    f_str := f_str
    f_int := f_int
    f_tup := f_tuple
    nn := PySem.W.exm_ref eCE0 hCE0 tCE0 sCE0
    ii := PySem.W.exm_ref eCE1 hCE1 tCE1 sCE1
    ni := PySem.W.exm_ref eCE0 hCE0 tCE0 sNI
    d_is_number := ⟨_, _, F0, PySem.W.mg_of X G a0, b0⟩
    d_is_whole := ⟨_, _, F1, PySem.W.mg_of X G a1, b1⟩
    d_number_in := ⟨_, _, F2, PySem.W.mg_of X G a2, b2⟩
    d_all_bits := ⟨_, _, F3, PySem.W.mg_of X G a3, b3⟩
    d_repeated := ⟨_, _, F4, PySem.W.mg_of X G a4, b4⟩
    d_settled := ⟨_, _, F5, PySem.W.mg_of X G a5, b5⟩
    d_numbers_in := ⟨_, _, F6, PySem.W.mg_of X G a6, b6⟩
    d_init := ⟨_, _, F7, ⟨mk, a7, i7, kc⟩, b7⟩
    d_eq := ⟨_, _, F8, ⟨a8, i8, neq, isM, b8⟩⟩
    d_take := ⟨_, _, F9, ⟨a9, i9, k9⟩, b9⟩
    d_members := ⟨_, _, F10, ⟨a10, i10, k10⟩, b10⟩
    d_counted := ⟨_, _, F11, ⟨a11, i11, k11⟩, b11⟩
    d_words_in := ⟨_, _, F12, PySem.W.mg_of X G a12, b12⟩
    d__word_in := ⟨_, _, F13, PySem.W.mg_of X G a13, b13⟩
    d_common_step := ⟨_, _, F14, PySem.W.mg_of X G a14, b14⟩
    d_rounded_words := ⟨_, _, F15, PySem.W.mg_of X G a15, b15⟩
    d__normal_text := ⟨_, _, F16, PySem.W.mg_of X G a16, b16⟩
    d_made_lengths := ⟨_, _, F17, PySem.W.mg_of X G a17, b17⟩
    d_of_numbers := ⟨_, _, F18, PySem.W.mg_of X G a18, b18⟩
    d__law_jug := ⟨_, _, F19, PySem.W.mg_of X G a19, b19⟩
    d__law_take := ⟨_, _, F20, PySem.W.mg_of X G a20, b20⟩
    d__law_one_of := ⟨_, _, F21, PySem.W.mg_of X G a21, b21⟩
    d__law_set_text := ⟨_, _, F22, PySem.W.mg_of X G a22, b22⟩
    d__law_has := ⟨_, _, F23, PySem.W.mg_of X G a23, b23⟩
    d__law_normal := ⟨_, _, F24, PySem.W.mg_of X G a24, b24⟩
    d__law_drawn_words := ⟨_, _, F25, PySem.W.mg_of X G a25, b25⟩
    d__law_steps := ⟨_, _, F26, PySem.W.mg_of X G a26, b26⟩
    d__law_odd := ⟨_, _, F27, PySem.W.mg_of X G a27, b27⟩
    d__law_spot_changed := ⟨_, _, F28, PySem.W.mg_of X G a28, b28⟩
    d__law_top := ⟨_, _, F29, PySem.W.mg_of X G a29, b29⟩
    d__law_bits := ⟨_, _, F30, PySem.W.mg_of X G a30, b30⟩
    d__law_is_whole := ⟨_, _, F31, PySem.W.mg_of X G a31, b31⟩
    d__law_told := ⟨_, _, F32, PySem.W.mg_of X G a32, b32⟩
    d__law_counted := ⟨_, _, F33, PySem.W.mg_of X G a33, b33⟩
    d__law_members := ⟨_, _, F34, PySem.W.mg_of X G a34, b34⟩
    d__law_numbers_right := ⟨_, _, F35, PySem.W.mg_of X G a35, b35⟩
    d__law_right := ⟨_, _, F36, PySem.W.mg_of X G a36, b36⟩
    d_law := ⟨_, _, F37, PySem.W.mg_of X G a37, b37⟩
  }
  have tb36 := (TO "_law_right" List.mem_cons_self).read X (PySem.W.mg_of X G a36) l36 r36 lc36 hp36
  have tb35 := (TO "_law_numbers_right" (List.mem_cons_of_mem _ List.mem_cons_self)).read X (PySem.W.mg_of X G a35) l35 r35 lc35 hp35
  refine ⟨PySem.W.fnOf "law" "law" (defArgs s_law) (defBody s_law) (defScope s_law) .none kV37 dc37 pm37 an37 cd37 ct37, [(cc36, Pt), (cc35, Pu)], (r_law K Pt Pu), ?_, ?_, ?_, fun s v => .of_eq rfl, ?_, fun base _ _ TB => ?_⟩
  · exact fun p hp => by
      simp only [List.mem_cons, List.not_mem_nil, or_false] at hp
      rcases hp with rfl | rfl
      · exact tb36.1
      · exact tb35.1
  · exact fun p hp => by
      simp only [List.mem_cons, List.not_mem_nil, or_false] at hp
      rcases hp with rfl | rfl
      · exact np36
      · exact np35
  · exact fun p hp => by
      simp only [List.mem_cons, List.not_mem_nil, or_false] at hp
      rcases hp with rfl | rfl
      · exact tb36.2
      · exact tb35.2
  · exact fun H a ns hl hT hS => ⟨a, ns, rfl, hS, ⟨TabS.nil (hT (_, Pt) List.mem_cons_self), TabS.nil (hT (_, Pu) (List.mem_cons_of_mem _ List.mem_cons_self))⟩, hl, fun _ => rfl⟩
  have TB36 := TB (cc36, Pt) List.mem_cons_self
  have TB35 := TB (cc35, Pu) (List.mem_cons_of_mem _ List.mem_cons_self)
  have G__law_take : Pr l.prog w K mg base "_law_take" s_law_take 1 ["_law_jug_here", "_law_many"] sp_law_take := ok_law_take T 
  have G__law_one_of : Pr l.prog w K mg base "_law_one_of" s_law_one_of 2 ["_law_jug_here", "_law_some"] (sp_law_one_of K) := ok_law_one_of T G__law_take
  have G__law_steps : Pr l.prog w K mg base "_law_steps" s_law_steps 3 ["_law_jug_here"] (sp2_law_steps K) := ok_law_steps T G__law_one_of
  have G__law_drawn_words : Pr l.prog w K mg base "_law_drawn_words" s_law_drawn_words 3 ["_law_jug_here", "_law_steps_here", "_law_high"] (sp2_drawn_words K) := ok_law_drawn_words T G__law_take G__law_one_of
  have G__law_top : Pr l.prog w K mg base "_law_top" s_law_top 1 ["_law_words"] (sp2_law_top K) := ok_law_top T 
  have G__law_has : Pr l.prog w K mg base "_law_has" s_law_has 1 ["_law_words", "_law_number"] (sp2_law_has K) := ok_law_has T 
  have G__law_bits : Pr l.prog w K mg base "_law_bits" s_law_bits 2 ["_law_words", "_law_many"] (sp2_law_bits K) := ok_law_bits T G__law_has
  have G_number_in : Pr l.prog w K mg base "number_in" s_number_in 1 ["word", "high"] sp2_number_in := ok_number_in T 
  have G__word_in : Pr l.prog w K mg base "_word_in" s_word_in 2 ["word"] (sp2_word_in K) := ok_word_in T G_number_in
  have G_words_in : Pr l.prog w K mg base "words_in" s_words_in 3 ["text"] (sp2_words_in K) := ok_words_in T G__word_in
  have G_common_step : Pr l.prog w K mg base "common_step" s_common_step 1 ["words"] (sp2_common_step K) := ok_common_step T 
  have G_all_bits : Pr l.prog w K mg base "all_bits" s_all_bits 1 ["many"] sp2_all_bits := ok_all_bits T 
  have G_settled : Pr l.prog w K mg base "settled" s_settled 2 ["start", "step", "bits"] (sp2_settled K) := ok_settled T G_all_bits
  have G_repeated : Pr l.prog w K mg base "repeated" s_repeated 2 ["cycle", "step", "many"] sp2_repeated := ok_repeated T G_all_bits
  have G_rounded_words : Pr l.prog w K mg base "rounded_words" s_rounded_words 3 ["words", "step"] (sp2_rounded_words K) := ok_rounded_words T G_settled G_repeated
  have G__normal_text : Pr l.prog w K mg base "_normal_text" s_normal_text 1 ["below", "cycle", "step"] (sp2_normal_text K) := ok_normal_text T 
  have G_numbers_in : Pr l.prog w K mg base "numbers_in" s_numbers_in 1 ["bits"] sp2_numbers_in := ok_numbers_in T 
  have G_take : PrM l.prog w K mg base C "take" "Lengths.take" s_take 2 ["self", "rounded"] (sp3_take K C) := ok_take T G__normal_text G_numbers_in G_all_bits
  have G_init : PrI l.prog w K mg base C "Lengths.__init__" s_init 4 ["self", "text"] (sp2_init K C) := ok_init T G_words_in G_common_step G_rounded_words G_take
  have G__law_set_text : Pr l.prog w K mg base "_law_set_text" s_law_set_text 1 ["_law_words"] (sp2_set_text K) := ok_law_set_text T 
  have G__law_odd : Pr l.prog w K mg base "_law_odd" s_law_odd 3 ["_law_jug_here"] (q_odd K) := ok_law_odd T G__law_one_of
  have G_made_lengths : Pr l.prog w K mg base "made_lengths" s_made_lengths 6 ["rounded"] (sp3_made K C) := ok_made_lengths T G_init G_take
  have G_is_number : Pr l.prog w K mg base "is_number" s_is_number 1 ["value"] (q_is_number K) := ok_is_number T 
  have G_is_whole : Pr l.prog w K mg base "is_whole" s_is_whole 2 ["value", "low", "high"] (q_is_whole K) := ok_is_whole T G_is_number
  have G_of_numbers : PrX l.prog w K mg base "of_numbers" s_of_numbers 7 ["numbers"] (r_of_numbers K C CI) := ok_of_numbers T G_made_lengths G_settled G_is_whole
  have G__law_spot_changed : Pr l.prog w K mg base "_law_spot_changed" s_law_spot_changed 2 ["_law_jug_here", "_law_row", "_law_thing"] (r_spot K) := ok_law_spot_changed T G__law_take
  have G__law_is_whole : Pr l.prog w K mg base "_law_is_whole" s_law_is_whole 1 ["_law_value", "_law_low", "_law_high"] (q_is_whole K) := ok_law_is_whole T 
  have G_eq : PrE l.prog w K mg base C "Lengths.__eq__" s_eq 1 (sp2_eq K C) := ok_eq T 
  have G__law_odd3 : Pr l.prog w K mg base "_law_odd" s_law_odd 3 ["_law_jug_here"] (q_odd3 K) := ok_law_odd3 T G__law_one_of
  have G__law_numbers_right : PrG l.prog w K mg base "_law_numbers_right" s_law_numbers_right 11 ["_law_jug_here"] (r_numbers Pt Pu) := ⟨_, _, F35, PySem.W.mg_of X G a35, b35, ok_law_numbers_right T G__law_one_of G__law_take G_of_numbers G__law_odd3 G__law_spot_changed G__law_is_whole G_eq F35 r35 neq2 TB35⟩
  have G_members : PrMX l.prog w K mg base C "members" "Lengths.members" s_members 3 ["self", "many"] (r_members K C CN) := ok_members T G_is_whole
  have G__law_normal : Pr l.prog w K mg base "_law_normal" s_law_normal 1 ["_law_bits_here", "_law_top_here", "_law_period"] (sp2_law_normal K) := ok_law_normal T 
  have G__law_members : Pr l.prog w K mg base "_law_members" s_law_members 2 ["_law_bits_here", "_law_top_here", "_law_period", "_law_many"] (r_lmemb K) := ok_law_members T G__law_normal
  have G_counted : PrMX l.prog w K mg base C "counted" "Lengths.counted" s_counted 3 ["self", "high"] (r_counted K C CN) := ok_counted T G_is_whole
  have G__law_counted : Pr l.prog w K mg base "_law_counted" s_law_counted 2 ["_law_bits_here", "_law_top_here", "_law_period", "_law_high"] (r_lcount K) := ok_law_counted T G__law_normal
  have G__law_right : PrG l.prog w K mg base "_law_right" s_law_right 12 ["_law_jug_here"] (r_right Pt Pu) := ⟨_, _, F36, PySem.W.mg_of X G a36, b36, ok_law_right T G__law_steps G__law_drawn_words G__law_top G__law_bits G_init G__law_set_text G__law_take G__law_one_of G__law_odd G__law_numbers_right G_members G__law_members G__law_is_whole G_counted G__law_counted G_eq F36 r36 neq2 TB36⟩
  have G__law_jug : Pr l.prog w K mg base "_law_jug" s_law_jug 1 ["_law_script", "_law_turn"] (sp_law_jug K) := ok_law_jug T 
  have G_law := ok_law T G__law_jug G__law_right
  obtain ⟨f, fd, F, gl, bd, R⟩ := G_law
  have e1 := gl.symm.trans (PySem.W.mg_of X G a37)
  cases e1
  obtain ⟨x1, x2, x3, x4, x5, x6, x7, x8, x9, e2, lk, _⟩ := F.ex
  rw [l37] at lk
  injection lk with lk
  injection lk with _ _ l3 _
  injection l3 with l4
  first | rw [← l4] at R | rw [l4] at R | rw [e2, ← l4] at R
  exact R
theorem walk {l : PySem.W.OpenLaw} {q : Program} {loose : List Str} {XP : (Str → Option Value) → Heap → Prop} {YP : World → Heap → Prop} {d : DefRec} {K : Params → PySem.W.Frag} (hn : l.most = some 63) (hdf : d.params.defaults = [])
    (hrec : ((["_law_right", "_law_numbers_right"] : List Str).all fun nm => (PyProof.Rows.recsOf q).any fun e => e.name == nm) = true) (hY : ∀ (w : World) (h : Heap), YP w h → (K w.params).In h)
    (F : ∀ (w : World) (mg : Str → Option Value) (fa : Addr) (h : Heap), (K w.params).In h → h.Ns mainGlobals mg → mg d.name = some (.ref fa) → (∀ nm ∈ (["_law_right", "_law_numbers_right"] : List Str), TabOf mg h nm) → LawAtG l w (K w.params) 13 63 "_law_script" mg fa h) :
    PySem.W.WalkO q loose XP YP l.row.toRowW d [] (fun f vs => PySem.call f vs) :=
  walkGT2 (n := 63) (k := 13) (x := "_law_script") hn (by decide) hdf ⟨rfl, by decide, by decide⟩ hY _ hrec F
end K1
open PySem PySem.W PyProof.Rows
set_option maxRecDepth 100000 in
set_option maxHeartbeats 0 in
theorem PySem.Challenge.cw_arrowcells_k13_members_and_counts_holds : PySem.Challenge.rw_arrowcells_k13_members_and_counts.Holds := by
  w_on; o_law; k_head; (case hw => w_witness2)
  k_fill
  refine K1.walk (l := PySem.Challenge.rw_arrowcells_k13_members_and_counts) rfl rfl (by decide +kernel) (fun w h Y => by first | exact PySem.W.kIn_of Y | exact PySem.W.km_in_of Y) ?F
  case F =>
    intro w mg fa h KX G hmg TO
    refine' K1.all_mk KX G hmg TO ?aC ?aCN ?aCI ?a0 ?l0 ?c0 ?k0 ?a1 ?l1 ?c1 ?k1 ?a2 ?l2 ?c2 ?k2 ?a3 ?l3 ?c3 ?k3 ?a4 ?l4 ?c4 ?k4 ?a5 ?l5 ?c5 ?k5 ?a6 ?l6 ?c6 ?k6 ?a7 ?i7 ?l7 ?c7 ?k7 ?a8 ?i8 ?l8 ?c8 ?k8 ?a9 ?i9 ?l9 ?c9 ?k9 ?a10 ?i10 ?l10 ?c10 ?k10 ?a11 ?i11 ?l11 ?c11 ?k11 ?a12 ?l12 ?c12 ?k12 ?a13 ?l13 ?c13 ?k13 ?a14 ?l14 ?c14 ?k14 ?a15 ?l15 ?c15 ?k15 ?a16 ?l16 ?c16 ?k16 ?a17 ?l17 ?c17 ?k17 ?a18 ?l18 ?c18 ?k18 ?a19 ?l19 ?c19 ?k19 ?a20 ?l20 ?c20 ?k20 ?a21 ?l21 ?c21 ?k21 ?a22 ?l22 ?c22 ?k22 ?a23 ?l23 ?c23 ?k23 ?a24 ?l24 ?c24 ?k24 ?a25 ?l25 ?c25 ?k25 ?a26 ?l26 ?c26 ?k26 ?a27 ?l27 ?c27 ?k27 ?a28 ?l28 ?c28 ?k28 ?a29 ?l29 ?c29 ?k29 ?a30 ?l30 ?c30 ?k30 ?a31 ?l31 ?c31 ?k31 ?a32 ?l32 ?c32 ?k32 ?a33 ?l33 ?c33 ?k33 ?a34 ?l34 ?c34 ?k34 ?a35 ?l35 ?c35 ?k35 ?a36 ?l36 ?c36 ?k36 ?a37 ?l37 ?c37 ?k37 ?pg ?hd ?po ?sa ?mk ?kc ?n_rounded ?n_start ?n_step ?n_below ?n_cycle ?n_least ?n_is_endless ?n_text ?isC ?isG ?isT ?isM ?neq ?icl ?tcl ?s_str ?f_str ?s_int ?f_int ?s_tuple ?f_tuple ?xLE0 ?saE0 ?gaE0 ?ggE0 ?nfE0 ?iIE0 ?tIE0 ?lIE0 ?cIE0 ?kIE0 ?kCE0 ?eCE0 ?tCE0 ?hCE0 ?sCE0 ?xLE1 ?saE1 ?gaE1 ?ggE1 ?nfE1 ?iIE1 ?tIE1 ?lIE1 ?cIE1 ?kIE1 ?kCE1 ?eCE1 ?tCE1 ?hCE1 ?sCE1 ?z_isinstance ?z_int ?z_bool ?z_str ?z_len ?z_tuple ?z_list ?z_enumerate ?z_range ?z_divmod ?z_abs ?z_sorted ?z_repr ?z_all ?z_max ?z_min ?z_sum ?z_set ?g_FIGURES ?g_MOST_NUMBER ?g_MOST_STEP ?g_MOST_START ?g_MOST_MEMBERS ?g_MOST_HIGH ?q_lcm ?sNI ?r36 ?lc36 ?hp36 ?np36 ?r35 ?lc35 ?hp35 ?np35 ?neq2
    (case aC => k_is)
    (case aCN => k_is)
    (case aCI => k_is)
    (case a0 => k_is)
    (case l0 => k_is)
    (case c0 => k_is)
    (case k0 => k_is)
    (case a1 => k_is)
    (case l1 => k_is)
    (case c1 => k_is)
    (case k1 => k_is)
    (case a2 => k_is)
    (case l2 => k_is)
    (case c2 => k_is)
    (case k2 => k_is)
    (case a3 => k_is)
    (case l3 => k_is)
    (case c3 => k_is)
    (case k3 => k_is)
    (case a4 => k_is)
    (case l4 => k_is)
    (case c4 => k_is)
    (case k4 => k_is)
    (case a5 => k_is)
    (case l5 => k_is)
    (case c5 => k_is)
    (case k5 => k_is)
    (case a6 => k_is)
    (case l6 => k_is)
    (case c6 => k_is)
    (case k6 => k_is)
    (case a7 => k_is)
    (case i7 => k_is)
    (case l7 => k_is)
    (case c7 => k_is)
    (case k7 => k_is)
    (case a8 => k_is)
    (case i8 => k_is)
    (case l8 => k_is)
    (case c8 => k_is)
    (case k8 => k_is)
    (case a9 => k_is)
    (case i9 => k_is)
    (case l9 => k_is)
    (case c9 => k_is)
    (case k9 => k_is)
    (case a10 => k_is)
    (case i10 => k_is)
    (case l10 => k_is)
    (case c10 => k_is)
    (case k10 => k_is)
    (case a11 => k_is)
    (case i11 => k_is)
    (case l11 => k_is)
    (case c11 => k_is)
    (case k11 => k_is)
    (case a12 => k_is)
    (case l12 => k_is)
    (case c12 => k_is)
    (case k12 => k_is)
    (case a13 => k_is)
    (case l13 => k_is)
    (case c13 => k_is)
    (case k13 => k_is)
    (case a14 => k_is)
    (case l14 => k_is)
    (case c14 => k_is)
    (case k14 => k_is)
    (case a15 => k_is)
    (case l15 => k_is)
    (case c15 => k_is)
    (case k15 => k_is)
    (case a16 => k_is)
    (case l16 => k_is)
    (case c16 => k_is)
    (case k16 => k_is)
    (case a17 => k_is)
    (case l17 => k_is)
    (case c17 => k_is)
    (case k17 => k_is)
    (case a18 => k_is)
    (case l18 => k_is)
    (case c18 => k_is)
    (case k18 => k_is)
    (case a19 => k_is)
    (case l19 => k_is)
    (case c19 => k_is)
    (case k19 => k_is)
    (case a20 => k_is)
    (case l20 => k_is)
    (case c20 => k_is)
    (case k20 => k_is)
    (case a21 => k_is)
    (case l21 => k_is)
    (case c21 => k_is)
    (case k21 => k_is)
    (case a22 => k_is)
    (case l22 => k_is)
    (case c22 => k_is)
    (case k22 => k_is)
    (case a23 => k_is)
    (case l23 => k_is)
    (case c23 => k_is)
    (case k23 => k_is)
    (case a24 => k_is)
    (case l24 => k_is)
    (case c24 => k_is)
    (case k24 => k_is)
    (case a25 => k_is)
    (case l25 => k_is)
    (case c25 => k_is)
    (case k25 => k_is)
    (case a26 => k_is)
    (case l26 => k_is)
    (case c26 => k_is)
    (case k26 => k_is)
    (case a27 => k_is)
    (case l27 => k_is)
    (case c27 => k_is)
    (case k27 => k_is)
    (case a28 => k_is)
    (case l28 => k_is)
    (case c28 => k_is)
    (case k28 => k_is)
    (case a29 => k_is)
    (case l29 => k_is)
    (case c29 => k_is)
    (case k29 => k_is)
    (case a30 => k_is)
    (case l30 => k_is)
    (case c30 => k_is)
    (case k30 => k_is)
    (case a31 => k_is)
    (case l31 => k_is)
    (case c31 => k_is)
    (case k31 => k_is)
    (case a32 => k_is)
    (case l32 => k_is)
    (case c32 => k_is)
    (case k32 => k_is)
    (case a33 => k_is)
    (case l33 => k_is)
    (case c33 => k_is)
    (case k33 => k_is)
    (case a34 => k_is)
    (case l34 => k_is)
    (case c34 => k_is)
    (case k34 => k_is)
    (case a35 => k_is)
    (case l35 => k_is)
    (case c35 => k_is)
    (case k35 => k_is)
    (case a36 => k_is)
    (case l36 => k_is)
    (case c36 => k_is)
    (case k36 => k_is)
    (case a37 => k_is)
    (case l37 => k_is)
    (case c37 => k_is)
    (case k37 => k_is)
    (case pg => k_is)
    (case hd => k_is)
    (case po => k_is)
    (case sa => k_is)
    (case mk => k_is)
    (case kc => k_is)
    (case n_rounded => k_is)
    (case n_start => k_is)
    (case n_step => k_is)
    (case n_below => k_is)
    (case n_cycle => k_is)
    (case n_least => k_is)
    (case n_is_endless => k_is)
    (case n_text => k_is)
    (case isC => k_is)
    (case isG => k_is)
    (case isT => k_is)
    (case isM => k_is)
    (case neq => k_is)
    (case icl => k_is)
    (case tcl => k_is)
    (case s_str => k_is)
    (case f_str => k_is)
    (case s_int => k_is)
    (case f_int => k_is)
    (case s_tuple => k_is)
    (case f_tuple => k_is)
    (case xLE0 => k_is)
    (case saE0 => k_is)
    (case gaE0 => k_is)
    (case ggE0 => k_is)
    (case nfE0 => k_is)
    (case iIE0 => k_is)
    (case tIE0 => k_is)
    (case lIE0 => k_is)
    (case cIE0 => k_is)
    (case kIE0 => k_is)
    (case kCE0 => k_is)
    (case eCE0 => k_is)
    (case tCE0 => k_is)
    (case hCE0 => k_is)
    (case sCE0 => k_is)
    (case xLE1 => k_is)
    (case saE1 => k_is)
    (case gaE1 => k_is)
    (case ggE1 => k_is)
    (case nfE1 => k_is)
    (case iIE1 => k_is)
    (case tIE1 => k_is)
    (case lIE1 => k_is)
    (case cIE1 => k_is)
    (case kIE1 => k_is)
    (case kCE1 => k_is)
    (case eCE1 => k_is)
    (case tCE1 => k_is)
    (case hCE1 => k_is)
    (case sCE1 => k_is)
    (case z_isinstance => k_is)
    (case z_int => k_is)
    (case z_bool => k_is)
    (case z_str => k_is)
    (case z_len => k_is)
    (case z_tuple => k_is)
    (case z_list => k_is)
    (case z_enumerate => k_is)
    (case z_range => k_is)
    (case z_divmod => k_is)
    (case z_abs => k_is)
    (case z_sorted => k_is)
    (case z_repr => k_is)
    (case z_all => k_is)
    (case z_max => k_is)
    (case z_min => k_is)
    (case z_sum => k_is)
    (case z_set => k_is)
    (case g_FIGURES => k_is)
    (case g_MOST_NUMBER => k_is)
    (case g_MOST_STEP => k_is)
    (case g_MOST_START => k_is)
    (case g_MOST_MEMBERS => k_is)
    (case g_MOST_HIGH => k_is)
    (case q_lcm => k_is)
    (case sNI => k_is)
    (case r36 => rfl)
    (case lc36 => k_is)
    (case hp36 => rfl)
    (case np36 => rfl)
    (case r35 => rfl)
    (case lc35 => k_is)
    (case hp35 => rfl)
    (case np35 => rfl)
    (case neq2 => decide)
