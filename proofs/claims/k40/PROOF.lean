import PyProof.Rows.All
import Wide.All
import OpenK.AllK
import Wide.FinOn
import PyProof.ReprRoads
import KE.KDictPairs
import KE.GoesMore
import HandS.Base
import HandS.Call
import HandS.List
import HandS.Comp
import HandS.Ends
import HandS.Dict
import HandS.Iter
import HandS.Text
import HandS.Words
import HandS.WordsList
import HandS.WordsDict
import HandS.FStr
import HandS.IsInst
import HandS.TupAny
import HandS.DictComp
import HandS.Defaults
import HandS.MakeKwOnly
import HandS.OwnEq
import KE.DatumOrd
import KE.KMathG
import OpenK.KMeth
import HandS.WideBits
import HandS.Gcd
import HandS.Deep
import KE.KExcIs
import HandS.Lambda
import HandS.ExcInit
import HandS.ExcField
import HandS.ExcOwn
import HandS.TryMany
import HandS.ExcIs
import HandS.WordsExc
import PyProof.CallFns
import HandS.SortRule
import HandS.SortInts
import HandS.SortKw
import HandS.Keys
import HandS.More
import HandS.SetFor
import HandS.Strs
import HandS.EndTab
import HandS.Flow
import HandS.Style
import HandS.Wide
import PyProof.FactsAll.dict
import HandS.ListItems
import KE.KDictList
import HandS.ReplaceLit
import HandS.Sort
import PyProof.SeqIndex
import PyProof.StrBlock2
import KE.DataAny
import PyProof.StrLawsTight
import PyProof.StrLawsReplace
import PyProof.P3Eq
import PySem.Challenge.RW_arrowcells_k40_tests_on_stores
set_option Elab.async false
set_option linter.all false
set_option maxRecDepth 100000
set_option maxHeartbeats 16000000
/-! Own rules over the hand layer: tuples without a dict of their own, dict(tuple), enumerate(tuple), repr, keywords. -/
namespace Z
open PySem PySem.Spec PyProof.Rows L2

/-! ### tuples whose object is known to have no dict -/
def PObj (o : Obj) : Prop := o.cls = .type "tuple" ∧ o.dict = none ∧ ∃ (its : Array Value) (n : Nat), o.data = .seq its n
def PT (H : Hp) (a : Addr) (xs : List V) : Prop := ∃ o : Obj, H a = some (.frz o (.tup xs)) ∧ PObj o
def newT (H : Hp) (xs : List V) (Q : VK) : Prop := ∀ (p : Addr) (o : Obj), H p = none → PObj o → Q (.ref p) (upd H p (.frz o (.tup xs)))
theorem PT.sq {K : PySem.W.Frag} {H : Hp} {a : Addr} {xs : List V} (h : PT H a xs) : SqT K H a xs := by
  obtain ⟨o, e, _⟩ := h
  exact .inl (.inr ⟨o, e⟩)
theorem PT.new {H : Hp} {p : Addr} {o : Obj} {xs : List V} (ho : PObj o) : PT (upd H p (.frz o (.tup xs))) p xs := ⟨o, upd_same, ho⟩
theorem PT.same {H H' : Hp} {a : Addr} {xs : List V} (e : Same H H') (h : PT H a xs) : PT H' a xs := by
  obtain ⟨o, q, ho⟩ := h
  exact ⟨o, e _ _ q, ho⟩
section
variable {X : Cx} {pins : List (Addr × Obj)} {σ : L2.St} {H : Hp} {s : Shared}
theorem lay_tup {xs : List V} {its : List Value} {Q : VK} {t : Nat} (I : Inv X pins σ H s) (r : Vals xs its) (hz : xs.length ≤ sizeLine) (q : newT H xs Q) :
    EP X pins σ Q (.ref s.heap.objs.size) { s with heap := s.heap.push { cls := .type "tuple", data := .seq its.toArray }, toks := t } := by
  have hn := I.hok.fresh (Nat.le_refl _)
  have hp : PObj { cls := .type "tuple", data := .seq its.toArray } := ⟨rfl, rfl, _, _, rfl⟩
  refine ⟨.ref s.heap.objs.size, _, I.laid (t' := t) (o := .frz { cls := .type "tuple", data := .seq its.toArray } (.tup xs)) (fun b u e => Heap.get?_push_of_some _ e) (Nat.le_refl _) ?_, rfl, q _ _ hn hp⟩
  exact ⟨Heap.get?_push_size _ rfl, hz, its, r, _, Heap.get?_push_size _ rfl, rfl, _, rfl⟩
end
section
variable {X : Cx} {es : List Expr} {t : TA} {pos : Pos}
/-- (a, b): a tuple known to be plain -/
def tTupP (t : TA) : TE := fun σ H Q => t σ H fun xs H1 => xs.length ≤ sizeLine ∧ newT H1 xs Q
theorem pe_tupP {x1} (h : PA X es t) : PE X (.Tuple es x1 pos) (tTupP t) := by
  constructor
  intro pins s σ H Q I hq
  refine wpAny_Tuple_spliced (thn (h.run pos pins s σ H _ I hq) fun us s1 hv => ?_)
  obtain ⟨xs, H1, I1, r, z, q⟩ := hv
  exact ⟨by rw [← r.length]; exact z, lay_tup (t := s1.toks) I1 r z q⟩
/-- tuple(list) -/
def rTupP (K : PySem.W.Frag) : List V → Hp → VK → Prop := fun xs H Q => ∃ p ys, xs = [.ref p] ∧ SqL K H p ys ∧ newT H ys Q
theorem call_tupP : CallR X (.type "tuple") (rTupP X.K) := by
  intro pins s σ H xs us Q I r h
  obtain ⟨p, ys, rfl, hq, q⟩ := h
  obtain ⟨u, rfl, rx⟩ := vals1 r
  cases rx
  obtain ⟨its, r', pl, hz⟩ := I.list hq
  have hlen := r'.length
  refine call_tuple_list pl.isList (fun h' kp => ?_) (by rw [List.size_toArray]; omega)
  exact lay_tup (s := { s with heap := h' }) (t := s.toks) (I.kept (t' := s.toks) kp) r' hz q
/-- t + u -/
def rCatP (K : PySem.W.Frag) : R2 := fun x y H Q => ∃ a b xs ys, x = .ref a ∧ y = .ref b ∧ SqT K H a xs ∧ SqT K H b ys ∧ xs.length + ys.length ≤ sizeLine ∧
  (xs = [] → Q (.ref b) H) ∧ (xs ≠ [] → ys = [] → Q (.ref a) H) ∧ (xs ≠ [] → ys ≠ [] → newT H (xs ++ ys) Q)
theorem op_catP : OpR X (binaryOp .Add) (rCatP X.K) := by
  intro pins s σ H x y v u Q I rx ry h
  obtain ⟨a, b, xs, ys, ex, ey, ha, hb, hz, q0, q1, q2⟩ := h
  by_cases hx : xs = []
  · exact op_catA pins s σ H x y v u Q I rx ry ⟨a, b, xs, ys, ex, ey, ha, hb, hz, q0, q1, fun z => absurd hx z⟩
  · subst ex ey
    cases rx
    cases ry
    obtain ⟨its, r1, p1, _⟩ := I.tuple ha
    obtain ⟨its2, r2, p2, _⟩ := I.tuple hb
    have n1 : its ≠ [] := fun z => hx (r1.nil_iff.mp z)
    refine HT.cat_tup p1 p2 n1 (fun z => ?_) (fun z => ?_) ?_
    · exact ⟨.ref a, H, I, rfl, q1 hx (r2.nil_iff.mp z)⟩
    · have := lay_tup (t := s.toks) I (r1.append r2) (by rw [List.length_append]; exact hz) (q2 hx fun w => z (r2.nil_iff.mpr w))
      exact this
    · rw [← r1.length, ← r2.length]
      exact hz
/-- t[lo:hi] -/
def rSlP (K : PySem.W.Frag) : V → Option Int → Option Int → Hp → VK → Prop := fun x lo hi H Q => ∃ a xs, x = .ref a ∧ SqT K H a xs ∧
  (HT.sIx xs.length 0 lo = 0 ∧ HT.sIx xs.length xs.length hi = xs.length → Q (.ref a) H) ∧ (¬ (HT.sIx xs.length 0 lo = 0 ∧ HT.sIx xs.length xs.length hi = xs.length) → newT H (cutV xs lo hi) Q)
theorem sl_tupP : SlR X (rSlP X.K) := by
  intro pins s σ H x v vl vu lo hi sl Q I rx hs pl pu h
  obtain ⟨a, xs, ex, hx, q1, q2⟩ := h
  by_cases hw : HT.sIx xs.length 0 lo = 0 ∧ HT.sIx xs.length xs.length hi = xs.length
  · exact sl_tupA pins s σ H x v vl vu lo hi sl Q I rx hs pl pu ⟨a, xs, ex, hx, q1, fun z => absurd hw z⟩
  · subst ex
    cases rx
    obtain ⟨its, r, ht, hz⟩ := I.tuple hx
    have hlen : its.toArray.size = xs.length := (List.size_toArray ..).trans r.length.symm
    refine ⟨"tuple", _, PyProof.Rows.slot_tuple_getitem.lookup, ht.typeIs, HT.getItem_tuple_cut ht hs pl pu ?_ ?_ ?_⟩
    · rw [hlen]; exact hw
    · rw [hlen]
      have rr := (r.drop (HT.sIx xs.length 0 lo)).take (HT.sIx xs.length xs.length hi - HT.sIx xs.length 0 lo)
      exact lay_tup (xs := cutV xs lo hi) (t := s.toks) I rr (Nat.le_trans (cutV_length xs lo hi) hz) (q2 hw)
    · rw [hlen]; exact hz
end
end Z
namespace Z
open PySem PySem.Spec PyProof.Rows L2
/-! ### dict(t), t a tuple of pairs -/
section
variable {X : Cx} {pins : List (Addr × Obj)} {σ : L2.St} {H : Hp} {s : Shared}
theorem key_is {k : Key} {u : Value} (r : RelV (kV k) u) : keyIs k u = true := by
  cases k with
  | inl i => obtain ⟨t, rfl⟩ := (show ∃ t, u = Value.int i t from r); exact keyIs_int i t
  | inr x => obtain ⟨t, rfl⟩ := (show ∃ t, u = Value.str x t from r); exact keyIs_str x t
theorem pairs2 (I : Inv X pins σ H s) : ∀ {ps : List Addr} {kvs : List (Key × V)}, Paired (fun p kv => SqT X.K H p [kV kv.1, kv.2]) ps kvs →
    ∃ (ws : List (Value × Value)) (vs : List (Key × Value)), KV kvs vs ∧ ws.length = ps.length ∧ vs.length = ps.length ∧
      ∀ (j : Nat) (a b : Value), ws[j]? = some (a, b) → (∃ T, ps[j]? = some T ∧ s.heap.IsTuple T #[a, b]) ∧ ∃ k, vs[j]? = some (k, b) ∧ keyIs k a = true
  | _, _, .nil => ⟨[], [], .nil, rfl, rfl, fun j a b e => by simp at e⟩
  | _, _, .cons (a := p) (b := kv) h t => by
    obtain ⟨ws, vs, r, l1, l2, hp⟩ := pairs2 I t
    obtain ⟨its, rv, ht, _⟩ := I.tuple h
    obtain ⟨u, y, ei, ru, ry⟩ := vals2 rv
    subst ei
    refine ⟨(u, y) :: ws, (kv.1, y) :: vs, .cons ⟨rfl, ry⟩ r, by simp [l1], by simp [l2], fun j a b e => ?_⟩
    cases j with
    | zero =>
      have e' : (u, y) = (a, b) := Option.some.inj e
      cases e'
      exact ⟨⟨p, rfl, ht⟩, kv.1, rfl, key_is ru⟩
    | succ j => simpa using hp j a b (by simpa using e)
end
section
variable {X : Cx}
def rDictT (K : PySem.W.Frag) : List V → Hp → VK → Prop := fun xs H Q => ∃ (a : Addr) (ps : List Addr) (kvs : List (Key × V)), xs = [.ref a] ∧ PT H a (ps.map V.ref) ∧ Paired (fun p kv => SqT K H p [kV kv.1, kv.2]) ps kvs ∧
  ∀ p, H p = none → Q (.ref p) (upd H p (.dK (mergeK [] kvs)))
theorem call_dictT (hcalm : X.calm = true) : CallR X (.type "dict") (rDictT X.K) := by
  intro pins s σ H xs us Q I r q
  obtain ⟨a, ps, kvs, ex, hq, hp, q⟩ := q
  subst ex
  obtain ⟨u, eu, rx⟩ := vals1 r
  subst eu
  cases rx
  obtain ⟨its, rv, _, hz⟩ := I.tuple (hq.sq (K := X.K))
  have ei := refs_at rv
  subst ei
  rw [List.length_map] at hz
  obtain ⟨ws, vs, rel, l1, l2, hpr⟩ := pairs2 I hp
  obtain ⟨o, ho, hc, hd, its2, n, hdat⟩ := hq
  obtain ⟨hget, _, its3, rv3, o3, ho3, hc3, n3, hd3⟩ := (show ObjOk X.prog X.w H s.heap a (.frz o (.tup (ps.map V.ref))) from I.hok a _ ho)
  rw [hget] at ho3
  cases ho3
  have e3 := refs_at rv3
  subst e3
  have pl : PlainSeq "tuple" s.heap a (ps.map Value.ref).toArray := ⟨o, n3, hget, hc, hd, hd3⟩
  have pi : PairItems s.heap (ps.map Value.ref).toArray (fun j => ps.getD j 0) ws := by
    refine ⟨by simp [l1], fun j k v e => ?_⟩
    obtain ⟨⟨T, e1, e2⟩, _⟩ := hpr j k v e
    have e4 : ps.getD j 0 = T := by rw [List.getD_eq_getElem?_getD, e1]; rfl
    refine ⟨?_, .inl ?_⟩
    · simp [e1]
    · show s.heap.IsTuple (ps.getD j 0) #[k, v]
      rw [e4]; exact e2
  have hv : PairsHave (mixKind X.prog X.w) ws.length (PairRel ws) vs := by
    refine ⟨by rw [l1, l2], fun i key v e => ?_⟩
    obtain ⟨_, k, e1, e2⟩ := hpr i key v e
    exact ⟨k, e1, e2⟩
  refine PySem.call_dict_pairs (PairArg.tuple a (ps.map Value.ref).toArray (fun j => ps.getD j 0) ws) (I.ok.hd hcalm) ⟨pl, pi⟩ hv (by rw [l1]; exact hz) fun h' tk hd' k => ?_
  have hm : (s.heap.objs.size == sysModules) = false := beq_eq_false_iff_ne.mpr (Nat.ne_of_gt I.big)
  have hlen : (mergeK [] kvs).length ≤ sizeLine := by
    refine Nat.le_trans (length_mergeK kvs []) ?_
    rw [List.length_nil, Nat.zero_add, rel.length, l2]
    exact hz
  refine ⟨.ref s.heap.objs.size, upd H s.heap.objs.size (.dK (mergeK [] kvs)), ?_, rfl, q _ (I.hok.fresh (Nat.le_refl _))⟩
  refine I.laid (t' := tk) (fun b u e => k b u (by simp) e) (Nat.le_refl _) ?_
  exact ⟨hlen, hm, merged [] vs, KV.merge rel .nil, hd'⟩
end

/-! ### enumerate(t), t a tuple -/
open PySem.Builtin in
theorem meets_enum1 {v : Value} {o : Obj} {H : Heap → Prop} (B : Begins v o H) :
    Meets (Builtin.«enumerate.__new__» ⟨[.type "enumerate", v], []⟩) (fun _ R s => H s.heap ∧
      R (.ok (.ret (.ref (s.heap.push o).objs.size)))
        { s with heap := (s.heap.push o).push { cls := .type "enumerate", data := .fields #[.none, .bool false, .ref s.heap.objs.size, rawInt 0, .none, .none] } }) := by
  refine .of_wp fun prog w A R s h => ?_
  obtain ⟨hp, g, d, tk, os⟩ := s
  obtain ⟨h1, h⟩ := h
  have subE := sub_enumerate
  have q1 : ∀ {A' : Around} {E Q : Value → Shared → Prop}, Q (.ref hp.objs.size) ⟨hp.push o, g, d, tk, os⟩ → wpAny (model prog w) A' (pyIter v) Q E ⟨hp, g, d, tk, os⟩ := fun q => B.iter prog w _ _ ⟨hp, g, d, tk, os⟩ _ h1 q
  wp_walk using q1
  refine wpAny_stack_any fun st => wpAny_pure ?_
  split
  · rename_i c _ _ _ _ _
    cases (c == Value.type "enumerate") <;> (wp_walk using q1; exact ⟨_, rfl, h⟩)
  · wp_walk using q1
    exact ⟨_, rfl, h⟩
theorem call_enum_tuple {prog : Program} {w : World} {A : Around} {E : Value → Shared → Prop} {s : Shared} {t : Addr} {items : Array Value} {Q : Value → Shared → Prop} (hL : s.heap.IsTuple t items)
    (h : ∀ h', IsEnum h' (s.heap.objs.size + 1) s.heap.objs.size 0 .none → h'.IsTupleIter s.heap.objs.size t 0 → h'.objs.size = s.heap.objs.size + 2 →
      (∀ b o, s.heap.get? b = some o → h'.get? b = some o) → Q (.ref (s.heap.objs.size + 1)) { s with heap := h' }) :
    wpAny (model prog w) A (call (.type "enumerate") [.ref t]) Q E s := by
  refine callType_new F.called_enumerate (by decide) (F.typeCall_enumerate_1 _) (F.newCall_enumerate_1 _) (fun obj => F.args_object_init_2 obj _) F.entry_enumerate_new
    (meets_enum1 (begins_tuple t items)) ⟨hL, ?_⟩
  have hz : (s.heap.push { cls := .type "tuple_iterator", data := .fields #[.ref t, .int 0 0] }).objs.size = s.heap.objs.size + 1 := Heap.size_push ..
  show _ ∧ _
  rw [hz]
  have he : IsEnum ((s.heap.push { cls := .type "tuple_iterator", data := .fields #[.ref t, .int 0 0] }).push
      { cls := .type "enumerate", data := .fields #[.none, .bool false, .ref s.heap.objs.size, rawInt 0, .none, .none] }) (s.heap.objs.size + 1) s.heap.objs.size 0 .none := by
    have q := Heap.get?_push_size (s.heap.push { cls := .type "tuple_iterator", data := .fields #[.ref t, .int 0 0] })
      (o := { cls := .type "enumerate", data := .fields #[.none, .bool false, .ref s.heap.objs.size, rawInt 0, .none, .none] }) rfl
    rw [hz] at q
    exact q
  exact ⟨⟨_, he, rfl⟩, h _ he ⟨_, Heap.get?_push_of_some _ (Heap.get?_push_size _ rfl), rfl, rfl⟩ (by rw [Heap.size_push, hz]) fun b o x => Heap.get?_push_of_some _ (Heap.get?_push_of_some _ x)⟩
section
/-- the tuple at a, each item in a new pair with its place -/
def IteT (K : PySem.W.Frag) (a : Addr) : It :=
  ⟨fun i H => ∃ (xs : List V) (x : V), SqT K H a xs ∧ xs[i]? = some x,
   fun i H v H' => ∃ T x, v = .ref T ∧ H T = none ∧ H' = upd H T (.tup [.int (i : Nat), x]) ∧ ∀ xs, SqT K H a xs → xs[i]? = some x,
   fun i H => ∃ xs : List V, SqT K H a xs ∧ xs.length = i⟩
theorem turn_enumT {P : Program} {w : World} {K : PySem.W.Frag} {elts : List Expr} {kk : Nat} {tpos : Pos} (a e it : Addr) :
    Turn P w K (.Tuple elts kk tpos) (IteT K a) [e, it] e (fun i h => (∃ old, IsEnum h e it ((i : Nat) : Int) old) ∧ h.IsTupleIter it a i ∧ e ≠ it ∧ a ≠ it ∧ a ≠ e) := by
  refine ⟨by simp, fun i h st b hb => ?_, fun i h h' st k => ?_, ?_, ?_, ?_⟩
  · obtain ⟨⟨old, he⟩, ⟨o, ho, hc, hd⟩, _⟩ := st
    rcases (by simpa using hb : b = e ∨ b = it) with z | z
    · subst z; exact ⟨_, he, fun v q => nomatch q⟩
    · subst z; exact ⟨o, ho, fun v q => by rw [hd] at q; cases q⟩
  · obtain ⟨⟨old, he⟩, hi, hne⟩ := st
    exact ⟨⟨old, k e (by simp) _ he⟩, hi.at fun o q => k it (by simp) o q, hne⟩
  · intro X hP hw hK hc i pins s σ H E I hf st hg
    subst hP hw hK
    obtain ⟨⟨old, he⟩, hit, hne, hai, hae⟩ := st
    obtain ⟨xs, x, hq, hx⟩ := hg
    obtain ⟨its, rv, p, hz⟩ := I.tuple hq
    obtain ⟨u, hu, ru⟩ := rv.get hx
    have hel : e < s.heap.objs.size := Heap.lt_size he
    have hil : it < s.heap.objs.size := by obtain ⟨_, q, _⟩ := hit; exact Heap.lt_size q
    have D := Draws.tuple (prog := X.prog) (w := X.w) (A := X.A.in1) (I.ok.hd hc) it a hai its.toArray
    have hlt : i < its.toArray.size := by
      have := (List.getElem?_eq_some_iff.mp hu).1
      simpa using this
    refine wpAny_pyNext_enum_itemD D he ⟨hit, p⟩ hlt hne (by simp [hne, Ne.symm hae]) fun x' h' tk hP ho hst hT hsz hk => ?_
    have ex : x' = u := by
      have q : its.toArray[i]? = some x' := hP
      have q2 : its.toArray[i]? = some u := by simpa using hu
      rw [q2] at q
      exact (Option.some.inj q).symm
    subst ex
    refine ⟨_, rfl, wpAny_letOwnedTupleGo_enum (s := { s with heap := h', toks := tk + 1 }) ho fun h'' he' sb => ?_⟩
    have hT2 : h''.get? s.heap.objs.size = some { cls := .type "tuple", data := .seq #[.int i tk, x'] } := (sb.2 _ (Nat.ne_of_gt hel)).trans hT
    have new : ObjOk X.prog X.w (upd H s.heap.objs.size (.tup [.int (i : Nat), x])) h'' s.heap.objs.size (.tup [.int (i : Nat), x]) := by
      refine ⟨by show 2 ≤ sizeLine; decide, [.int i tk, x'], .cons ⟨_, rfl⟩ (.cons ru .nil), ?_⟩
      exact ⟨_, hT2, rfl, _, rfl⟩
    have I1 : Inv X pins σ (upd H s.heap.objs.size (.tup [.int (i : Nat), x])) { s with heap := h'', toks := tk + 1 } := by
      refine I.turnedNew (ch := [e, it]) (fun b ob hb q => ?_) hf (Nat.le_refl _) new
      have nb : b ≠ e := fun z => hb (by simp [z])
      exact (sb.2 b nb).trans (hk b ob nb (fun z => hb (by simp [z])) q)
    refine ⟨.ref s.heap.objs.size, _, I1, rfl, ⟨_, x, rfl, I.hok.fresh (Nat.le_refl _), rfl, fun ys hy => by rw [I.tuple_inj hy hq]; exact hx⟩, ⟨⟨x', ?_⟩, hst.1.at fun o q => (sb.2 it (Ne.symm hne)).trans q, hne, hai, hae⟩, fun b hb => ?_⟩
    · have e1 : ((i + 1 : Nat) : Int) = (i : Int) + 1 := by omega
      rw [e1]
      exact he'
    · have hb' : b < s.heap.objs.size := by
        rcases (by simpa using hb : b = e ∨ b = it) with z | z
        · exact z ▸ hel
        · exact z ▸ hil
      rw [upd_ne (Nat.ne_of_lt hb')]
      exact (hf b hb).1
  · intro X hP hw hK hc i pins s σ H E I hf st hg
    subst hP hw hK
    obtain ⟨⟨old, he⟩, hit, hne, hai, hae⟩ := st
    obtain ⟨xs, hq, hx⟩ := hg
    obtain ⟨its, rv, p, hz⟩ := I.tuple hq
    obtain ⟨f0, f1, f2, f3, f4, f5⟩ := hf it (by simp)
    have hl := rv.length
    have D := Draws.tuple (prog := X.prog) (w := X.w) (A := X.A.in1) (I.ok.hd hc) it a hai its.toArray
    have ei : its.toArray.size = i := by rw [List.size_toArray, ← hl]; exact hx
    exact wpAny_pyNext_enum_endD D he ⟨by rw [ei]; exact hit, p⟩ fun h' eb => ⟨rfl, I.turned (t' := s.toks) (fun b o hb q => eb b o hb q) f0 f1 f3 f4 f5⟩
  · intro A i s Q E st h
    obtain ⟨⟨_, he⟩, _⟩ := st
    exact wpAny_pyIter_enum he h
def iEnumT (K : PySem.W.Frag) (ta : TA) : TI := fun σ H R => ta σ H fun vs H1 => ∃ a xs, vs = [.ref a] ∧ SqT K H1 a xs ∧ R (IteT K a) H1
theorem pi_enumT {X : Cx} {e : Expr} {ta : TA} {p pos tpos : Pos} {elts : List Expr} {kk : Nat} (hg : Gl X "enumerate") (hm : X.mg "enumerate" = none) (ha : PA X [e] ta)
    (hs : starEach [e] X.env = [(false, eval e X.env)] := by rfl) : PI X (.Tuple elts kk tpos) (.Call (.Name "enumerate" p) [e] [] pos) (iEnumT X.K ta) := by
  constructor
  intro pins s σ H R I h
  refine Call_ (ld_blt I hg hm boot_enumerate (PyProof.Rows.callWith_type1 (thn (ha.run pos pins s σ H _ I h) fun us s1 hv => ?_) hs rfl))
  obtain ⟨vs, H1, I1, r1, a, xs, ex, hq, q⟩ := hv
  subst ex
  obtain ⟨u, eu, rx⟩ := vals1 r1
  subst eu
  cases rx
  obtain ⟨its, rv, p', hz⟩ := I1.tuple hq
  have hal : a < s1.heap.objs.size := p'.lt
  refine call_enum_tuple (items := its.toArray) p' fun h' he hit hsz hk => wpAny_pyIter_enum he ?_
  have I2 : Inv X pins σ H1 { s1 with heap := h' } := I1.kept (t' := s1.toks) hk
  have na : a ≠ s1.heap.objs.size := Nat.ne_of_lt hal
  have na2 : a ≠ s1.heap.objs.size + 1 := Nat.ne_of_lt (Nat.lt_succ_of_lt hal)
  refine ⟨s1.heap.objs.size + 1, [s1.heap.objs.size + 1, s1.heap.objs.size], _, _, H1, rfl, I2, turn_enumT a (s1.heap.objs.size + 1) s1.heap.objs.size, ⟨⟨.none, he⟩, hit, Nat.succ_ne_self _, na, na2⟩, fun b hb => ?_, q⟩
  have hle : s1.heap.objs.size ≤ b := by
    rcases (by simpa using hb : b = s1.heap.objs.size + 1 ∨ b = s1.heap.objs.size) with z | z
    · exact z ▸ Nat.le_succ _
    · exact z ▸ Nat.le_refl _
  exact I1.fpOk hle (I1.hok.fresh hle)
end
end Z
namespace Z
open PySem PySem.Spec PyProof.Rows L2
/-! ### defs that are called while no repr runs -/
structure FnG (P : Program) (w : World) (K : PySem.W.Frag) (mg : Str → Option Value) (base : Heap) (k : Nat) (f : Addr) (fd : FuncData) (ps : List Str) (sp : Sp) : Prop where
  len : ∀ vs H Q E, sp vs H Q E → vs.length = ps.length
  run : ∀ (A : Around) (outer : List Env) (s : Shared) (H : Hp) (args : Args) (us : List Value) (vs : List V) (Q : VK) (E : XK), Room k A → A.guards = some [] →
    Env0 P w K mg base A outer s H → BindsTo s fd args (ps.zip us) → Vals vs us → sp vs H Q E → codeAny (model P w) A (.call (.ref f) args) (CR CX0 outer P w H s Q E) s
theorem FnG.of {P : Program} {w : World} {K : PySem.W.Frag} {mg : Str → Option Value} {base : Heap} {k : Nat} {f : Addr} {fd : FuncData} {ps : List Str} {sp : Sp}
    (F : FnOk P w K mg base CX0 k f fd ps sp) : FnG P w K mg base k f fd ps sp :=
  ⟨F.len, fun A outer s H args us vs Q E hr _ => F.run A outer s H args us vs Q E hr⟩
section
variable {P : Program} {w : World} {K : PySem.W.Frag} {mg : Str → Option Value} {base : Heap}
theorem okG {x qual : Str} {st : Stmt} {f : Addr} {fd : FuncData} {N ps : List Str} {k : Nat} {sp : Sp} (F : Fun K x qual st f fd) (S : FnScope N ps (defScope st)) (len : ∀ vs H Q E, sp vs H Q E → vs.length = ps.length)
    (hbody : ∀ (cdv : Value) (A : Around) (outer : List Env) (s : Shared) (H : Hp) (vs : List V) (Q : VK) (E : XK), Room k (A.deeper (envOfC qual (defScope st) s.heap.objs.size f cdv)) →
      (A.deeper (envOfC qual (defScope st) s.heap.objs.size f cdv)).guards = some [] → sp vs H Q E →
      ∃ t, PSs (cxOf CX0 P w K mg base N qual (defScope st) f cdv A outer s H E).nox (defBody st) t ∧ t { nx := fun _ H' => Q .non H', rt := Q } (start N vs) H) : FnG P w K mg base (k + 1) f fd ps sp := by
  obtain ⟨oc, od, kV, doc, pm, an, cdv, ct, osl, rfl, lk, hcd⟩ := F.ex
  refine ⟨len, fun A outer s H args us vs Q E hr hgd e0 hb r hsp => ?_⟩
  have keepB : ∀ b o, base.get? b = some o → s.heap.get? b = some o := fun b o e => (e0.bs b o e).1
  have KX : K.In s.heap := e0.mod.kin.keeps keepB
  have lim : s.heap.NoLimit := e0.mod.nolimit.keeps keepB
  refine codeAny_call_function hr.depth (KX _ _ lk) rfl S.co S.gen rfl (PySem.W.codeRec_of KX hcd) (hb _ _ _ _ ?_)
  refine wpAny_newFunctionEnv_cells S.kind (fun y hy => ?_) fun env he s1 x => ?_
  · rcases S.par y.1 (List.of_mem_zip (a := y.1) (b := y.2) hy).1 with q | q
    · exact .inl q
    · exact .inr ⟨q, PySem.W.cellsFrom_some _ _ _ (.inl q)⟩
  subst he
  refine ⟨lim.keeps x.toInCall.keep, codeAny_func ?_⟩
  obtain ⟨t, ht, hq⟩ := hbody cdv A outer s H vs Q E (hr.deeper _) (by simpa [Around.deeper] using hgd) hsp
  have I0 := inv_start (CX := CX0) (E := E) (cd := cdv) (qual := qual) (f := f) (N := N) S hr.hd e0 (len _ _ _ _ hsp) r x
  refine wpAny_mono (ht.nox.run [] s1 (start N vs) H _ I0 hq) (fun fl s' hs => ?_) fun e s' hs => hs
  have fin : ∀ {σ' : L2.St} {H' : Hp} {v : V} {u : Value}, Inv (cxOf CX0 P w K mg base N qual (defScope st) f cdv A outer s H E) [] σ' H' s' → RelV v u → Q v H' → CE outer P w H s Q u s' :=
    fun J rv q => ⟨_, _, J.os, J.bare, J.base, J.hok, rv, q⟩
  match fl, hs with
  | .ret u, ⟨v, σ', H', J, rv, q⟩ => exact fin J rv q
  | .next, ⟨σ', H', J, q⟩ => exact fin (v := V.non) (u := Value.none) J rfl q
  | .brk, ⟨_, _, _, q⟩ => exact q.elim
  | .cont, ⟨_, _, _, q⟩ => exact q.elim
end
section
variable {X : Cx} {k : Nat} {f : Addr} {fd : FuncData} {ps : List Str} {sp : Sp} {E : XK} {x : Str} {p pos : Pos} {e : Expr} {es : List Expr} {t : TA}
theorem run_fnG {pins : List (Addr × Obj)} {σ : L2.St} {H : Hp} {s : Shared} {Q : VK} {us : List Value} {vs : List V} (F : FnG X.prog X.w X.K X.mg X.base k f fd ps sp) (hr : Room k X.A) (hgd : X.A.guards = some []) (hb : Binds X.K fd ps [])
    (I : Inv X pins σ H s) (r : Vals vs us) (h : sp vs H Q E) : wpAny (model X.prog X.w) X.A (call (.ref f) us) (EP X pins σ Q) X.xe s := by
  have hl : (us ++ []).length = ps.length := by rw [List.append_nil, ← r.length]; exact F.len _ _ _ _ h
  have hb' := hb s us I.kIn hl
  rw [List.append_nil] at hb'
  refine wpAny_call (codeAny_mono (F.run X.A X.stack s H ⟨us, []⟩ us vs Q E hr hgd I.env0 hb' r h) fun r s' hq => ?_)
  match r, hq with
  | .error e, hq => exact False.elim hq
  | .ok (.ret u), hq => exact I.after hq
  | .ok .next, hq => exact False.elim hq
  | .ok .brk, hq => exact False.elim hq
  | .ok .cont, hq => exact False.elim hq
/-- f(e, ..) -/
def tCallG (sp : Sp) (E : XK) (t : TA) : TE := fun σ H Q => t σ H fun vs H1 => sp vs H1 Q E
theorem pe_callG (F : FnG X.prog X.w X.K X.mg X.base k f fd ps sp) (hr : Room k X.A) (hgd : X.A.guards = some []) (hg : Gl X x) (hm : X.mg x = some (.ref f)) (hk : PySem.W.keepIn X.K (.ref f) = true) (hb : Binds X.K fd ps [])
    (ha : PA X (e :: es) t) (hdb : (x == ("__debug__" : Str)) = false := by decide) (he : starEach (e :: es) X.env = (false, eval e X.env) :: starEach es X.env := by rfl) (hpl : (backTo pos (starEach es X.env)).any (·.1) = false := by rfl) :
    PE X (.Call (.Name x p) (e :: es) [] pos) (tCallG sp E0 t) := by
  constructor
  intro pins s σ H Q I h
  refine wpAny_Call_Name_kw (ld_glob I hg hm ?_ hdb)
  refine PySem.W.callWith_K (h₀ := X.base) I.ok.mod.kin hk (thn (ha.run pos pins s σ H _ I h) fun us s1 hv => ?_) he hpl
  obtain ⟨vs, H1, I1, r, q⟩ := hv
  exact ⟨I1.kIn, run_fnG F hr hgd hb I1 r q⟩
/-! ### repr of a list or a tuple -/
def rRepr (K : PySem.W.Frag) : List V → Hp → VK → Prop := fun xs H Q => ∃ (a : Addr) (d : PyData), xs = [.ref a] ∧ Dp K H (.ref a) d ∧ d.showable = true ∧ d.hasDict = false ∧ d.depth ≤ 60 ∧ d.shown.length ≤ sizeLine ∧ Q (.str d.shown) H
theorem call_repr (hgd : X.A.guards = some []) (hu : X.A.units + 64 < cLine) : CallR X (.builtin "repr") (rRepr X.K) := by
  intro pins s σ H xs us Q I r h
  obtain ⟨a, d, ex, hd, sh, nd, dep, hz, q⟩ := h
  subst ex
  obtain ⟨u, eu, rx⟩ := vals1 r
  subst eu
  obtain ⟨as, rd⟩ := Dp.reads I d _ _ hd rx
  cases rx
  refine repr_of_reads' rd sh (fun z => by rw [nd] at z; cases z) hgd (by omega) (fun _ _ e => e) (fun h' t tk hk => ?_) hz
  exact ⟨.str d.shown, H, I.kept (t' := tk) hk, ⟨t, rfl⟩, q⟩
end
end Z
namespace Z
open PySem PySem.Spec PyProof.Rows L2
open PySem.W (Frag findIn isFn mroIn notFirst InstAt Looks looks_findIn looks_mroIn looks_subIn ifBound_K)
section
variable {prog : Program} {w : World} {A : Around} {E : Value → Shared → Prop} {s : Shared} {K : Frag} {x C L f : Addr} {h₀ : Heap} {m : Str → Option Value} {ox : Obj} {od : Option Obj} {b tb : Value}
theorem ne_builtin {Q : Fin → Shared → Prop} (hu : A.units < cLine) (X : K.In s.heap) (I : InstAt s.heap x ox C od) (hs : findIn K (.ref C) "__eq__" = some (some (.ref f))) (hf : isFn K (.ref f) = true)
    (h : wpAny (model prog w) A (call (.ref f) [.ref x, b]) (fun v s' => ∃ c, v = .bool c ∧ Q (.done (.ret (.bool (!c)))) s') E s) :
    wpAny (model prog w) A (Builtin.«object.__ne__» ⟨[.ref x, b], []⟩) Q E s := by
  unfold Builtin.«object.__ne__»
  refine wpAny_bind (wpAny_pure ?_)
  refine wpAny_bind (wpAny_cRoomFor hu ?_)
  refine wpAny_bind (m := callSpecialIfBound? (.ref x) (Str.ofString "__eq__") [b]) (ifBound_K X I hs hf (wpAny_mono h (fun r s' hr => ?_) fun _ _ y => y))
  obtain ⟨c, rfl, hq⟩ := hr
  exact wpAny_bind (wpAny_truthy_bool (wpAny_pure hq))
theorem isObj {M : Model} {h : Heap} (X : K.In h) (I : InstAt h x ox C od) (hm : mroIn K C (.type "object") = some true) : Looks M h (isInstance (.ref x) (.type "object")) true := by
  exact (I.type).andThen (looks_mroIn X hm)
theorem try_ne {Q : Option Value → Shared → Prop} (hu : A.units + 1 < cLine) (X : K.In s.heap) (I : InstAt s.heap x ox C od) (hs : findIn K (.ref C) "__eq__" = some (some (.ref f))) (hf : isFn K (.ref f) = true)
    (hne : findIn K (.ref C) "__ne__" = some (some (.builtin "object.__ne__"))) (hm : mroIn K C (.type "object") = some true)
    (h : wpAny (model prog w) A.in1 (call (.ref f) [.ref x, b]) (fun v s' => ∃ c, v = .bool c ∧ Q (some (.bool (!c))) s') E s) :
    wpAny (model prog w) A (tryCompare (.ref x) "__ne__" b) Q E s := by
  have FN : Slot "object" "__ne__" "object.__ne__" := PySem.F.cmp_object.ne
  have goal : wpAny (model prog w) A (call (.builtin "object.__ne__") [.ref x, b]) (fun v s' => ∃ c, v = .bool c ∧ Q (some v) s') E s := by
    refine wpAny_call (codeAny_call_builtin FN.plain PySem.F.cmpEntry_ne (PySem.W.check_slot PySem.F.cmpKind_ne PySem.F.cmpSplit_ne (isObj X I hm) (PySem.F.cmpArgs_ne _ _) ?_))
    refine ne_builtin (A := A.in1) hu X I hs hf (wpAny_mono h (fun v s' hv => ?_) fun _ _ e => e)
    obtain ⟨c, rfl, hq⟩ := hv
    exact ⟨c, rfl, !c, rfl, hq⟩
  have fin : wpAny (model prog w) A (call (.builtin "object.__ne__") ([.ref x] ++ [b]) >>= fun v => pure (some v)) (fun r s' => ∃ c, r = some (.bool c) ∧ Q r s') E s := by
    refine wpAny_bind (wpAny_mono goal (fun v s' hv => ?_) fun _ _ e => e)
    obtain ⟨c, rfl, hq⟩ := hv
    exact wpAny_pure ⟨c, rfl, hq⟩
  have key : wpAny (model prog w) A (callSpecialIfBound? (.ref x) "__ne__" [b]) (fun r s' => ∃ c, r = some (.bool c) ∧ Q r s') E s := by
    simp only [callSpecialIfBound?, bindSpecialIfBound?]
    refine wpAny_holding (wpAny_bind (wpAny_bind (wpAny_bind (I.type.here ((looks_findIn X hne).here ?_)))))
    simp only [FN.bind]
    refine wpAny_bind (wpAny_askSetting (wpAny_ite ?_))
    split
    · exact wpAny_bind (wpAny_pure (wpAny_pure fin))
    · exact wpAny_tryCatch (wpAny_bind (wpAny_pure (wpAny_pure fin)))
  unfold tryCompare
  refine wpAny_bind (wpAny_mono key (fun r s' hr => ?_) fun _ _ e => e)
  obtain ⟨c, rfl, hq⟩ := hr
  exact wpAny_pure hq
theorem rich_ne {Q : Value → Shared → Prop} (hu : A.units + 1 < cLine) (X : K.In s.heap) (I : InstAt s.heap x ox C od) (hb : Looks (model prog w) s.heap (typeOf b) tb) (hn : notFirst K C tb = true)
    (hs : findIn K (.ref C) "__eq__" = some (some (.ref f))) (hf : isFn K (.ref f) = true) (hne : findIn K (.ref C) "__ne__" = some (some (.builtin "object.__ne__"))) (hm : mroIn K C (.type "object") = some true)
    (h : wpAny (model prog w) A.in1 (call (.ref f) [.ref x, b]) (fun v s' => ∃ c, v = .bool c ∧ Q (.bool (!c)) s') E s) : wpAny (model prog w) A (richCompare .NotEq (.ref x) b) Q E s := by
  have one : wpAny (model prog w) A (tryCompare (.ref x) "__ne__" b) (fun r s' => ∃ v, r = some v ∧ Q v s') E s := by
    refine try_ne hu X I hs hf hne hm (wpAny_mono h (fun v s' hv => ?_) fun _ _ e => e)
    obtain ⟨c, rfl, hq⟩ := hv
    exact ⟨c, rfl, _, rfl, hq⟩
  unfold richCompare
  simp only [oneThing_ref, cmpInfo_NotEq]
  refine wpAny_holding (wpAny_bind (wpAny_cRoomFor (by omega) ?_))
  refine wpAny_bind (I.type.here (wpAny_bind (hb.here ?_)))
  by_cases q : (Value.ref C != tb) = true
  · rw [if_pos q]
    have e : PySem.W.subIn K tb (.ref C) = some false := by
      rcases Bool.or_eq_true_iff.mp hn with e | e
      · rw [eq_of_beq e] at q; simp at q
      · exact eq_of_beq e
    refine wpAny_bind ((looks_subIn X e).here ?_)
    simp only [Bool.false_eq_true, if_false]
    refine wpAny_bind (wpAny_mono one (fun r s' z => ?_) fun _ _ e => e)
    obtain ⟨v, rfl, hq⟩ := z
    exact wpAny_pure hq
  · rw [if_neg q]
    refine wpAny_bind (wpAny_pure ?_)
    simp only [Bool.false_eq_true, if_false]
    refine wpAny_bind (wpAny_mono one (fun r s' z => ?_) fun _ _ e => e)
    obtain ⟨v, rfl, hq⟩ := z
    exact wpAny_pure hq
end
/-! ### == and != of an own class with an __eq__ of its own -/
/-- the class's facts -/
structure OwnEq (K : Frag) (C f : Addr) (fd : FuncData) : Prop where
  eq : findIn K (.ref C) "__eq__" = some (some (.ref f))
  fn : isFn K (.ref f) = true
  ne : findIn K (.ref C) "__ne__" = some (some (.builtin "object.__ne__"))
  top : mroIn K C (.type "object") = some true
  bd : Binds K fd ["self", "other"] []
/-- the right side's type, as the comparison asks it -/
inductive RightOf (K : Frag) (C : Addr) (H : Hp) : V → Prop where
  | int (i : Int) (h : notFirst K C (.type "int") = true) : RightOf K C H (.int i)
  | str (x : Str) (h : notFirst K C (.type "str") = true) : RightOf K C H (.str x)
  | tup {a : Addr} {xs : List V} (e : SqT K H a xs) (h : notFirst K C (.type "tuple") = true) : RightOf K C H (.ref a)
  | ins {a dx : Addr} {fs : List (Str × V)} (e : H a = some (.ins C dx fs)) : RightOf K C H (.ref a)
section
variable {X : Cx} {k : Nat} {C f : Addr} {fd : FuncData} {sp : Sp}
theorem RightOf.look {pins : List (Addr × Obj)} {σ : L2.St} {H : Hp} {s : Shared} {v : V} {u : Value} (I : Inv X pins σ H s) (r : RightOf X.K C H v) (ru : RelV v u) :
    ∃ tb, Looks (model X.prog X.w) s.heap (typeOf u) tb ∧ notFirst X.K C tb = true := by
  cases r with
  | int i h => obtain ⟨t, rfl⟩ := (show ∃ t, u = Value.int i t from ru); exact ⟨_, Looks.of_pure rfl, h⟩
  | str x h => obtain ⟨t, rfl⟩ := (show ∃ t, u = Value.str x t from ru); exact ⟨_, Looks.of_pure rfl, h⟩
  | @tup a xs e h =>
    cases (show u = Value.ref a from ru)
    obtain ⟨its, _, ⟨o, ho, hc, _⟩, _⟩ := I.tuple e
    exact ⟨.type "tuple", fun A Q E s' kp q => wpAny_typeOf ⟨o, kp _ _ ho, hc⟩ q, h⟩
  | @ins a dx fs e =>
    cases (show u = Value.ref a from ru)
    obtain ⟨mA, J, _⟩ := ins_get I.hok e
    obtain ⟨od, J, _⟩ := J.look
    exact ⟨.ref C, J.type, by simp [notFirst]⟩
/-- what stands for the comparison's wish: a bool comes -/
def rOwnC (C : Addr) (sp : Sp) (g : Bool → Bool) (K : Frag) : R2 := fun x y H Q => ∃ a dx fs, x = .ref a ∧ H a = some (.ins C dx fs) ∧ RightOf K C H y ∧ sp [x, y] H (fun v H' => ∃ c, v = .bl c ∧ Q (.bl (g c)) H') E0
theorem op_ownEq (F : FnOk X.prog X.w X.K X.mg X.base CX0 k f fd ["self", "other"] sp) (O : OwnEq X.K C f fd) (hr : Room k X.A) : OpR X (compareOp .Eq) (rOwnC C sp id X.K) := by
  intro pins s σ H x y v u Q I rx ry h
  obtain ⟨a, dx, fs, rfl, ha, hy, hsp⟩ := h
  cases rx
  obtain ⟨mA, J, _⟩ := ins_get I.hok ha
  obtain ⟨od, J, _⟩ := J.look
  obtain ⟨tb, hb, hn⟩ := hy.look I ry
  obtain ⟨m, hF⟩ := I.fr
  show wpAny (model X.prog X.w) X.A (richCompare .Eq (.ref a) u) (EP X pins σ Q) X.xe s
  refine PySem.W.cmp_K (op := .Eq) hr.units0 hF I.ok.mod.kin J hb hn O.eq O.fn ?_
  refine wpAny_mono (run_fn (dvs := []) (ds := []) (Q := fun v H' => ∃ c, v = .bl c ∧ Q (.bl (id c)) H') (vs := [.ref a, y]) (us := [.ref a, u]) F hr O.bd .nil pass0 I (.cons rfl (.cons ry .nil)) (by simpa using hsp)) (fun v s' hv => ?_) fun _ _ e => e
  obtain ⟨z, H', I', rz, c, rfl, q⟩ := hv
  cases (show v = Value.bool c from rz)
  exact ⟨.bl c, H', I', rfl, q⟩
theorem run_fn_in1 {pins : List (Addr × Obj)} {σ : L2.St} {H : Hp} {s : Shared} {Q : VK} {us : List Value} {vs : List V} {ps : List Str} (F : FnOk X.prog X.w X.K X.mg X.base CX0 k f fd ps sp) (hr : Room (k + 1) X.A) (hb : Binds X.K fd ps [])
    (I : Inv X pins σ H s) (r : Vals vs us) (h : sp vs H Q E0) : wpAny (model X.prog X.w) X.A.in1 (call (.ref f) us) (EP X pins σ Q) X.xe s := by
  have hl : (us ++ []).length = ps.length := by rw [List.append_nil, ← r.length]; exact F.len _ _ _ _ h
  have hb' := hb s us I.kIn hl
  rw [List.append_nil] at hb'
  refine wpAny_call (codeAny_mono (F.run X.A.in1 X.stack s H ⟨us, []⟩ us vs Q E0 hr.in1 I.env0.in1 hb' r h) fun r s' hq => ?_)
  match r, hq with
  | .error e, hq => exact False.elim hq
  | .ok (.ret u), hq => exact I.after hq
  | .ok .next, hq => exact False.elim hq
  | .ok .brk, hq => exact False.elim hq
  | .ok .cont, hq => exact False.elim hq
theorem op_ownNe (F : FnOk X.prog X.w X.K X.mg X.base CX0 k f fd ["self", "other"] sp) (O : OwnEq X.K C f fd) (hr : Room (k + 1) X.A) : OpR X (compareOp .NotEq) (rOwnC C sp (fun c => !c) X.K) := by
  intro pins s σ H x y v u Q I rx ry h
  obtain ⟨a, dx, fs, rfl, ha, hy, hsp⟩ := h
  cases rx
  obtain ⟨mA, J, _⟩ := ins_get I.hok ha
  obtain ⟨od, J, _⟩ := J.look
  obtain ⟨tb, hb, hn⟩ := hy.look I ry
  show wpAny (model X.prog X.w) X.A (richCompare .NotEq (.ref a) u) (EP X pins σ Q) X.xe s
  refine rich_ne (by have := hr.un; omega) I.kIn J hb hn O.eq O.fn O.ne O.top ?_
  refine wpAny_mono (run_fn_in1 (Q := fun v H' => ∃ c, v = .bl c ∧ Q (.bl (!c)) H') (vs := [.ref a, y]) (us := [.ref a, u]) F hr O.bd I (.cons rfl (.cons ry .nil)) hsp) (fun v s' hv => ?_) fun _ _ e => e
  obtain ⟨z, H', I', rz, c, rfl, q⟩ := hv
  cases (show v = Value.bool c from rz)
  exact ⟨c, rfl, .bl (!c), H', I', rfl, q⟩
end
/-! ### calls by keywords alone -/
theorem kbn_of {K : Frag} {fd : FuncData} {ps ks : List Str} {n : Nat} (g : {α : Type} → List α → List α → List α) (hrel : ∀ {vs zs : List V} {us ws : List Value}, Vals vs us → Vals zs ws → Vals (g vs zs) (g us ws))
    (h : ∀ us ws : List Value, us.length = n → ws.length = ks.length → bindArgs fd ⟨us, ks.zip ws⟩ = pure (ps.zip (g us ws))) : KBn K fd ps n ks (fun us ws => g us ws) (fun vs zs => g vs zs) :=
  ⟨fun _ us ws _ h1 h2 => .of_eq (h us ws h1 h2), hrel⟩
section
variable {X : Cx} {CX : CXT} {k n : Nat} {f C : Addr} {fd : FuncData} {ps ks : List Str} {sp : Sp} {E : XK} {x m : Str} {p pos apos : Pos} {o : Expr} {kws : List Keyword} {ta : TE} {tk : TA} {g : List Value → List Value → List Value} {gV : List V → List V → List V}
/-- f(k = v, ..) -/
theorem pe_callN0 (F : FnOk X.prog X.w X.K X.mg X.base CX k f fd ps sp) (hr : Room k X.A) (hg : Gl X x) (hm : X.mg x = some (.ref f)) (hk : PySem.W.keepIn X.K (.ref f) = true) (hb : KBn X.K fd ps 0 ks g gV) (hx : Passes CX X E) (hkw : PK X kws tk)
    (hall : (backToKw pos (keywordEach kws X.env)).all (·.1.isSome) = true := by rfl) (hks : (backToKw pos (keywordEach kws X.env)).filterMap (·.1) = ks := by rfl)
    (hdb : (x == ("__debug__" : Str)) = false := by decide) (hpl : ((backTo pos (starEach [] X.env)).any (·.1) || (backToKw pos (keywordEach kws X.env)).any (·.1.isNone)) = false := by rfl) :
    PE X (.Call (.Name x p) [] kws pos) (tCallN 0 ks.length sp gV E tNil tk) := by
  constructor
  intro pins s σ H Q I h
  refine wpAny_Call_Name_kw (ld_glob I hg hm ?_ hdb)
  refine PySem.W.callWith_KW0 (h₀ := X.base) I.ok.mod.kin hk hall (thn (hkw.run pos pins s σ H _ I h) fun ws s2 hv => ?_) hpl
  obtain ⟨zs, H2, I2, rz, l1, l2, q2⟩ := hv
  refine ⟨I2.kIn, ?_⟩
  rw [hks]
  exact run_fnN (us := []) (vs := []) F hr hb hx I2 .nil rz rfl l2 q2
/-- o.m(k = v, ..) -/
def tMethN (C : Addr) (m : Str) (n : Nat) (sp : Sp) (gV : List V → List V → List V) (E : XK) (ta : TE) (tk : TA) : TE := fun σ H Q => ta σ H fun x H1 => ∃ a dx fs, x = .ref a ∧ H1 a = some (.ins C dx fs) ∧ fs.lookup m = none ∧
  tk σ H1 fun zs H2 => zs.length = n ∧ sp (gV [x] zs) H2 Q E
theorem pe_methN0 {pl : Sem Bool} (he : PE X o ta) (c : Cls X.K C) (hm : Meth X.K C m f) (F : FnOk X.prog X.w X.K X.mg X.base CX k f fd ps sp) (hr : Room k X.A) (hb : KBn X.K fd ps 1 ks g gV) (hx : Passes CX X E) (hkw : PK X kws tk)
    (hall : (backToKw pos (keywordEach kws X.env)).all (·.1.isSome) = true := by rfl) (hks : (backToKw pos (keywordEach kws X.env)).filterMap (·.1) = ks := by rfl)
    (hpl : ((backTo pos (starEach [] X.env)).any (·.1) || (backToKw pos (keywordEach kws X.env)).any (·.1.isNone)) = false := by rfl)
    (ht : eval (.Call (.Attribute o m apos) [] kws pos) X.env = (do
      let ov ← eval o X.env
      standAt apos.atName
      let (f, first) ← holding [ov] (getMethod ov m pl)
      callWith pos f first (backTo pos (starEach [] X.env)) (backToKw pos (keywordEach kws X.env))) := by rfl) :
    PE X (.Call (.Attribute o m apos) [] kws pos) (tMethN C m ks.length sp gV E ta tk) := by
  constructor
  intro pins s σ H Q I h
  refine PySem.W.methodCall_KW (pl := pl) (thn (he.run pins s σ H _ I h) fun u s1 hv => ?_) ht
  obtain ⟨x, H1, I1, rx, a, dx, fs, ex, ea, l, q⟩ := hv
  subst ex
  obtain rfl : u = Value.ref a := rx
  refine getmeth_ok I1 ea c hm l ?_
  refine PySem.W.callWith_KW0 (first := [.ref a]) (h₀ := X.base) I1.ok.mod.kin hm.kp hall (thn (hkw.run pos pins s1 σ H1 _ I1 q) fun ws s2 hv => ?_) hpl
  obtain ⟨zs, H2, I2, rz, l2, q2⟩ := hv
  refine ⟨I2.kIn, ?_⟩
  rw [hks]
  exact run_fnN (n := 1) (us := [.ref a]) (vs := [.ref a]) F hr hb hx I2 (.cons rfl .nil) rz rfl (by simpa using l2) q2
end
end Z
namespace Z
open PySem PySem.Spec PyProof.Rows L2
/-! ### the law's end, for a law that is called while no repr runs -/
theorem law_callG {P : Program} {w : World} {K : PySem.W.Frag} {mg mb : Str → Option Value} {k : Nat} {fa a : Addr} {fd : FuncData} {x : Str} {sp : Sp} {s₁ : Shared} {vs : List Value} {ns : List Int}
    (KX : K.In s₁.heap) (hns : s₁.heap.Ns mainGlobals mg) (hb : s₁.heap.Ns builtinsNs mb) (hbb : ∀ x : Str, x ≠ "__name__" → mb x = bootBuiltins x) (hlim : s₁.heap.NoLimit) (hg : s₁.gens = #[])
    (ha : s₁.heap.get? a = some { cls := .type "list", data := .seq vs.toArray }) (hi : IntsAre vs ns) (hl : ns.length ≤ sizeLine) (hr : Room k callerA)
    (F : ∀ base : Heap, K.In base → base.Ns mainGlobals mg → FnG P w K mg base k fa fd [x] sp) (hbind : ∀ (s : Shared) (u : Value), BindsTo s fd ⟨[u], []⟩ [(x, u)])
    (hsp : ∀ H : Hp, Only H → SqL K H a (ns.map V.int) → sp [.ref a] H (fun v _ => v = .bl true) fun _ _ _ => False) :
    codeAny (model P w) callerA (.call (.ref fa) ⟨[.ref a], []⟩) (fun r s' => r = .ok (.ret (.bool true)) ∧ OldK s₁.heap s'.heap ∧ s'.os = s₁.os ∧ AllBare s'.gens) s₁ := by
  have rv := vals_ints hi
  have lenV := hi.length
  suffices core : ∀ H : Hp, Only H → SqL K H a (ns.map V.int) → HOk P w H s₁.heap → (∀ b, H b ≠ none → b = a) → (H a ≠ none → K.lookup a = none) →
      codeAny (model P w) callerA (.call (.ref fa) ⟨[.ref a], []⟩) (fun r s' => r = .ok (.ret (.bool true)) ∧ OldK s₁.heap s'.heap ∧ s'.os = s₁.os ∧ AllBare s'.gens) s₁ by
    cases hk : K.lookup a with
    | some o =>
      have e := KX a o hk
      rw [ha] at e
      cases e
      have none0 : ∀ (b : Addr) (u : HO), (fun _ => none : Hp) b = some u → False := fun b u z => by cases (show (none : Option HO) = some u from z)
      refine core (fun _ => none) (fun _ => .inl rfl) (.inr ⟨_, vs.toArray, _, hk, rfl, rfl, rfl, ?_, by simpa using rv⟩) (fun b u z => (none0 b u z).elim) (fun b z => absurd rfl z) fun z => absurd rfl z
      rw [List.size_toArray, lenV]
      exact hl
    | none =>
      let sc : HO := .frz { cls := .type "list", data := .seq vs.toArray } (.lst (ns.map V.int))
      refine core (fun b => if b = a then some sc else none) (fun b => ?_) (.inl (.inr ⟨{ cls := .type "list", data := .seq vs.toArray }, if_pos rfl⟩)) (fun b u z => ?_) (fun b z => ?_) fun _ => hk
      · by_cases e : b = a
        · exact .inr ⟨_, _, if_pos e⟩
        · exact .inl (if_neg e)
      · by_cases e : b = a
        · subst e
          have z' : some sc = some u := (if_pos rfl).symm.trans z
          cases z'
          exact ⟨ha, by rw [List.length_map]; exact hl, vs, _, rv, ha⟩
        · cases (if_neg e).symm.trans z
      · by_cases e : b = a
        · exact e
        · exact absurd (if_neg e) z
  intro H hO hS hok hA hK
  have isA : ∀ {b : Addr}, H b ≠ none → s₁.heap.get? b = some { cls := .type "list", data := .seq vs.toArray } := fun {b} z => by rw [hA b z]; exact ha
  have noD : ∀ {b : Addr} {o : Obj} {es : Array DictEntry} {ep : Nat}, s₁.heap.get? b = some o → o.data = .dict es ep → H b = none := fun {b o es ep} e d => by
    by_cases z : H b = none
    · exact z
    · rw [isA z] at e
      cases e
      cases (show Data.seq vs.toArray _ = Data.dict es ep from d)
  have nsK : ∀ {b : Addr} {m : Str → Option Value}, s₁.heap.Ns b m → (hidT s₁.heap H).Ns b m := fun n => by
    obtain ⟨o, es, ep, e, d, r⟩ := n
    exact ⟨o, es, ep, hidT_get e (noD e d), d, r⟩
  have hKb : K.In (hidT s₁.heap H) := fun b o e => hidT_get (KX b o e) (by
    by_cases z : H b = none
    · exact z
    · have eb := hA b z
      subst eb
      rw [hK z] at e
      cases e)
  have hM : Mod K mg (hidT s₁.heap H) := ⟨hKb, nsK hns, ⟨mb, nsK hb, hbb⟩, let ⟨mc, h1, h2⟩ := hlim; ⟨mc, nsK h1, h2⟩⟩
  have nil0 : ∀ b : Addr, b ∉ ([] : List Addr) := fun b => by simp
  have e0 : Env0 P w K mg (hidT s₁.heap H) callerA [] s₁ H := ⟨rfl, hM, fun b o e => of_hidT e, Nat.le_of_eq (hidT_size _ _), trivial, fun b hb => absurd hb (nil0 b), hok, .of_eq hg⟩
  refine codeAny_mono ((F _ hKb (nsK hns)).run callerA [] s₁ H ⟨[.ref a], []⟩ [.ref a] [.ref a] _ _ hr rfl e0 (hbind s₁ (.ref a)) (.cons rfl .nil) (hsp H hO hS)) fun r s' h => ?_
  match r, h with
  | .error e, h => exact False.elim h
  | .ok .next, h => exact False.elim h
  | .ok .brk, h => exact False.elim h
  | .ok .cont, h => exact False.elim h
  | .ok (.ret u), h =>
    obtain ⟨v, H', os, bare, un, hok', r', q⟩ := h
    cases (show v = .bl true from q)
    cases (show u = Value.bool true from r')
    refine ⟨rfl, OldK.of_keep fun b o e => ?_, os, bare⟩
    by_cases z : H b = none
    · exact un.keep b o e z (nil0 b) (by simp)
    · rcases hO b with y | ⟨ob, xs, y⟩
      · exact absurd y z
      · obtain ⟨e1, _⟩ := hok b _ y
        obtain ⟨e2, _⟩ := hok' b _ (un.frzs b ob _ y)
        rw [e] at e1
        cases e1
        exact e2
/-- the goal that k_head leaves, from the law's promise -/
theorem walkG {l : PySem.W.OpenLaw} {n k : Nat} {q : Program} {loose : List Str} {XP : (Str → Option Value) → Heap → Prop} {YP : World → Heap → Prop} {d : DefRec} {K : Params → PySem.W.Frag} {sp : World → Sp} {x : Str}
    (hn : l.most = some n) (hn2 : n ≤ sizeLine) (hdf : d.params.defaults = []) (hr : Room k callerA) (hY : ∀ (w : World) (h : Heap), YP w h → (K w.params).In h)
    (F : ∀ (w : World) (mg : Str → Option Value) (fa : Addr) (h : Heap), (K w.params).In h → h.Ns mainGlobals mg → mg d.name = some (.ref fa) →
      ∃ fd : FuncData, (∀ (s : Shared) (u : Value), BindsTo s fd ⟨[u], []⟩ [(x, u)]) ∧ ∀ base : Heap, (K w.params).In base → base.Ns mainGlobals mg → FnG l.prog w (K w.params) mg base k fa fd [x] (sp w))
    (hsp : ∀ (w : World) (H : Hp) (a : Addr) (ns : List Int), ns.length ≤ n → Only H → SqL (K w.params) H a (ns.map V.int) → sp w [.ref a] H (fun v _ => v = .bl true) fun _ _ _ => False) :
    PySem.W.WalkO q loose XP YP l.row.toRowW d [] (fun f vs => PySem.call f vs) := by
  refine Att.attach_call hn hdf fun w s₀ s₁ mg mb fa o pm cd doc a vs ns G Y ho hd hcd hmg hobj hints hlen hg => ?_
  have KX := hY w _ Y
  obtain ⟨fd, hb, hF⟩ := F w mg fa _ KX G.T.g hmg
  exact law_callG KX G.T.g G.T.b G.T.builtins G.T.nolimit hg hobj hints (Nat.le_trans hlen hn2) hr hF hb fun H hO hS => hsp w H a ns hlen hO hS
end Z
namespace Z
open PySem PySem.Spec PyProof.Rows L2
/-! ### name = {k: v for ..}: a local is set to a dict comprehension -/
def InBlk (X : Cx) (scope : Scope) (p : Cx → Prop) : Prop := ∀ s H C cl fp, p (X.blk s H scope (compEnvC scope cl C X.env) fp)
theorem sw_dict {k v : Expr} {cs : List Comprehension} {scope : Scope} {pos py : Pos} {y : Str} {l : Nat} {env : Env} (hk : env.scope.kind = .function) (hy : env.scope.names.lookup y = some .local)
    (hl : (py.line == pos.line) = true) (ha : (scope.names.any fun q => q.1 == y && (q.2 == .local || q.2 == .cell)) = false) : swapsWith (.DictComp k v cs scope pos) (some (.Name y py)) l env = pure true := by
  have e1 : env.kindOf y = some .local := hy
  have e2 : env.blockKind = .function := by
    unfold Env.blockKind
    rw [hk]
    rfl
  unfold swapsWith
  simp only [e1, e2, ha, hl, Expr.pos]
  rfl
theorem ps_setDc {X : Cx} {i : Nat} {y : Str} {py pos sp : Pos} {k v tg iter : Expr} {ifs : List Expr} {scope : Scope} {own : List (Str × Nat)} {wi : TI} {g : TG} {tt : TT} {tk tv : TE} (hc : X.calm = true) (hN : X.N.Nodup)
    (hy : X.N[i]? = some y) (yl : X.env.scope.names.lookup y = some .local) (sw : swapsWith (.DictComp k v [⟨tg, iter, ifs, 0⟩] scope pos) (some (.Name y py)) sp.line X.env = pure true) (hi : PI X tg iter wi)
    (ok : BlkOk X.N X.env.scope scope own) (bg : InBlk X scope fun Y => PG Y tg g) (bt : InBlk X scope fun Y => PTs Y ifs tt) (bk : InBlk X scope fun Y => PE Y k tk) (bv : InBlk X scope fun Y => PE Y v tv)
    (hs : ∀ x, foldedSetIterable iter X.env x = pure x := by intro _; rfl) : PS X (.Assign [.Name y py] (.DictComp k v [⟨tg, iter, ifs, 0⟩] scope pos) sp) (tAsg (tDc wi g tt tk tv (own.map (·.2))) (gName i)) := by
  constructor
  intro pins s σ H D I h
  rw [exec_Assign_Name_used _ _ _ _ sw]
  refine wpAny_bind (wpAny_standAt (wpAny_bind ?_))
  have q0 : tDc wi g tt tk tv (own.map (·.2)) σ H (fun z Hz => gName i z σ Hz D.nx) := h
  show wpAny _ X.A (do
    let _ ← comprehension (.DictComp k v [⟨tg, iter, ifs, 0⟩] scope pos) scope X.env (firstIterPos [⟨tg, iter, ifs, 0⟩] pos) newDict false (eval iter X.env) (some (assign (.Name y py) X.env))) _ _ s
  have core := dc_core (Qf := fun _ z => SP X pins D .next z) hc hN I hi ok bg bt bk bv hs q0 (use := some (assign (.Name y py) X.env)) (pos := pos) (pos' := firstIterPos [⟨tg, iter, ifs, 0⟩] pos)
  refine wpAny_bind (thn (core fun L C s' m H' J q hn f => ?_) fun _ _ z => wpAny_pure (wpAny_pure z))
  show wpAny _ _ (assign (.Name y py) X.env (.ref L)) _ _ _
  refine wpAny_assign_Name (store_ok2 (v := V.ref L) J hN hy (.inl yl) rfl (fun s2 J2 hb => ?_) (.inr yl))
  obtain ⟨a, sb, ha⟩ := hb
  obtain ⟨f0, f1, f2, f3, f4, f5⟩ := f
  have nC : C ≠ a := by
    rcases ha with z | z
    · rw [z]
      exact f1
    · exact fun e => f4 y a z e.symm
  exact ⟨m, hn.sameBut sb nC, fun h3 sb3 => ⟨_, H', J2.turned (t' := s2.toks) (fun b o hb e => (sb3.2 b hb).trans e) f0 f1 f3 f4 f5, q⟩⟩
end Z
namespace Z
open PySem PySem.Spec PyProof.Rows L2 PySem.W
/-! ### bits of whole numbers that are not below 0 -/
def blN (b : Nat) : Nat := if b = 0 then 0 else b.log2 + 1
section
variable {X : Cx}
theorem OpR.imp' {op : Value → Value → Sem Value} {r r' : R2} (h : OpR X op r) (k : ∀ x y H Q, r' x y H Q → r x y H Q) : OpR X op r' :=
  fun pins s σ H x y v u Q I rx ry q => h pins s σ H x y v u Q I rx ry (k x y H Q q)
theorem blN_lt (b : Nat) : b < 2 ^ blN b := by
  unfold blN
  split
  · omega
  · exact Nat.lt_log2_self
def rNN (g : Nat → Nat → Nat) : R2 := fun x y H Q => ∃ a b : Nat, x = .int (a : Int) ∧ y = .int (b : Int) ∧ Q (.int ((g a b : Nat) : Int)) H
theorem bitAnd_nat (a b : Nat) : Builtin.bitAnd (a : Int) (b : Int) = ((a &&& b : Nat) : Int) := by
  rw [bitAnd_pp (by omega) (by omega), Int.toNat_natCast, Int.toNat_natCast]
theorem op_andNN : OpR X (binaryOp .BitAnd) (rNN fun a b => a &&& b) := OpR.imp' op_and fun x y H Q ⟨a, b, h1, h2, q⟩ => ⟨a, b, h1, h2, by have e := bitAnd_nat a b; show Q (.int (Builtin.bitAnd (a : Int) (b : Int))) H; rw [e]; exact q⟩
theorem op_orNN : OpR X (binaryOp .BitOr) (rNN fun a b => a ||| b) := OpR.imp' op_or fun x y H Q ⟨a, b, h1, h2, q⟩ => ⟨a, b, h1, h2, by
  show Q (.int (Builtin.bitOr (a : Int) (b : Int))) H
  rw [Bits.bitOr_pp (by omega) (by omega), Int.toNat_natCast, Int.toNat_natCast]; exact q⟩
theorem op_xorNN : OpR X (binaryOp .BitXor) (rNN fun a b => a ^^^ b) := OpR.imp' op_xor fun x y H Q ⟨a, b, h1, h2, q⟩ => ⟨a, b, h1, h2, by
  show Q (.int (Builtin.bitXor (a : Int) (b : Int))) H
  rw [Bits.bitXor_pp (by omega) (by omega), Int.toNat_natCast, Int.toNat_natCast]; exact q⟩
theorem op_shrNN : OpR X (binaryOp .RShift) (rNN fun a b => a >>> b) := OpR.imp' op_shr fun x y H Q ⟨a, b, h1, h2, q⟩ => ⟨a, b, h1, h2, by omega, by
  show Q (.int ((a : Int) / 2 ^ (b : Int).toNat)) H
  rw [Int.toNat_natCast]
  have e : ((a : Int) / 2 ^ b) = ((a >>> b : Nat) : Int) := by rw [Nat.shiftRight_eq_div_pow]; simp
  rw [e]; exact q⟩
theorem op_shlNN : OpR X (binaryOp .LShift) (fun x y H Q => ∃ a b : Nat, x = .int (a : Int) ∧ y = .int (b : Int) ∧ (∃ n, a < 2 ^ n ∧ n + b ≤ 100000000) ∧ Q (.int ((a <<< b : Nat) : Int)) H) :=
  OpR.imp' op_shlW fun x y H Q ⟨a, b, h1, h2, ⟨n, hn, hs⟩, q⟩ => ⟨a, b, h1, h2, shl_ok (n := n) (by simpa using hn) (by omega), by
    show Q (.int ((a : Int) * 2 ^ (b : Int).toNat)) H
    rw [Int.toNat_natCast]
    have e : ((a : Int) * 2 ^ b) = ((a <<< b : Nat) : Int) := by rw [Nat.shiftLeft_eq]; simp
    rw [e]; exact q⟩
/-- a whole number as a truth value -/
theorem intBits_nat (a : Nat) : Builtin.Int.intBits (a : Int) = blN a := by
  unfold Builtin.Int.intBits blN
  simp
def tBitsN (to : TE) : TE := fun σ H Q => to σ H fun x H1 => ∃ a : Nat, x = .int (a : Int) ∧ Q (.int ((blN a : Nat) : Int)) H1
end
section
variable {X : Cx}
def tInt (t : TE) : TT := fun σ H Q => t σ H fun x H1 => ∃ i : Int, x = .int i ∧ Q (i != 0) H1
theorem pt_int {e : Expr} {t : TE} (h : PE X e t) (he : ∀ whole, isTrue e X.env whole = (do let v ← whole; standAt e.pos; holding [v] (truthy v)) := by intro _; rfl) : L2.PT X e (tInt t) := by
  refine ⟨fun pins s σ H Q I hw => ?_⟩
  refine isTrue_plain (thn (h.run pins s σ H _ I hw) fun v s1 hv => ?_) (he _)
  obtain ⟨x, H1, I1, r1, i, rfl, q⟩ := hv
  exact tru_ok pins s1 σ H1 (.int i) v Q I1 r1 ⟨_, rfl, q⟩
end
/-! ### math.lcm -/
section
variable {X : Cx}
def rLcm : List V → Hp → VK → Prop := fun vs H Q => ∃ a b : Nat, vs = [.int (a : Int), .int (b : Int)] ∧ a < 2 ^ 30 ∧ b < 2 ^ 30 ∧ Q (.int ((Nat.lcm a b : Nat) : Int)) H
theorem log2_lt {a n : Nat} (h : a < 2 ^ n) (hn : 0 < n) : a.log2 < n := by
  by_cases e : a = 0
  · subst e; simpa using hn
  · exact (Nat.log2_lt e).mpr h
theorem cr_lcm : CallR X (.builtin "math.lcm") rLcm := by
  intro pins s σ H vs us Q I r h
  obtain ⟨a, b, rfl, ha, hb, q⟩ := h
  obtain ⟨t, u, rfl⟩ := Vals.int2 r
  have le : Nat.lcm a b ≤ a * b := by
    unfold Nat.lcm
    exact Nat.div_le_self _ _
  have lt : a * b < 2 ^ 60 := by
    have := Nat.mul_le_mul (Nat.le_of_lt_succ (show a < (2 ^ 30 - 1) + 1 by omega)) (Nat.le_of_lt_succ (show b < (2 ^ 30 - 1) + 1 by omega))
    omega
  refine PySem.W.mg_lcm_v (c := ((Nat.lcm a b : Nat) : Int)) (by simp; omega) (by simp; omega) (by simp [Nat.lcm]) ?_ ⟨.int _, H, I.tok _, ⟨_, rfl⟩, q⟩
  rw [Int.natAbs_natCast, bitsLine_eq]
  have := log2_lt (a := Nat.lcm a b) (n := 60) (by omega) (by omega)
  omega
end
/-! ### min(t, default = ..), max(l, default = ..) -/
section
variable {X : Cx}
theorem hold_ints {h : Heap} : ∀ {ns : List Int} {its : List Value}, Vals (ns.map V.int) its → HoldAll h its ns
  | [], _, .nil => ⟨[], .nil⟩
  | n :: ns, _, .cons r t => by
    obtain ⟨u, rfl⟩ := (show ∃ t, _ = Value.int n t from r)
    obtain ⟨as, ra⟩ := hold_ints (h := h) t
    exact ⟨[] ++ as, .cons (.int n u) ra⟩
def headMin : List Int → V → V → Prop
  | [], d, v => v = d
  | n :: ns, _, v => v = .int (minOf n ns)
def headMax : List Int → V → V → Prop
  | [], d, v => v = d
  | n :: ns, _, v => v = .int (maxOf n ns)
theorem holds_int {h : Heap} {v : Value} {i : Int} (r : Holds h v i) : RelV (.int i) v := by
  obtain ⟨as, r⟩ := r
  cases r with
  | int i t => exact ⟨t, rfl⟩
/-- min(t, default = d), t a tuple of whole numbers -/
def tMinD (K : PySem.W.Frag) (ta tk : TA) : TE := fun σ H Q => ta σ H fun vs H1 => tk σ H1 fun zs H2 => ∃ (a : Addr) (ns : List Int) (d : V), vs = [.ref a] ∧ zs = [d] ∧ SqT K H2 a (ns.map V.int) ∧ ∀ v, headMin ns d v → Q v H2
theorem pe_minD {e : Expr} {kws : List Keyword} {ta tk : TA} {p pos : Pos} {k : Nat} (hcalm : X.calm = true) (hr : Room k X.A) (hg : Gl X "min") (hm : X.mg "min" = none) (ha : PA X [e] ta) (hkw : PK X kws tk)
    (he : backTo pos (starEach [e] X.env) = (false, eval e X.env) :: backTo pos (starEach [] X.env) := by rfl) (hpl : (backTo pos (starEach [e] X.env)).any (·.1) = false := by rfl)
    (hall : (backToKw pos (keywordEach kws X.env)).all (·.1.isSome) = true := by rfl) (hkn : (backToKw pos (keywordEach kws X.env)).any (·.1.isNone) = false := by rfl)
    (hks : (backToKw pos (keywordEach kws X.env)).filterMap (·.1) = [("default" : Str)] := by rfl) : PE X (.Call (.Name "min" p) [e] kws pos) (tMinD X.K ta tk) := by
  refine ⟨fun pins s σ H Q I h => ?_⟩
  refine wpAny_Call_Name_kw (ld_blt I hg hm (show bootBuiltins "min" = some (.builtin "min") by decide +kernel) ?_ (by decide) (by decide))
  refine callWith_kw (thn (ha.run pos pins s σ H _ I h) fun us s1 hv => ?_) he hpl hall hkn
  obtain ⟨vs, H1, I1, r1, q1⟩ := hv
  refine thn (hkw.run pos pins s1 σ H1 _ I1 q1) fun ws s2 hv2 => ?_
  obtain ⟨zs, H2, I2, r2, a, ns, d, ev, ez, ht, q⟩ := hv2
  subst ev ez
  obtain ⟨u, eu, rx⟩ := vals1 r1
  subst eu
  cases rx
  obtain ⟨z, ez, rz⟩ := vals1 r2
  subst ez
  rw [hks]
  obtain ⟨its, rv, ht', _⟩ := I2.tuple ht
  have hu := hr.un
  refine PySem.W.min_tuple_datum_default (xs := ns) (I2.ok.hd hcalm) ht' (by simpa using hold_ints rv) (by show X.A.units + 1 + 0 < cLine; omega) (fun e0 h' tk hk => ?_) fun y ys i v h' tk e1 hi hh hk => ?_
  · subst e0
    exact ⟨d, H2, I2.kept (t' := tk) hk, rz, q d rfl⟩
  · subst e1
    exact ⟨.int (minOf y ys), H2, I2.kept (t' := tk) hk, holds_int hh, q _ rfl⟩
def tMaxD (K : PySem.W.Frag) (ta tk : TA) : TE := fun σ H Q => ta σ H fun vs H1 => tk σ H1 fun zs H2 => ∃ (a : Addr) (ns : List Int) (d : V), vs = [.ref a] ∧ zs = [d] ∧ SqL K H2 a (ns.map V.int) ∧ ∀ v, headMax ns d v → Q v H2
theorem pe_maxD {e : Expr} {kws : List Keyword} {ta tk : TA} {p pos : Pos} {k : Nat} (hcalm : X.calm = true) (hr : Room k X.A) (hg : Gl X "max") (hm : X.mg "max" = none) (ha : PA X [e] ta) (hkw : PK X kws tk)
    (he : backTo pos (starEach [e] X.env) = (false, eval e X.env) :: backTo pos (starEach [] X.env) := by rfl) (hpl : (backTo pos (starEach [e] X.env)).any (·.1) = false := by rfl)
    (hall : (backToKw pos (keywordEach kws X.env)).all (·.1.isSome) = true := by rfl) (hkn : (backToKw pos (keywordEach kws X.env)).any (·.1.isNone) = false := by rfl)
    (hks : (backToKw pos (keywordEach kws X.env)).filterMap (·.1) = [("default" : Str)] := by rfl) : PE X (.Call (.Name "max" p) [e] kws pos) (tMaxD X.K ta tk) := by
  refine ⟨fun pins s σ H Q I h => ?_⟩
  refine wpAny_Call_Name_kw (ld_blt I hg hm (show bootBuiltins "max" = some (.builtin "max") by decide +kernel) ?_ (by decide) (by decide))
  refine callWith_kw (thn (ha.run pos pins s σ H _ I h) fun us s1 hv => ?_) he hpl hall hkn
  obtain ⟨vs, H1, I1, r1, q1⟩ := hv
  refine thn (hkw.run pos pins s1 σ H1 _ I1 q1) fun ws s2 hv2 => ?_
  obtain ⟨zs, H2, I2, r2, a, ns, d, ev, ez, ht, q⟩ := hv2
  subst ev ez
  obtain ⟨u, eu, rx⟩ := vals1 r1
  subst eu
  cases rx
  obtain ⟨z, ez, rz⟩ := vals1 r2
  subst ez
  rw [hks]
  obtain ⟨its, rv, ht', _⟩ := I2.list ht
  have hu := hr.un
  refine PySem.W.max_list_datum_default (xs := ns) (I2.ok.hd hcalm) ht'.isList (by simpa using hold_ints rv) (by show X.A.units + 1 + 0 < cLine; omega) (fun e0 h' tk hk => ?_) fun y ys i v h' tk e1 hi hh hk => ?_
  · subst e0
    exact ⟨d, H2, I2.kept (t' := tk) hk, rz, q d rfl⟩
  · subst e1
    exact ⟨.int (maxOf y ys), H2, I2.kept (t' := tk) hk, holds_int hh, q _ rfl⟩
end
/-! ### x in c, c an object with a __contains__ of its own -/
section
variable {X : Cx} {k : Nat} {C f : Addr} {fd : FuncData} {sp : Sp}
structure OwnIn (K : PySem.W.Frag) (C f : Addr) (fd : FuncData) (ps : List Str) : Prop where
  at_ : PySem.W.findIn K (.ref C) "__contains__" = some (some (.ref f))
  fn : PySem.W.isFn K (.ref f) = true
  bd : Binds K fd ps []
def rOwnIn (C : Addr) (sp : Sp) : R2 := fun x y H Q => ∃ a dx fs, y = .ref a ∧ H a = some (.ins C dx fs) ∧ sp [y, x] H (fun v H' => ∃ c, v = .bl c ∧ Q (.bl c) H') E0
theorem op_ownIn {ps : List Str} (F : FnOk X.prog X.w X.K X.mg X.base CX0 k f fd ps sp) (O : OwnIn X.K C f fd ps) (hr : Room k X.A) : OpR X (compareOp .In) (rOwnIn C sp) := by
  intro pins s σ H x y v u Q I rx ry h
  obtain ⟨a, dx, fs, rfl, ha, hsp⟩ := h
  cases ry
  obtain ⟨mA, J, _⟩ := ins_get I.hok ha
  obtain ⟨od, J, _⟩ := J.look
  obtain ⟨m, hF⟩ := I.fr
  refine PySem.W.in_K hF I.ok.mod.kin J O.at_ O.fn ?_
  refine wpAny_mono (run_fn (dvs := []) (ds := []) (Q := fun v H' => ∃ c, v = .bl c ∧ Q (.bl c) H') (vs := [.ref a, x]) (us := [.ref a, v]) F hr O.bd .nil pass0 I (.cons rfl (.cons rx .nil)) (by simpa using hsp)) (fun w s' hv => ?_) fun _ _ e => e
  obtain ⟨z, H', I', rz, c, rfl, q⟩ := hv
  cases (show w = Value.bool c from rz)
  exact wpAny_truthy_bool ⟨.bl c, H', I', rfl, q⟩
end
end Z
namespace Z
open PySem PySem.Spec PyProof.Rows L2 PySem.W
theorem and_rest : ∀ (n a b : Nat), a ≤ n → (a ^^^ (a &&& b)) + (a &&& b) = a
  | 0, a, b, h => by
    obtain rfl : a = 0 := by omega
    simp
  | n + 1, a, b, h => by
    by_cases e : a = 0
    · subst e; simp
    have ih := and_rest n (a / 2) (b / 2) (by omega)
    have d1 : (a &&& b) / 2 = (a / 2) &&& (b / 2) := Nat.and_div_two
    have d2 : (a ^^^ (a &&& b)) / 2 = (a / 2) ^^^ ((a &&& b) / 2) := Nat.xor_div_two
    have m1 : (a &&& b) % 2 = (a % 2) &&& (b % 2) := by have := @Nat.and_mod_two_pow a b 1; simpa using this
    have m2 : (a ^^^ (a &&& b)) % 2 = (a % 2) ^^^ ((a &&& b) % 2) := by have := @Nat.xor_mod_two_pow a (a &&& b) 1; simpa using this
    rw [d1] at d2
    rw [m1] at m2
    have ha := Nat.mod_two_eq_zero_or_one a
    have hb := Nat.mod_two_eq_zero_or_one b
    have key : (a ^^^ (a &&& b)) % 2 + (a &&& b) % 2 = a % 2 := by
      rw [m1, m2]
      rcases ha with ha | ha <;> rcases hb with hb | hb <;> rw [ha, hb] <;> rfl
    omega
section
variable {X : Cx}
theorem op_andInv : OpR X (binaryOp .BitAnd) (fun x y H Q => ∃ a b : Nat, x = .int (a : Int) ∧ y = .int (Builtin.bitNot (b : Int)) ∧ Q (.int ((a ^^^ (a &&& b) : Nat) : Int)) H) :=
  OpR.imp' op_and fun x y H Q ⟨a, b, h1, h2, q⟩ => ⟨_, _, h1, h2, by
    have nb : ¬ 0 ≤ Builtin.bitNot (b : Int) := by show ¬ 0 ≤ -(b : Int) - 1; omega
    have nn : Builtin.bitNot (Builtin.bitNot (b : Int)) = (b : Int) := by show -(-(b : Int) - 1) - 1 = _; omega
    show Q (.int (Builtin.bitAnd (a : Int) (Builtin.bitNot (b : Int)))) H
    rw [bitAnd_pn (by omega) nb, nn, Int.toNat_natCast, Int.toNat_natCast]
    have := and_rest a a b (Nat.le_refl _)
    rw [show (a : Int) - ((a &&& b : Nat) : Int) = ((a ^^^ (a &&& b) : Nat) : Int) by omega]
    exact q⟩
theorem op_isB : OpR X (compareOp .Is) (fun x y H Q => ∃ c d, x = .bl c ∧ y = .bl d ∧ Q (.bl (c == d)) H) := by
  intro pins s σ H x y v u Q I rx ry h
  obtain ⟨c, d, rfl, rfl, q⟩ := h
  cases rx
  cases ry
  exact is_bool ⟨.bl _, H, I, rfl, q⟩
end
end Z
namespace Z
open PySem PySem.Spec PyProof.Rows L2
/-! ### a weaker wish, behind arguments -/
def tMono (t : TA) : TA := fun σ H R => ∃ R' : List V → Hp → Prop, t σ H R' ∧ ∀ vs H', R' vs H' → R vs H'
theorem pa_mono {X : Cx} {es : List Expr} {t : TA} (h : PA X es t) : PA X es (tMono t) := ⟨fun pos pins s σ H R I hR => by
  obtain ⟨R', h1, h2⟩ := hR
  exact thn (h.run pos pins s σ H R' I h1) fun us s1 ⟨vs, H1, I1, r, q⟩ => ⟨vs, H1, I1, r, h2 _ _ q⟩⟩
/-! ### own errors with one field -/
/-- what __init__ promises: the field is set, in a new dict -/
def spErr (C : Addr) (f : Str) : Sp := fun vs H Q _ => ∃ (a : Addr) (v : V), vs = [.ref a, v] ∧ H a = some (exo a C none) ∧
  ∀ dx, H dx = none → dx ≠ a → Q .non (upd (upd H dx (exd dx [(f, v)])) a (exo a C (some dx)))
/-- the class as the top has left it; its __init__ at fI -/
structure ErrAt (K : PySem.W.Frag) (mg : Str → Option Value) (x q f : Str) (st : Stmt) (C : Addr) : Prop where
  gC : mg x = some (.ref C)
  ox : OexC K C
  xf : XfC K C
  no : PySem.W.findIn K (.ref C) f = some none
  te : PySem.W.exmOne K (.ref C) (.ref C) = some true
  fn : ∃ (fI : Addr) (fd : FuncData), Fun K "__init__" q st fI fd ∧ PySem.W.findIn K (.ref C) "__init__" = some (some (.ref fI)) ∧ PySem.W.typeIn K (.ref fI) = some (.type "function") ∧ Binds K fd ["self", f] []
/-- the same, with what its __init__ keeps -/
def PrErr (P : Program) (w : World) (K : PySem.W.Frag) (mg : Str → Option Value) (base : Heap) (x f : Str) (C : Addr) : Prop :=
  mg x = some (.ref C) ∧ OexC K C ∧ ∃ (fI : Addr) (fd : FuncData), PySem.W.findIn K (.ref C) "__init__" = some (some (.ref fI)) ∧ PySem.W.typeIn K (.ref fI) = some (.type "function") ∧ Binds K fd ["self", f] [] ∧ FnOk P w K mg base CX0 1 fI fd ["self", f] (spErr C f)
/-- an error of the class at C flies: its own dict, new, holds f = v; all else is as it was -/
def Bad (C : Addr) (f : Str) (v : V) (H : Hp) (E : XK) : Prop := ∀ d H', Same H H' → H d = none → H' d = some (.xd [(f, v)]) → E (.ref C) (some d) H'
theorem Bad.imp {C : Addr} {f : Str} {v : V} {H : Hp} {E E' : XK} (h : Bad C f v H E) (k : ∀ cls d H', E cls d H' → E' cls d H') : Bad C f v H E' := fun d H' s n e => k _ _ _ (h d H' s n e)
theorem Bad.later {C : Addr} {f : Str} {v : V} {H H1 : Hp} {E : XK} (s : Same H H1) (h : Bad C f v H E) : Bad C f v H1 E := fun d H' s1 n e => h d H' (fun b o q => s1 b o (s b o q)) (by
  cases q : H d with
  | none => rfl
  | some o => rw [s _ _ q] at n; cases n) e
def tErr (C : Addr) (f : Str) (ta : TA) : L2.St → Hp → XK → Prop := fun σ H Q => ta σ H fun vs H1 => ∃ v, vs = [v] ∧ Bad C f v H1 Q
section
variable {X : Cx} {C : Addr} {x f : Str} {e : Expr} {es : List Expr} {ta : TA} {p pos pos2 : Pos} {W : WX}
theorem pmk_err (E : PrErr X.prog X.w X.K X.mg X.base x f C) (hr : Room 2 X.A) (ha : PA X (e :: es) ta) (hg : Gl X x := by rfl)
    (hdb : (x == ("__debug__" : Str)) = false := by decide) (he : starEach (e :: es) X.env = (false, eval e X.env) :: starEach es X.env := by rfl) (hpl : (backTo pos (starEach es X.env)).any (·.1) = false := by rfl) :
    PMk X (.Call (.Name x p) (e :: es) [] pos) (tErr C f ta) := by
  obtain ⟨gC, ox, fI, fd, iC, tI, bd, F⟩ := E
  intro pins s σ H Q I h
  refine pmk_oex (k := 1) (dvs := []) (ds := []) ox iC tI F hr bd .nil pass0 hg gC (pa_mono ha) hdb he hpl pins s σ H Q I ⟨_, h, fun vs H1 hv => ?_⟩
  obtain ⟨v, rfl, hb⟩ := hv
  refine ⟨by show 1 ≤ 1000; decide, fun a ha => ⟨a, v, rfl, upd_same, fun dx hdx hne => ⟨rfl, dx, [(f, v)], upd_same, ?_, ?_, ?_⟩⟩⟩
  · rw [upd_ne hne, upd_same]
  · rw [upd_ne hne] at hdx
    exact hdx
  · rw [upd_ne hne] at hdx
    refine hb dx _ (fun b o q => ?_) hdx upd_same
    have n1 : b ≠ dx := ne_of_none q hdx
    have n2 : b ≠ a := ne_of_none q ha
    rw [upd_ne n1, del_ne n2, upd_ne n2, upd_ne n1, upd_ne n2]
    exact q
/-- raise C(e) -/
def tRaise (W : WX) (C : Addr) (f : Str) (ta : TA) : TS := fun _ σ H => tErr C f ta σ H fun cls d H' => W cls d σ H'
theorem ps_raiseE (hc : X.calm = true) (tk : Takes X W) (E : PrErr X.prog X.w X.K X.mg X.base x f C) (hr : Room 2 X.A) (ha : PA X (e :: es) ta) (hg : Gl X x := by rfl)
    (hdb : (x == ("__debug__" : Str)) = false := by decide) (he : starEach (e :: es) X.env = (false, eval e X.env) :: starEach es X.env := by rfl) (hpl : (backTo pos (starEach es X.env)).any (·.1) = false := by rfl) :
    PS X (.Raise (some (.Call (.Name x p) (e :: es) [] pos)) none pos2) (tRaise W C f ta) := ps_raise hc tk (pmk_err E hr ha hg hdb he hpl)
end
/-! ### try, several clauses, each with a name -/
/-- a clause: its class, the slot of its name, its suite -/
abbrev Clause := Value × Nat × (Addr → Value → Option Addr → TS)
def endsAs (D : Ends) (i : Nat) : Ends := { nx := fun σ' H' => D.nx (σ'.set i none) H', rt := D.rt, bk := fun σ' H' => D.bk (σ'.set i none) H', ct := fun σ' H' => D.ct (σ'.set i none) H' }
def wEach (K : PySem.W.Frag) (Wout : WX) (D : Ends) : List Clause → WX
  | [] => Wout
  | c :: r => fun cls d σ H => (PySem.W.exmOne K cls c.1 = some true ∧ ∀ a, H a = none → c.2.2 a cls d (endsAs D c.2.1) (σ.set c.2.1 (some (.ref a))) H) ∨ (PySem.W.exmOne K cls c.1 = some false ∧ wEach K Wout D r cls d σ H)
inductive Each (X : Cx) : List ExceptHandler → List Clause → Prop
  | nil : Each X [] []
  | cons {x n : Str} {c : Value} {i : Nat} {ts : Addr → Value → Option Addr → TS} {b₀ : Stmt} {suite : List Stmt} {np pos' : Pos} {hds : List ExceptHandler} {l : List Clause} (hi : X.N[i]? = some n) (hln : X.env.kindOf n = some .local) (hc : Names X x c)
      (hsu : ∀ (a : Addr) (oe : Obj) (cls : Value) (d : Option Addr) (pn : List (Addr × Obj)), Zc cls d oe → (∃ vs, oe.data = .fields vs) → PSs (X.suite a ((a, oe) :: pn)) (b₀ :: suite) (ts a cls d)) (r : Each X hds l) :
      Each X (.ExceptHandler (some (.Name x np)) (some n) (b₀ :: suite) pos' :: hds) ((c, i, ts) :: l)
section
variable {X : Cx} {pins : List (Addr × Obj)} {σ : L2.St} {H : Hp} {a : Addr} {cls : Value} {d : Option Addr} {B : Heap} {sI : Shared} {Wout : WX} {D : Ends}
/-- the exception, held by the frame that looks at it, is offered to the clauses -/
theorem offered (hs : X.stack = X.env :: X.outer) (hf : X.env.frame = some X.env.locals) (hN : X.N.Nodup) (tk : Takes X Wout) (nb : ∀ b o, sI.heap.get? b = some o → b ∉ frs X.stack → B.get? b = some o) (J : Inv X pins σ H sI) (na : H a = none) :
    ∀ {hds : List ExceptHandler} {l : List Clause} {s : Shared}, Each X hds l → HandSPX.FlyingZ B (X.env :: X.outer) a (Zc cls d) s.heap → sI.heap.UpToSlots s.heap → s.os = sI.os → AllBare s.gens → wEach X.K Wout D l cls d σ H →
      wpAny (model X.prog X.w) X.A (handleBy (.ref a) X.env hds) (SP X pins D) X.xe s := by
  intro hds l s hk
  induction hk with
  | nil =>
    intro fl up os ag w
    obtain ⟨_, _, _, oe, vs, T, oT, ts, he, hz, hd, h1, hr⟩ := id fl
    refine wpAny_handleBy_nil ?_
    unfold PySem.passOn
    refine wpAny_bind (wpAny_field he hd h1 ?_)
    rw [if_neg (by simp : ¬ ((Value.ref T == Value.none) = true))]
    have out : wpAny (model X.prog X.w) X.A (setFlight (.ref a) X.env.frame) (fun _ s2 => wpAny (model X.prog X.w) X.A (throw (.ref a) : Sem Flow) (SP X pins D) X.xe s2) X.xe s := by
      rw [hf]
      obtain ⟨hp, g, dr, t, o⟩ := s
      refine HandSPX.setFlight_upZ fl fun h4 hh up4 => wpAny_throw (tk _ _ ⟨a, B, sI, pins, σ, H, cls, d, rfl, J, nb, up.trans up4, .inr (.inr (by rw [hs]; exact hh)), na, os, ag, w⟩)
    first
      | exact wpAny_bind (wpAny_pure (wpAny_bind out))
      | exact wpAny_bind out
  | @cons x n c i ts b₀ suite np pos' hds2 l2 hi hln hc hsu r ih =>
    intro fl up os ag w
    obtain ⟨hp, g, dr, t, o⟩ := s
    have J0 : Inv X pins σ H ⟨hp, g, dr, t, o⟩ := J.landed nb fl.1 up os ag
    -- where the exception stands: no frame
    have apart : ∀ {h : Heap}, HandSPX.FlyingZ B (X.env :: X.outer) a (Zc cls d) h → a ≠ X.env.locals ∧ a ∉ X.fs := fun {h} f => by
      obtain ⟨oe, vs, he, _, hd⟩ := f.there
      have nf : a ∉ frs (X.env :: X.outer) := fun hm => by
        obtain ⟨_, o', e', hn⟩ := f.2.2.1.mem hm
        rw [he] at e'
        cases e'
        exact hn _ hd
      refine ⟨fun z => nf (List.mem_filterMap.mpr ⟨X.env, List.mem_cons_self, by rw [hf, z]⟩), fun hm => ?_⟩
      obtain ⟨e, he', q⟩ := List.mem_filterMap.mp hm
      exact nf (List.mem_filterMap.mpr ⟨e, List.mem_cons_of_mem _ he', q⟩)
    obtain ⟨oe, vs, he, hz, hd⟩ := fl.there
    obtain ⟨nL, nF⟩ := apart fl
    have S0 := J0.suite he hd na nL nF
    refine wpAny_handleBy_cons (codeAny_handlers_test ?_) (by intro q; cases q)
    have LT : PySem.W.Looks (model X.prog X.w) hp (typeOf (.ref a)) cls := fun _ _ _ _ k q => wpAny_typeOf_ref (k _ _ he) (by rw [hz.1]; exact q)
    have named : ∀ {Q : Value → Shared → Prop} {E : Value → Shared → Prop}, Q c ⟨hp, g, dr, t, o⟩ → wpAny (model X.prog X.w) (X.A.mark (some (.ref a))) (eval (.Name x np) X.env) Q E ⟨hp, g, dr, t, o⟩ := fun {Q E} q => by
      obtain ⟨hg, hdb, hm | ⟨hm, hv, hnn⟩⟩ := hc
      · exact ld_glob (X := X.suite a ((a, oe) :: (X.pn ++ pins))) S0 hg hm q hdb
      · exact ld_blt (X := X.suite a ((a, oe) :: (X.pn ++ pins))) S0 hg hm hv q hnn hdb
    rcases w with ⟨hb, hyes⟩ | ⟨hb, hno⟩
    · have LM := PySem.W.exm_one (M := model X.prog X.w) J0.kIn LT hb
      refine named (LM.here (codeAny_handlers_suite_as (HandSPX.lands_againZ fl fun h2 fl2 up2 => ?_)))
      have J2 : Inv X pins σ H ⟨h2, g, dr, t, o⟩ := J.landed nb fl2.1 (up.trans up2) os ag
      obtain ⟨oe2, vs2, he2, hz2, hd2⟩ := fl2.there
      have S2 := J2.suite he2 hd2 na nL nF
      refine store_ok (X := X.suite a ((a, oe2) :: (X.pn ++ pins))) (v := .ref a) S2 hN hi (.inl hln) rfl (fun s5 S5 => ?_) (.inr hln)
      refine wpAny_mono ((hsu a oe2 cls d (X.pn ++ pins) hz2 ⟨_, hd2⟩).run [] s5 _ H _ S5 (hyes a na)) (fun f s6 q6 => ?_) (fun _ _ z => z.elim)
      have gone : ∀ {σ6 : L2.St} {H6 : Hp} {Q : Shared → Prop}, Inv (X.suite a ((a, oe2) :: (X.pn ++ pins))) [] σ6 H6 s6 → (∀ s7, Inv X pins (σ6.set i none) H6 s7 → Q s7) →
          wpAny (model X.prog X.w) X.A (do bindName X.env n .none; unbindBehindTheSuite X.env n pos') (fun _ s7 => Q s7) X.xe s6 := fun S6 k => gone_ok (S6.unsuite J2.ok) hN hi hln k
      match f, q6 with
      | .next, ⟨_, _, S6, q⟩ => exact gone S6 fun s7 J7 => ⟨_, _, J7, q⟩
      | .brk, ⟨_, _, S6, q⟩ => exact gone S6 fun s7 J7 => ⟨_, _, J7, q⟩
      | .cont, ⟨_, _, S6, q⟩ => exact gone S6 fun s7 J7 => ⟨_, _, J7, q⟩
      | .ret u, ⟨_, _, _, S6, rv, q⟩ => exact gone S6 fun s7 J7 => ⟨_, _, _, J7, rv, q⟩
    · have LM := PySem.W.exm_one (M := model X.prog X.w) J0.kIn LT hb
      refine named (LM.here ?_)
      show wpAny _ X.A (handleBy (.ref a) X.env hds2) _ _ _
      exact ih fl up os ag hno
end
section
variable {X : Cx} {body : List Stmt} {h₀ : ExceptHandler} {hds : List ExceptHandler} {l : List Clause} {pos : Pos} {tb : WX → TS} {Wout : WX}
/-- try: body / except x as n: .. / except y as m: .. -/
theorem ps_try_each (hs : X.stack = X.env :: X.outer) (hf : X.env.frame = some X.env.locals) (hN : X.N.Nodup) (tk : Takes X Wout)
    (hb : ∀ (W : WX) (pn : List (Addr × Obj)) (xe : Value → Shared → Prop), Takes (X.tr pn xe) W → PassesOwn (model X.prog X.w) X.A X.env xe → PSs (X.tr pn xe) body (tb W))
    (hh : Each X (h₀ :: hds) l) : PS X (.Try body (h₀ :: hds) [] [] pos) (fun D σ H => tb (wEach X.K Wout D l) D σ H) := by
  refine ⟨fun pins s σ H D I h => ?_⟩
  have ok := I.ok
  have hfr : X.A.frames = some (X.env :: X.outer) := by rw [ok.frames, hs]
  have run := fun (xe : Value → Shared → Prop) (tk' : Takes (X.tr (X.pn ++ pins) xe) (wEach X.K Wout D l)) (po : PassesOwn (model X.prog X.w) X.A X.env xe) => (hb _ (X.pn ++ pins) xe tk' po).run [] s σ H D (I.toTry _) h
  refine wpAny_Try_except (wpAny_mono (run (fun e s₁ => wpAny (model X.prog X.w) X.A (noteFrame e X.env) (fun _ s₂ => wpAny (model X.prog X.w) X.A (setFlight e none) (fun _ s₃ => wpAny (model X.prog X.w) X.A (handleBy e X.env (h₀ :: hds)) (SP X pins D) X.xe s₃) X.xe s₂) X.xe s₁)
    (fun u s' air => ?_) PassesOwn.looking) (fun f s1 q => ?_) fun e s1 he => he)
  · obtain ⟨a, B, sI, pins', σ', H', cls, d, rfl, J', nb, up, sky, na, os, ag, w⟩ := air
    have sky' : Sky B (X.env :: X.outer) a (Zc cls d) X.env.locals s'.heap := by rw [← hs]; exact sky
    exact Sky.land Zc.steady hfr hf sky' fun h3 fl3 up3 => offered (s := { s' with heap := h3 }) hs hf hN tk nb (J'.ofTry ok) na hh fl3 (up.trans up3) os ag w
  · match f, q with
    | .next, ⟨σ', H', J', q⟩ => exact wpAny_execs_nil ⟨σ', H', J'.ofTry ok, q⟩
    | .brk, ⟨σ', H', J', q⟩ => exact ⟨σ', H', J'.ofTry ok, q⟩
    | .cont, ⟨σ', H', J', q⟩ => exact ⟨σ', H', J'.ofTry ok, q⟩
    | .ret u, ⟨v, σ', H', J', rv, q⟩ => exact ⟨v, σ', H', J'.ofTry ok, rv, q⟩
end
end Z
namespace Z
open PySem PySem.Spec PyProof.Rows L2
/-! ### repr of any value -/
def kD : Key → PyData
  | .inl i => .int i
  | .inr x => .str x
inductive Sh (K : PySem.W.Frag) (H : Hp) : V → PyData → Prop
  | of {v : V} {d : PyData} (h : Dp K H v d) (nd : d.hasDict = false) : Sh K H v d
  | emp {a : Addr} (h : H a = some (.dK [])) : Sh K H (.ref a) (.dict [])
  | one {a : Addr} {k : Key} {i : Int} (h : H a = some (.dK [(k, .int i)])) : Sh K H (.ref a) (.dict [(kD k, .int i)])
def rShow (K : PySem.W.Frag) : List V → Hp → VK → Prop := fun xs H Q => ∃ (v : V) (d : PyData), xs = [v] ∧ Sh K H v d ∧ d.showable = true ∧ d.depth ≤ 60 ∧ d.shown.length ≤ sizeLine ∧ Q (.str d.shown) H
section
variable {X : Cx}
theorem call_show (hgd : X.A.guards = some []) (hu : X.A.units + 64 < cLine) : CallR X (.builtin "repr") (rShow X.K) := by
  intro pins s σ H xs us Q I r h
  obtain ⟨v, d, ex, hd, sh, dp, hz, q⟩ := h
  subst ex
  obtain ⟨u, eu, rx⟩ := vals1 r
  subst eu
  have shown : ∀ {a : Addr} {as : List Addr}, Reads s.heap (.ref a) d as → (d.hasDict = true → sysModules ∉ as) → wpAny (model X.prog X.w) X.A (call (.builtin "repr") [.ref a]) (EP X pins σ Q) X.xe s := fun rd nm =>
    repr_of_reads' rd sh nm hgd (by omega) (fun _ _ e => e) (fun h' t tk hk => ⟨.str d.shown, H, I.kept (t' := tk) hk, ⟨t, rfl⟩, q⟩) hz
  have isDict : ∀ {a : Addr} {kvs : List (Key × V)}, H a = some (.dK kvs) → (a == sysModules) = false ∧ ∃ vs, KV kvs vs ∧ s.heap.DictOf (mixKind X.prog X.w) a vs := fun e => (dk_of I.hok e).2
  cases hd with
  | of h nd =>
    have hr : ∀ a, v = .ref a → ∃ as, Reads s.heap (.ref a) d as := fun a e => by
      subst e
      obtain ⟨as, r2⟩ := Dp.reads I d _ _ h rx
      cases rx
      exact ⟨as, r2⟩
    cases h with
    | non =>
      cases rx
      simp only [PyData.shown] at q
      exact PySem.P.repr_of_none ⟨.str _, H, I.tok _, ⟨_, rfl⟩, q⟩
    | bl b =>
      cases rx
      simp only [PyData.shown] at q
      exact PySem.P.repr_of_bool ⟨.str _, H, I.tok _, ⟨_, rfl⟩, q⟩
    | int i =>
      obtain ⟨t, rfl⟩ := rx
      simp only [PyData.shown] at q
      exact PySem.P.repr_of_int (by simpa [PyData.showable] using sh) ⟨.str _, H, I.tok _, ⟨_, rfl⟩, q⟩
    | str x =>
      obtain ⟨t, rfl⟩ := rx
      simp only [PyData.shown] at q hz
      exact PySem.P.repr_of_str ⟨.str _, H, I.tok _, ⟨_, rfl⟩, q⟩ hz
    | lst hs ha =>
      cases rx
      obtain ⟨as, r2⟩ := hr _ rfl
      exact shown r2 fun z => by rw [nd] at z; cases z
    | tup hs ha =>
      cases rx
      obtain ⟨as, r2⟩ := hr _ rfl
      exact shown r2 fun z => by rw [nd] at z; cases z
  | @emp a h =>
    cases rx
    obtain ⟨hne, vs, kv, o, es, ep, ho, hx, hdat, _, pr, _⟩ := isDict h
    cases kv
    have e0 : es.toList = [] := by
      cases he : es.toList with
      | nil => rfl
      | cons x l => rw [he] at pr; cases pr
    have rd : Reads s.heap (.ref a) (.dict []) (a :: [] ++ []) := Reads.dict ho hx.1 hdat (by rw [e0]; exact .nil) (by rw [e0]; exact .nil)
    exact shown rd fun _ hm => by
      simp at hm
      rw [hm] at hne
      simp at hne
  | @one a k i h =>
    cases rx
    obtain ⟨hne, vs, kv, o, es, ep, ho, hx, hdat, _, pr, _⟩ := isDict h
    cases kv with
    | cons h1 h2 =>
      cases h2
      obtain ⟨e1, rv⟩ := h1
      obtain ⟨t, rv⟩ := rv
      rename_i q' _
      obtain ⟨k', v'⟩ := q'
      dsimp only at e1 rv
      subst e1 rv
      generalize hl : es.toList = l at pr
      cases pr with
      | cons hk hv hr =>
        cases hr
        rename_i e
        have rk : Reads s.heap e.key (kD k) [] := by
          rcases keyIs_shape hk with ⟨j, u, rfl, e2⟩ | ⟨y, u, rfl, e2⟩
          · rw [e2]; exact .int j u
          · rw [e2]; exact .str y u
        have rv : Reads s.heap e.val (.int i) [] := by rw [hv]; exact .int i t
        have rd : Reads s.heap (.ref a) (.dict [(kD k, .int i)]) (a :: ([] ++ []) ++ ([] ++ [])) := Reads.dict ho hx.1 hdat (by rw [hl]; exact .cons rk .nil) (by rw [hl]; exact .cons rv .nil)
        exact shown rd fun _ hm => by
          simp at hm
          rw [hm] at hne
          simp at hne
end
/-! ### isinstance of the error that a suite holds -/
structure IsExc (K : PySem.W.Frag) (C : Addr) : Prop where
  ok : (PySem.W.clsIn K C).isSome = true
  xf : XfC K C
  ha : PySem.W.findIn K (.ref C) "__class__" = some (some (.builtin "object.__class__"))
  hn : PySem.W.specialIn K (.builtin "object.__class__") "__get__" = some (some (.builtin "getset_descriptor.__get__"))
  ht : PySem.W.takesIn K (.builtin "object.__class__") = some true
  hm : PySem.W.mroIn K C (.type "object") = some true
def rIsX (K : PySem.W.Frag) (D a : Addr) (cls : Value) (d : Option Addr) : List V → Hp → VK → Prop := fun xs H Q => ∃ (c : V) (cv : Value) (dd : Addr) (fs : List (Str × V)) (b : Bool), xs = [.ref a, c] ∧ (∀ u, RelV c u → u = cv) ∧ cls = .ref D ∧ d = some dd ∧ H dd = some (.xd fs) ∧ PySem.W.kitOne K (.ref D) cv = some b ∧ Q (.bl b) H
theorem call_isX {X : Cx} {a D : Addr} {cls : Value} {d : Option Addr} {oe : Obj} {pn : List (Addr × Obj)} (C : IsExc X.K D) (hz : Zc cls d oe) (hf : ∃ vs, oe.data = .fields vs) : CallR (X.suite a ((a, oe) :: pn)) (.builtin "isinstance") (rIsX X.K D a cls d) := by
  intro pins s σ H xs us Q I r h
  obtain ⟨c, cv, dd, fs, b, rfl, hcv, ec, ed, hx, e, q⟩ := h
  subst ec ed
  obtain ⟨hga, _⟩ := I.pin (a, oe) (List.mem_append_left _ List.mem_cons_self)
  obtain ⟨vs, hv⟩ := hf
  have ob : ObjOk X.prog X.w H s.heap dd (.xd fs) := I.hok dd _ hx
  obtain ⟨mA, hns, _⟩ := ob
  obtain ⟨od, ho, _⟩ := lookIn_ns hns
  have J : PySem.W.InstAt s.heap a oe D (some od) := ⟨hga, hz.1, by unfold PySem.W.notCls; rw [hv] <;> rfl, by rw [hz.2]; exact ho⟩
  match us, r with
  | [_, u], .cons rx (.cons rt .nil) =>
    cases rx
    obtain rfl := hcv _ rt
    exact PySem.W.kia_one (PySem.W.kitx_exc C.ok C.xf.ga C.xf.gg C.xf.exC C.ha C.hn C.ht C.hm) I.kIn J e (fun z => nomatch z) fun tk => ⟨.bl b, H, I.kept (t' := tk) fun _ _ z => z, rfl, q⟩
end Z
/-! sorted of a tuple of pairs of ints; sorted of a dict whose keys are texts. -/
namespace Z
open PySem PySem.Spec L2 PyProof.Rows
theorem refs_vals {α : Type} (f : α → Addr) : ∀ {L : List α} {its : List Value}, Vals (L.map fun z => V.ref (f z)) its → its = L.map fun z => Value.ref (f z)
  | [], _, .nil => rfl
  | z :: L, its, r => by
    cases r with
    | cons h t =>
      rename_i u us
      obtain rfl : u = Value.ref (f z) := h
      rw [refs_vals f t, List.map_cons]
/-- the pair of ints at a value's address -/
def kOf (h : Heap) : Value → Int × Int
  | .ref a => match h.get? a with
    | some o => match o.data with
      | .seq xs _ => match xs.toList with
        | [.int x _, .int y _] => (x, y)
        | _ => (0, 0)
      | _ => (0, 0)
    | none => (0, 0)
  | _ => (0, 0)
theorem kOf_of {h : Heap} {v : Value} {x y : Int} (p : Srt.IsPair h v x y) : kOf h v = (x, y) := by
  obtain ⟨a, o, t, u, n, rfl, ho, hc, hd⟩ := p
  show (match h.get? a with
    | some o => match o.data with
      | .seq xs _ => match xs.toList with
        | [.int x _, .int y _] => (x, y)
        | _ => (0, 0)
      | _ => (0, 0)
    | none => (0, 0)) = (x, y)
  rw [ho]
  show (match o.data with
      | .seq xs _ => match xs.toList with
        | [.int x _, .int y _] => (x, y)
        | _ => (0, 0)
      | _ => (0, 0)) = (x, y)
  rw [hd]
section
variable {X : Cx}
def rSortedTP (K : PySem.W.Frag) : List V → Hp → VK → Prop := fun vs H Q => ∃ (a : Addr) (L : List (Addr × (Int × Int))), vs = [V.ref a] ∧ SqT K H a (L.map fun z => V.ref z.1) ∧ (∀ z ∈ L, SqT K H z.1 [.int z.2.1, .int z.2.2]) ∧
  ∀ (L' : List (Addr × (Int × Int))) (p : Addr), L'.Perm L → L'.Pairwise (fun z w => SrtO.lexB w.2 z.2 = false) → H p = none → Q (.ref p) (upd H p (.lst (L'.map fun z => V.ref z.1)))
theorem cr_sortedTP : CallR X (.builtin "sorted") (rSortedTP X.K) := by
  intro pins s σ H vs us Q I r q
  obtain ⟨a, L, rfl, hs, hp, q⟩ := q
  obtain ⟨its, rv, ⟨o, ho, hc, n, hd⟩, hz⟩ := I.tuple hs
  obtain rfl := refs_vals _ rv
  rw [Vals.ref1 r]
  have hP : ∀ z ∈ L, Srt.IsPair s.heap (.ref z.1) z.2.1 z.2.2 := fun z m => by
    obtain ⟨js, rj, ⟨oz, h1, h2, n2, h3⟩, _⟩ := I.tuple (hp z m)
    obtain ⟨u1, u2, rfl, ri, rk⟩ := vals2 rj
    obtain ⟨t1, rfl⟩ := ri
    obtain ⟨t2, rfl⟩ := rk
    exact ⟨_, oz, t1, t2, n2, rfl, h1, h2, h3⟩
  have hk : ∀ z ∈ L, kOf s.heap (.ref z.1) = z.2 := fun z m => kOf_of (hP z m)
  have hz' : (L.map fun z => Value.ref z.1).length ≤ sizeLine := by
    rw [List.length_map] at hz ⊢
    exact hz
  refine
    Calls.call_function_entry PyProof.Rows.kind_sorted
      PyProof.Rows.plain_sorted PyProof.Rows.entry_sorted
      (PyProof.Rows.args_sorted1 _) ?_
  unfold Builtin.«sorted»
  refine wpAny_bind (m := checkCount "sorted" 1 1 _)
    (wpAny_pure ?_)
  refine wpAny_bind (wpAny_collect_seq a (.inr rfl) ho hc hd (fun h' kp => ?_) (by rw [List.size_toArray]; exact hz'))
  refine wpAny_bind (wpAny_newList ?_ hz')
  have oL : (h'.push (seqObj "list" (L.map fun z => Value.ref z.1).toArray 0)).get? h'.objs.size = some (seqObj "list" (L.map fun z => Value.ref z.1).toArray 0) := Heap.get?_push_size _ rfl
  have kp2 : ∀ b u, s.heap.get? b = some u → (h'.push (seqObj "list" (L.map fun z => Value.ref z.1).toArray 0)).get? b = some u := fun b u e => Heap.get?_push_of_some _ (kp b u e)
  have I1 : L2.Inv X pins σ H { s with heap := h', toks := s.toks } := I.kept kp
  show wpAny _ _ _ _ _ { s with heap := h'.push (seqObj "list" (L.map fun z => Value.ref z.1).toArray 0) }
  have pairs : ∀ v ∈ L.map (fun z => Value.ref z.1), Srt.IsPair (h'.push (seqObj "list" (L.map fun z => Value.ref z.1).toArray 0)) v (kOf s.heap v).1 (kOf s.heap v).2 := fun v m => by
    obtain ⟨z, mz, rfl⟩ := List.mem_map.mp m
    rw [hk z mz]
    exact (hP z mz).keeps fun b u e _ => kp2 b u e
  refine wpAny_bind (wpAny_holding (wpAny_call_entry PyProof.Rows.slot_list_sort ⟨_, oL, rfl⟩
    PyProof.Rows.entry_list_sort
    (SrtO.list_sort_ord (SrtO.swo_lex (kOf s.heap)) oL hz' (fun h2 => SrtO.pairs_sortableO (by omega) pairs fun u e c => ?_) fun out g1 g2 => ⟨_, rfl, ?_⟩)
    (PyProof.Rows.args_list_sort _)))
  · rw [oL] at e
    cases e
    exact absurd (Value.type.inj c) (by decide)
  obtain ⟨L', g3, g4⟩ := perm_lift (fun z : Addr × (Int × Int) => Value.ref z.1) g2.perm L rfl
  subst g4
  obtain ⟨ep, eo⟩ := PyProof.Rows.sortedHeap_at (vs := L.map fun z => Value.ref z.1) (out := (L'.map fun z => Value.ref z.1).toArray) oL
  have hl' : (L'.map fun z => V.ref z.1).length ≤ sizeLine := by
    rw [List.length_map, g3.length_eq]
    rw [List.length_map] at hz'
    exact hz'
  have rl : Vals (L'.map fun z => V.ref z.1) (L'.map fun z => Value.ref z.1) := vals_maps (fun z : Addr × (Int × Int) => V.ref z.1) (fun z => Value.ref z.1) L' fun z _ => rfl
  refine wpAny_pure ⟨_, rfl, .ref h'.objs.size, upd H h'.objs.size (.lst (L'.map fun z => V.ref z.1)), I1.laid (t' := s.toks) (fun b u e => ?_) (Nat.le_refl _)
    (show ObjOk X.prog X.w _ _ _ (.lst (L'.map fun z => V.ref z.1)) from ⟨hl', _, ep, rl, eo⟩), rfl, q L' _ g3 ?_ (I1.hok.fresh (Nat.le_refl _))⟩
  · have hb : b < h'.objs.size := Heap.lt_size e
    rw [PyProof.Rows.sortedHeap_old (Nat.ne_of_lt hb) (by
      rw [size_push']
      exact Nat.lt_succ_of_lt hb)]
    exact Heap.get?_push_of_some _ e
  · have g5 := List.pairwise_map.mp g1
    refine g5.imp_of_mem fun {z w} mz mw e => ?_
    dsimp only at e
    rw [hk w (g3.mem_iff.mp mw), hk z (g3.mem_iff.mp mz)] at e
    exact e
/-- sorted(d), d with fewer than 64 keys, all texts -/
def rSortedDS : List V → Hp → VK → Prop := fun xs H Q => ∃ (a : Addr) (kvs : List (Key × V)) (ks : List Str), xs = [.ref a] ∧ Rd H a (.dK kvs) ∧ kvs.map (·.1) = ks.map Sum.inr ∧ ks.length < 64 ∧
  ∀ (ys : List Str) (p : Addr), ys.Perm ks → sortedS ys = true → H p = none → Q (.ref p) (upd H p (.lst (ys.map V.str)))
theorem cr_sortedDS (hcalm : X.calm = true) : CallR X (.builtin "sorted") rSortedDS := by
  intro pins s σ H xs us Q I r q
  obtain ⟨a, kvs, ks, rfl, hd, hks, h64, q⟩ := q
  rw [Vals.ref1 r]
  obtain ⟨z, lo, vs, rel, dd⟩ := dk_rd I.hok hd
  obtain ⟨ep, hat⟩ := dd.dictAt
  have keys : vs.map (·.1) = ks.map Sum.inr := by rw [← hks]; exact rel.keys.symm
  have len : vs.length = ks.length := by simpa using congrArg List.length keys
  refine
    Calls.call_function_entry PyProof.Rows.kind_sorted
      PyProof.Rows.plain_sorted PyProof.Rows.entry_sorted
      (PyProof.Rows.args_sorted1 _) ?_
  unfold Builtin.«sorted»
  refine wpAny_bind (m := checkCount "sorted" 1 1 _)
    (wpAny_pure ?_)
  refine wpAny_bind (PySem.W.kdu_collect (A := X.A.in1)
    (PySem.W.kdl_dict (knd := mixKind X.prog X.w) (kvs := vs) (ep := ep) lo) (I.ok.hd hcalm) hat
    (by rw [len, sizeLine_eq]; omega) fun h' tk acc hk hacc => ?_)
  have al : acc.toList.length = ks.length := by rw [Array.length_toList, hacc.1, len]
  have rv : Vals (ks.map V.str) acc.toList := by
    have each : ∀ (j : Nat) (v : Value), acc.toList[j]? = some v → ∃ (x : Str) (t : Tok), ks[j]? = some x ∧ v = .str x t := fun j v e => by
      obtain ⟨k, x, e1, e2⟩ := hacc.2 j v (by rw [← Array.getElem?_toList]; exact e)
      have e3 : (ks.map (Sum.inr : Str → Key))[j]? = some k := by rw [← keys, List.getElem?_map, e1]; rfl
      rw [List.getElem?_map] at e3
      cases e4 : ks[j]? with
      | none => rw [e4] at e3; cases e3
      | some y =>
        rw [e4] at e3
        obtain rfl : Sum.inr y = k := Option.some.inj e3
        rcases keyIs_shape (show keyIs (Sum.inr y) v = true from e2) with ⟨i, t, ek, ev⟩ | ⟨w, t, ek, ev⟩
        · cases ek
        · cases ek
          exact ⟨y, t, rfl, ev⟩
    revert each al
    generalize acc.toList = vals
    intro al each
    clear hks h64 q keys len hacc
    induction ks generalizing vals with
    | nil =>
      cases vals with
      | nil => exact .nil
      | cons _ _ => cases al
    | cons k ks ih =>
      cases vals with
      | nil => cases al
      | cons v vals =>
        obtain ⟨x, t, e1, rfl⟩ := each 0 v rfl
        obtain rfl : k = x := Option.some.inj e1
        exact .cons ⟨t, rfl⟩ (ih vals (Nat.succ.inj al) fun j u e => each (j + 1) u e)
  have I1 : L2.Inv X pins σ H { s with heap := h', toks := tk } := I.kept hk
  have zl : (ks.map V.str).length ≤ sizeLine := by
    rw [List.length_map, sizeLine_eq]
    omega
  refine wpAny_bind (wpAny_newList ?_ (by rw [al, sizeLine_eq]; omega))
  have oL : (h'.push (seqObj "list" acc.toList.toArray 0)).get? h'.objs.size = some (seqObj "list" acc.toList.toArray 0) := Heap.get?_push_size _ rfl
  have hS := rv.strs
  show wpAny _ _ _ _ _ { s with heap := h'.push (seqObj "list" acc.toList.toArray 0), toks := tk }
  refine wpAny_bind (wpAny_holding (wpAny_call_entry slot_list_sort ⟨_, oL, rfl⟩ entry_list_sort
    (list_sort_treeK strKind_oneLt oL hS.keysOf (fun _ _ _ e => keyKind_strs (by
      rw [← e]
      exact hS)) (by rw [al]; exact h64) fun st' g1 g2 => ⟨_, rfl, ?_⟩)
    (args_list_sort _)))
  obtain ⟨ys, g3, g4, g5⟩ := sorted_out_str hS g1 g2
  obtain ⟨ep2, eo⟩ := sortedHeap_at (vs := acc.toList) (out := (arrOf st').map (·.2)) oL
  have yl : (ys.map V.str).length ≤ sizeLine := by
    rw [List.length_map, g4.length_eq, sizeLine_eq]
    omega
  refine wpAny_pure ⟨_, rfl, .ref h'.objs.size, upd H h'.objs.size (.lst (ys.map V.str)), I1.laid (t' := tk) (fun b u e => ?_) (Nat.le_refl _)
    (show ObjOk X.prog X.w _ _ _ (.lst (ys.map V.str)) from ⟨yl, ((arrOf st').map (·.2)).toList, ep2, vals_of_strs g3, by rw [Array.toArray_toList]; exact eo⟩), rfl, q ys _ g4 g5 (I1.hok.fresh (Nat.le_refl _))⟩
  have hb : b < h'.objs.size := Heap.lt_size e
  rw [sortedHeap_old (Nat.ne_of_lt hb) (by
    rw [size_push']
    exact Nat.lt_succ_of_lt hb)]
  exact Heap.get?_push_of_some _ e
end
end Z
/-! set(l) of a list of ints. -/
namespace Z
open PySem PySem.Spec L2 PyProof.Rows
abbrev freshSet (w : World) : Obj := Obj.mk (.type "set") none (.set #[] 0 (.fresh 0 0 (!w.params.followText "set-order"))) #[]
section
variable {P : Program} {w : World} {A : Around} {E : Value → Shared → Prop} {s : Shared}
/-- what set(l) leaves at the new set's address -/
def SetMade (w : World) (s : Shared) (ns : List Int) (Q : Value → Shared → Prop) : Prop := ∀ (h' : Heap) (tk c : Nat),
  SetR w h' s.heap.objs.size (fun j => decide (j ∈ ns)) c → c ≤ ns.length →
  (∀ b o, s.heap.get? b = some o → h'.get? b = some o) → Q (.ref s.heap.objs.size) { s with heap := h', toks := tk }
theorem set_of_list {l : Addr} {items : Array Value} (ns : List Int) {Q : Value → Shared → Prop} (hh : A.handled = none)
    (hl : s.heap.IsList l items) (hit : IntsAre items.toList ns) (hb : ns.length + 1 < scanBound) (h : SetMade w s ns Q) :
    wpAny (model P w) A (call (.type "set") [.ref l]) Q E s := by
  have size : items.size = ns.length := by
    rw [← Array.length_toList]
    exact IntsAre.length hit
  obtain ⟨cc, tt, hmro⟩ := F.called_set.mro
  have m1 := F.called_set.made
  have m2 := F.called_set.sub
  refine wpAny_call (codeAny_of_tree ?_)
  show wpAny _ _ (callAny (.type "set") _) _ _ _
  refine wpAny_pure ⟨Code.quiet_builtin _ (by decide +kernel),
    codeAny_builtin F.entry_type_call ?_⟩
  rw [Around.under_plain (weight_type_call_type "set" [.ref l] [])
    rfl]
  have m3 := F.called_set.notType
  have m4 := F.called_set.canCreate
  have m5 := F.typeCall_set_1 (.ref l)
  repeat
    (any_goals (first | assumption | wp_step))
  refine codeAny_mono (code_set_led1 (.ref l) (E := E)
    (Q₁ := fun obj s₁ => obj = .ref s.heap.objs.size ∧ s₁ = { s with heap := s.heap.push (freshSet w) }) ⟨rfl, rfl⟩)
    fun r s₁ hr => ?_
  cases r with
  | error e => exact hr
  | ok fl =>
    cases fl with
    | ret obj =>
      obtain ⟨rfl, rfl⟩ := hr
      have oS : (s.heap.push (freshSet w)).get? s.heap.objs.size = some (freshSet w) := Heap.get?_push_size _ rfl
      have tS : Shared.TypeIs { s with heap := s.heap.push (freshSet w) } (.ref s.heap.objs.size) "set" := ⟨_, oS, rfl⟩
      have i1 := F.called_set.init.lookup
      have i2 := F.called_set.init.bind (.ref s.heap.objs.size)
      repeat
        (any_goals (first | assumption | wp_step))
      refine codeAny_mono (codeAny_call_builtin
        (R := wants (fun r s₂ => r = .none ∧ ∃ h' tk c, s₂ = { s with heap := h', toks := tk } ∧
          SetR w h' s.heap.objs.size (fun j => decide (j ∈ ns)) c ∧ c ≤ ns.length ∧ ∀ b o, s.heap.get? b = some o → h'.get? b = some o) E)
        F.called_set.init.plain F.entry_set_init (check_set_init_1 tS ?_)) fun r₂ s₂ hr₂ => ?_
      · have lS : l < s.heap.objs.size := by
          obtain ⟨_, z, _⟩ := hl
          exact Heap.lt_size z
        obtain ⟨⟨ocls, odict, odata, oslots⟩, g1, g2, n2, g3⟩ := hl
        dsimp only at g2 g3
        subst g2
        subst g3
        have g4 : (s.heap.push (freshSet w)).get? l = some { cls := .type "list", dict := odict, data := .seq items n2, slots := oslots } := Heap.get?_push_of_some _ g1
        have b1 := F.sub_list_set
        have b2 := F.sub_list_frozenset
        have b3 : (Value.type "list" == Value.type "dict") = false := by decide
        have g5 : (s.heap.push (freshSet w)).IsList l items := ⟨_, g4, rfl, n2, rfl⟩
        unfold Builtin.«set.__init__» noKeywords Builtin.Frozenset.updateFrom
        generalize keep : pyIter = PI
        wp_walk
        subst keep
        refine wpAny_pyIter_list g5 ?_
        refine wpAny_bind (wpAny_runValue ?_)
        have h3 : A.in1.in1.in1.handled = none := by simp [hh]
        have e1 : (s.heap.push (freshSet w)).objs.size = s.heap.objs.size + 1 := Heap.size_push ..
        have ne1 : l ≠ (s.heap.push (freshSet w)).objs.size := by
          rw [e1]
          exact Nat.ne_of_lt (Nat.lt_succ_of_lt lS)
        have nf : s.heap.objs.size ∉ [(s.heap.push (freshSet w)).objs.size, l] := by
          rw [e1]
          simp only [List.mem_cons, List.not_mem_nil, or_false, not_or]
          exact ⟨Nat.ne_of_lt (Nat.lt_succ_self _), Nat.ne_of_gt lS⟩
        have each : ∀ (i : Nat) (v : Value), items[i]? = some v → ∃ k t, ns[i]? = some k ∧ v = .int k t := fun i v hv => by
          have hi : i < ns.length := by
            rw [← size]
            exact (Array.getElem?_eq_some_iff.mp hv).1
          obtain ⟨t, e⟩ := IntsAre.int_at hit i v (by rw [Array.getElem?_toList]; exact hv)
          refine ⟨ns[i], t, List.getElem?_eq_getElem hi, ?_⟩
          rw [e, List.getD_eq_getElem?_getD, List.getElem?_eq_getElem hi] <;> rfl
        refine set_update_ints ((Walks.list h3 _ l ne1 items).toS) s.heap.objs.size nf ns size hb each (items.size - 0) 0 _ (by omega) (Nat.zero_le _)
          ⟨⟨_, Heap.get?_push_size _ rfl, rfl, rfl⟩, g5.push _⟩ ?start ?done
        case start =>
          exact ⟨0, Nat.le_refl 0, setR_new_at (Heap.get?_push_of_some _ oS)⟩
        case done =>
          intro s' c' hm hc' hS'
          obtain ⟨h', gg, dd, tk', os'⟩ := s'
          obtain rfl : gg = s.gens := hm.gens
          obtain rfl : dd = s.drawn := hm.drawn
          obtain rfl : os' = s.os := hm.os
          show wpAny _ _ _ _ _ _
          refine wpAny_pure ?_
          show wpAny _ _ (ret Value.none) _ _ _
          refine wpAny_pure ⟨rfl, h', tk', c', rfl, hS', by rw [← size]; exact hc', fun b o e => ?_⟩
          have lt : b < s.heap.objs.size := Heap.lt_size e
          refine hm.heap b o ?_ (Heap.get?_push_of_some _ (Heap.get?_push_of_some _ e))
          rw [e1]
          simp only [List.mem_cons, List.not_mem_nil, or_false, not_or]
          exact ⟨Nat.ne_of_lt lt, Nat.ne_of_lt (Nat.lt_succ_of_lt lt)⟩
      · cases r₂ with
        | error e => exact hr₂
        | ok fl₂ =>
          cases fl₂ with
          | ret r =>
            obtain ⟨rfl, h', tk, c', rfl, hS', hc', hk'⟩ := hr₂
            repeat
              (any_goals (first | assumption | wp_step))
            exact h _ _ _ hS' hc' hk'
          | _ => exact hr₂.elim
    | _ => exact hr.elim
end
/-- set(l), l a list of fewer than 64 ints -/
def rSetL (K : PySem.W.Frag) (w : World) : List V → Hp → VK → Prop := fun xs H Q => ∃ (a : Addr) (ns : List Int), xs = [.ref a] ∧ SqL K H a (ns.map V.int) ∧ ns.length < 64 ∧
  ∀ p c, c ≤ ns.length → H p = none → Q (.ref p) (upd H p (SetO w p (fun j => decide (j ∈ ns)) c))
theorem cr_setL {X : Cx} (hc : X.calm = true) : CallR X (.type "set") (rSetL X.K X.w) := by
  intro pins s σ H xs us Q I r q
  obtain ⟨a, ns, rfl, hs, h64, q⟩ := q
  obtain ⟨its, rv, hl, hz⟩ := I.list hs
  rw [Vals.ref1 r]
  refine set_of_list ns (I.ok.hd hc) hl.isList (by simpa using rv.ints) (Nat.lt_trans (Nat.succ_lt_succ h64) (by decide)) fun h' tk c g1 g2 g3 => ?_
  have I1 : L2.Inv X pins σ (upd H s.heap.objs.size (SetO X.w s.heap.objs.size (fun j => decide (j ∈ ns)) c)) { s with heap := h', toks := tk } :=
    I.laid (t' := tk) g3 (Nat.le_refl _) (setO_new g1)
  exact ⟨.ref s.heap.objs.size, _, I1, rfl, q _ c g2 (I.hok.fresh (Nat.le_refl _))⟩
end Z
/-! The law's end for a law that makes lambdas and is called while no repr runs. -/
namespace Z
open PySem PySem.Spec PyProof.Rows L2 LamX
/-- a table of code objects, empty -/
abbrev noTab : Obj := { cls := .none, data := .fields #[] }
abbrev lstO (vs : List Value) : Obj := { cls := .type "list", data := .seq vs.toArray }
/-- what may be tracked at the start: the script, the tables -/
def OnlyT (ts : List Addr) (H : Hp) : Prop := ∀ b, H b = none ∨ b ∈ ts ∨ ∃ o xs, H b = some (.frz o (.lst xs))
theorem law_callGT {P : Program} {w : World} {K : PySem.W.Frag} {mg mb : Str → Option Value} {k : Nat} {fa a : Addr} {cs : List (Addr × Addr)} {fd : FuncData} {x : Str} {sp : Sp} {s₁ : Shared} {vs : List Value} {ns : List Int}
    (KX : K.In s₁.heap) (hns : s₁.heap.Ns mainGlobals mg) (hb : s₁.heap.Ns builtinsNs mb) (hbb : ∀ x : Str, x ≠ "__name__" → mb x = bootBuiltins x) (hlim : s₁.heap.NoLimit) (hg : s₁.gens = #[])
    (hT : ∀ p ∈ cs, s₁.heap.get? p.2 = some noTab) (nT : ∀ p ∈ cs, K.lookup p.2 = none)
    (hC : ∀ p ∈ cs, PySem.W.CodeHd s₁.heap p.1 p.2)
    (hbm : ∃ (bm : Addr) (ob : Obj), mg "__builtins__" = some (.ref bm) ∧ bm ≠ builtinsNs ∧
      s₁.heap.get? bm = some ob ∧ ob.cls = .type "module" ∧ ob.dict = some builtinsNs ∧ ob.data = .plain)
    (ha : s₁.heap.get? a = some (lstO vs)) (hi : IntsAre vs ns) (hl : ns.length ≤ sizeLine) (hr : Room k callerA)
    (F : ∀ base : Heap, K.In base → base.Ns mainGlobals mg → (∀ p ∈ cs, TabB base mg p.1 p.2) → FnG P w K mg base k fa fd [x] sp)
    (hbind : ∀ (s : Shared) (u : Value), BindsTo s fd ⟨[u], []⟩ [(x, u)])
    (hsp : ∀ H : Hp, (∀ p ∈ cs, H p.2 = some (.tbl #[])) → SqL K H a (ns.map V.int) → sp [.ref a] H (fun v _ => v = .bl true) fun _ _ _ => False) :
    codeAny (model P w) callerA (.call (.ref fa) ⟨[.ref a], []⟩)
      (fun r s' => r = .ok (.ret (.bool true)) ∧ OldK s₁.heap s'.heap ∧ s'.os = s₁.os ∧ AllBare s'.gens) s₁ := by
  have rv := vals_ints hi
  have lenV := hi.length
  obtain ⟨ts, hts⟩ : ∃ ts, ts = cs.map (·.2) := ⟨_, rfl⟩
  have tab : ∀ b ∈ ts, ∃ p ∈ cs, p.2 = b := fun b m => by
    rw [hts] at m
    obtain ⟨p, hp, e⟩ := List.mem_map.mp m
    exact ⟨p, hp, e⟩
  have tabO : ∀ b ∈ ts, s₁.heap.get? b = some noTab := fun b m => by
    obtain ⟨p, hp, rfl⟩ := tab b m
    exact hT p hp
  have inT : ∀ p ∈ cs, p.2 ∈ ts := fun p hp => by
    rw [hts]
    exact List.mem_map_of_mem hp
  have aT : a ∉ ts := fun z => by
    have q := tabO a z
    rw [ha] at q
    exact nomatch (show Data.seq vs.toArray _ = Data.fields #[] from congrArg Obj.data (Option.some.inj q))
  suffices core : ∀ H : Hp, (∀ p ∈ cs, H p.2 = some (.tbl #[])) → OnlyT ts H → SqL K H a (ns.map V.int) → HOk P w H s₁.heap →
      (∀ b, H b ≠ none → b = a ∨ b ∈ ts) → (H a ≠ none → K.lookup a = none) →
      codeAny (model P w) callerA (.call (.ref fa) ⟨[.ref a], []⟩)
        (fun r s' => r = .ok (.ret (.bool true)) ∧ OldK s₁.heap s'.heap ∧ s'.os = s₁.os ∧ AllBare s'.gens) s₁ by
    have tbls : Hp := fun b => if b ∈ ts then some (.tbl #[]) else none
    cases hk : K.lookup a with
    | some o =>
      have e := KX a o hk
      rw [ha] at e
      cases e
      refine core (fun b => if b ∈ ts then some (.tbl #[]) else none) (fun p hp => if_pos (inT p hp)) (fun b => ?_) (.inr ⟨_, vs.toArray, _, hk, rfl, rfl, rfl, ?_, by simpa using rv⟩) (fun b u z => ?_) (fun b z => ?_) (fun z => absurd (if_neg aT) z)
      · by_cases m : b ∈ ts
        · exact .inr (.inl m)
        · exact .inl (if_neg m)
      · rw [List.size_toArray, lenV]
        exact hl
      · by_cases m : b ∈ ts
        · cases (if_pos m).symm.trans z
          exact tabO b m
        · cases (if_neg m).symm.trans z
      · by_cases m : b ∈ ts
        · exact .inr m
        · exact absurd (if_neg m) z
    | none =>
      let sc : HO := .frz (lstO vs) (.lst (ns.map V.int))
      refine core (fun b => if b = a then some sc else if b ∈ ts then some (.tbl #[]) else none) (fun p hp => ?_) (fun b => ?_) (.inl (.inr ⟨lstO vs, if_pos rfl⟩)) (fun b u z => ?_) (fun b z => ?_) fun _ => hk
      · exact (if_neg (show ¬ p.2 = a from fun z => aT (z ▸ inT p hp))).trans (if_pos (inT p hp))
      · by_cases e : b = a
        · exact .inr (.inr ⟨_, _, if_pos e⟩)
        · by_cases m : b ∈ ts
          · exact .inr (.inl m)
          · exact .inl ((if_neg e).trans (if_neg m))
      · by_cases e : b = a
        · subst e
          cases (show some sc = some u from (if_pos rfl).symm.trans z)
          exact ⟨ha, by rw [List.length_map]; exact hl, vs, _, rv, ha⟩
        · have z1 := (if_neg e).symm.trans z
          by_cases m : b ∈ ts
          · cases (if_pos m).symm.trans z1
            exact tabO b m
          · cases (if_neg m).symm.trans z1
      · by_cases e : b = a
        · exact .inl e
        · by_cases m : b ∈ ts
          · exact .inr m
          · exact absurd ((if_neg e).trans (if_neg m)) z
  intro H hH hO hS hok hA hK
  have free : ∀ {b : Addr} {o : Obj}, s₁.heap.get? b = some o → (∀ xs n, o.data ≠ .seq xs n) → o.data ≠ .fields #[] → H b = none := fun {b o} e h1 h2 => by
    by_cases z : H b = none
    · exact z
    · rcases hA b z with rfl | m
      · rw [ha] at e
        cases e
        exact (h1 _ _ rfl).elim
      · rw [tabO b m] at e
        cases e
        exact (h2 rfl).elim
  have freeD : ∀ {b : Addr} {o : Obj} {es : Array DictEntry} {ep : Nat}, s₁.heap.get? b = some o → o.data = .dict es ep → H b = none := fun e d =>
    free e (fun xs n z => by rw [d] at z; cases z) (fun z => by rw [d] at z; cases z)
  have nsK : ∀ {b : Addr} {m : Str → Option Value}, s₁.heap.Ns b m → (hidT s₁.heap H).Ns b m := fun n => by
    obtain ⟨o, es, ep, e, d, r⟩ := n
    exact ⟨o, es, ep, hidT_get e (freeD e d), d, r⟩
  have hKb : K.In (hidT s₁.heap H) := fun b o e => hidT_get (KX b o e) (by
    by_cases z : H b = none
    · exact z
    · rcases hA b z with rfl | m
      · rw [hK z] at e
        cases e
      · obtain ⟨p, hp, rfl⟩ := tab b m
        rw [nT p hp] at e
        cases e)
  have hM : Mod K mg (hidT s₁.heap H) := ⟨hKb, nsK hns, ⟨mb, nsK hb, hbb⟩, let ⟨mc, h1, h2⟩ := hlim; ⟨mc, nsK h1, h2⟩⟩
  have TB : ∀ p ∈ cs, TabB (hidT s₁.heap H) mg p.1 p.2 := fun p hp => by
    have isT := hT p hp
    refine ⟨?_, ?_, fun z => ?_⟩
    · obtain ⟨o, us, file, tf, flags, tg, inF, text, tt, e1, r1, r2, r3, rest⟩ := hC p hp
      refine ⟨o, us, file, tf, flags, tg, inF, text, tt, hidT_get e1 (free e1 (fun xs n z => ?_) fun z => ?_), r1, r2, r3, rest⟩
      · rw [r2] at z
        cases z
      · rw [r2] at z
        cases z
        simp at r3
    · obtain ⟨bm, ob, b1, b2, b3, b4, b5, b6⟩ := hbm
      refine ⟨bm, ob, b1, b2, fun q => ?_, fun q => ?_, hidT_get b3 (free b3 (fun xs n z => by rw [b6] at z; cases z) (fun z => by rw [b6] at z; cases z)), b4, b5, b6⟩
      · obtain ⟨o, es, ep, e, hd, _⟩ := hns
        rw [q, e] at b3
        cases b3
        rw [hd] at b6
        cases b6
      · rw [q, isT] at b3
        cases b3
        cases b6
    · obtain ⟨o, es, ep, e, hd, _⟩ := hns
      rw [z, isT] at e
      cases e
      cases hd
  have nil0 : ∀ b : Addr, b ∉ ([] : List Addr) := fun b => by simp
  have e0 : Env0 P w K mg (hidT s₁.heap H) callerA [] s₁ H := ⟨rfl, hM, fun b o e => of_hidT e, Nat.le_of_eq (hidT_size _ _), trivial, fun b hb => absurd hb (nil0 b), hok, .of_eq hg⟩
  refine codeAny_mono ((F _ hKb (nsK hns) TB).run callerA [] s₁ H ⟨[.ref a], []⟩ [.ref a] [.ref a] _ _ hr rfl e0 (hbind s₁ (.ref a)) (.cons rfl .nil) (hsp H hH hS)) fun r s' h => ?_
  match r, h with
  | .error e, h => exact False.elim h
  | .ok .next, h => exact False.elim h
  | .ok .brk, h => exact False.elim h
  | .ok .cont, h => exact False.elim h
  | .ok (.ret u), h =>
    obtain ⟨v, H', os, bare, un, hok', r', q⟩ := h
    cases (show v = .bl true from q)
    cases (show u = Value.bool true from r')
    have keep : ∀ b o, b ∉ ts → s₁.heap.get? b = some o → s'.heap.get? b = some o := fun b o m e => by
      by_cases z : H b = none
      · exact un.keep b o e z (nil0 b) (by simp)
      · rcases hO b with y | y | ⟨ob, xs, y⟩
        · exact absurd y z
        · exact absurd y m
        · obtain ⟨e1, _⟩ := hok b _ y
          obtain ⟨e2, _⟩ := hok' b _ (un.frzs b ob _ y)
          rw [e] at e1
          cases e1
          exact e2
    have grown : ∀ p ∈ cs, ∃ more : Array Value, s'.heap.get? p.2 = some { cls := .none, data := .fields more } := fun p hp => by
      obtain ⟨more, z⟩ := un.tbls p.2 #[] (hH p hp)
      exact ⟨_, hok' p.2 _ z⟩
    refine ⟨rfl, ⟨fun b o e => ?_, fun b o e => ?_⟩, os, bare⟩
    · by_cases m : b ∈ ts
      · obtain ⟨p, hp, rfl⟩ := tab b m
        obtain ⟨more, hm⟩ := grown p hp
        rw [hT p hp] at e
        cases e
        refine .inr (.inl ⟨((hC p hp).tab (hT p hp)).isCodeTable, rfl, #[], more, rfl, ?_⟩)
        rw [Array.empty_append]
        exact hm
      · exact .inl (keep b o m e)
    · by_cases m : b ∈ ts
      · obtain ⟨p, hp, rfl⟩ := tab b m
        obtain ⟨more, hm⟩ := grown p hp
        exact ⟨_, hm⟩
      · exact ⟨o, keep b o m e⟩
/-- what is known of the law's promise at the head's heap -/
def LawAtG (l : PySem.W.OpenLaw) (w : World) (K : PySem.W.Frag) (k n : Nat) (x : Str) (mg : Str → Option Value) (fa : Addr) (h : Heap) : Prop :=
  ∃ (fd : FuncData) (cs : List (Addr × Addr)) (sp : Sp), (∀ p ∈ cs, h.get? p.2 = some noTab) ∧
    (∀ p ∈ cs, K.lookup p.2 = none) ∧ (∀ p ∈ cs, PySem.W.CodeHd h p.1 p.2) ∧
    (∀ (s : Shared) (u : Value), BindsTo s fd ⟨[u], []⟩ [(x, u)]) ∧
    (∀ (H : Hp) (a : Addr) (ns : List Int), ns.length ≤ n → (∀ p ∈ cs, H p.2 = some (.tbl #[])) → SqL K H a (ns.map V.int) → sp [.ref a] H (fun v _ => v = .bl true) fun _ _ _ => False) ∧
    ∀ base : Heap, K.In base → base.Ns mainGlobals mg → (∀ p ∈ cs, TabB base mg p.1 p.2) → FnG l.prog w K mg base k fa fd [x] sp
theorem walkGT {l : PySem.W.OpenLaw} {n k : Nat} {q : Program} {loose : List Str} {XP : (Str → Option Value) → Heap → Prop} {YP : World → Heap → Prop} {d : DefRec} {K : Params → PySem.W.Frag} {x : Str}
    (hn : l.most = some n) (hn2 : n ≤ sizeLine) (hdf : d.params.defaults = []) (hr : Room k callerA)
    (hY : ∀ (w : World) (h : Heap), YP w h → (K w.params).In h)
    (F : ∀ (w : World) (mg : Str → Option Value) (fa : Addr) (h : Heap), YP w h → (K w.params).In h → h.Ns mainGlobals mg → mg d.name = some (.ref fa) → LawAtG l w (K w.params) k n x mg fa h) :
    PySem.W.WalkO q loose XP YP l.row.toRowW d [] (fun f vs => PySem.call f vs) := by
  refine Att.attach_call hn hdf fun w s₀ s₁ mg mb fa o pm cd doc a vs ns G Y ho hd hcd hmg hobj hints hlen hg => ?_
  have KX := hY w _ Y
  obtain ⟨fd, cs, sp, hT, nT, hC, hb, hsp, hF⟩ := F w mg fa _ Y KX G.T.g hmg
  exact law_callGT KX G.T.g G.T.b G.T.builtins G.T.nolimit hg hT nT hC G.T.bmain hobj hints (Nat.le_trans hlen hn2) hr hF hb fun H hH hS => hsp H a ns hlen hH hS
end Z
/-! {k: v for t0 in i0 for t1 in i1} -/
namespace Z
open PySem PySem.Spec PyProof.Rows L2
abbrev dc2 (kx vx t0 i0 t1 i1 : Expr) (sc : Scope) (pp : Pos) : Expr := .DictComp kx vx [⟨t0, i0, [], 0⟩, ⟨t1, i1, [], 0⟩] sc pp
section
variable {prog : Program} {w : World} {A : Around} {R : Result → Shared → Prop} {s : Shared} {kx vx t0 i0 t1 i1 : Expr} {sc : Scope} {pp : Pos} {it : Value} {D : Addr} {env : Env}
theorem turn_one : compTurn (dc2 kx vx t0 i0 t1 i1 sc pp) 0 it (.ref D) env = (do
    standAt i0.pos
    match ← pyNext it with
    | none => pure (.done .next)
    | some x =>
      letOwnedTupleGo t0 it x
      assign t0 env x
      let y ← eval i1 env
      standAt i1.pos
      let y ← foldedSetIterable i1 env y
      let _ ← runOwn (.compStart (dc2 kx vx t0 i0 t1 i1 sc pp) 1 (← holding [y] (pyIter y)) (.ref D) env) env
      again (.compLoop (dc2 kx vx t0 i0 t1 i1 sc pp) 0 it (.ref D) env)) := by rfl
theorem turn_two : compTurn (dc2 kx vx t0 i0 t1 i1 sc pp) 1 it (.ref D) env = (do
    standAt i1.pos
    match ← pyNext it with
    | none => pure (.done .next)
    | some x =>
      letOwnedTupleGo t1 it x
      assign t1 env x
      (do
        let a ← eval kx env
        let b ← holding [a] (eval vx env)
        standAt { kx.pos with endLine := vx.pos.endLine, endCol := vx.pos.endCol }
        holding [a, b] (dictSet D a b))
      again (.compLoop (dc2 kx vx t0 i0 t1 i1 sc pp) 1 it (.ref D) env)) := by rfl

/-- the first clause's loop -/
theorem loop_one (fold : ∀ x, foldedSetIterable i1 env x = pure x) (I : Nat → Shared → Prop)
    (go : ∀ n z, I n z → wpAny (model prog w) A (pyNext it) (fun r z1 => match r with
      | none => R (.ok .next) z1
      | some x => wpAny (model prog w) A (letOwnedTupleGo t0 it x) (fun _ z2 => wpAny (model prog w) A (assign t0 env x) (fun _ z3 => wpAny (model prog w) A (eval i1 env) (fun y z4 =>
          wpAny (model prog w) A (pyIter y) (fun j z5 => codeAny (model prog w) A (.compStart (dc2 kx vx t0 i0 t1 i1 sc pp) 1 j (.ref D) env) (fun r z6 => (∃ f, r = .ok f) ∧ ∃ m, m < n ∧ I m z6) z5)
            (notedBy (model prog w) A env fun e z => R (.error e) z) z4) (notedBy (model prog w) A env fun e z => R (.error e) z) z3) (notedBy (model prog w) A env fun e z => R (.error e) z) z2) (notedBy (model prog w) A env fun e z => R (.error e) z) z1) (notedBy (model prog w) A env fun e z => R (.error e) z) z)
    (n : Nat) (h : I n s) : codeAny (model prog w) A (.compLoop (dc2 kx vx t0 i0 t1 i1 sc pp) 0 it (.ref D) env) R s := by
  refine codeAny_loop rfl I (fun n z hI => ?_) n h
  show wpAny _ A ((compTurn (dc2 kx vx t0 i0 t1 i1 sc pp) 0 it (.ref D) env).onRaise fun x => do noteFrame x env; theTreesLotGoes x) _ _ z
  refine wpAny_noted ?_
  rw [turn_one]
  refine wpAny_bind (wpAny_standAt (wpAny_bind (wpAny_mono (go n z hI) (fun r z1 k1 => ?_) fun _ _ q => q)))
  cases r with
  | none => exact wpAny_pure k1
  | some x =>
    refine wpAny_bind (wpAny_mono k1 (fun _ z2 k2 => wpAny_bind (wpAny_mono k2 (fun _ z3 k3 => wpAny_bind (wpAny_mono k3 (fun y z4 k4 => ?_) fun _ _ q => q)) fun _ _ q => q)) fun _ _ q => q)
    refine wpAny_bind (wpAny_standAt (wpAny_bind (wpAny_of_eq (fold y) (wpAny_bind (wpAny_holding (wpAny_mono k4 (fun j z5 k5 => wpAny_bind (wpAny_runOwn ?_)) fun _ _ q => q))))))
    rw [Around.mark_none]
    refine codeAny_mono k5 fun r z6 k6 => ?_
    obtain ⟨⟨f, rfl⟩, k6⟩ := k6
    first
      | exact wpAny_pure ⟨rfl, k6⟩
      | exact wpAny_bind (wpAny_pure (wpAny_pure ⟨rfl, k6⟩))
/-- the second clause's -/
theorem loop_two (I : Nat → Shared → Prop)
    (go : ∀ n z, I n z → wpAny (model prog w) A (pyNext it) (fun r z1 => match r with
      | none => R (.ok .next) z1
      | some x => wpAny (model prog w) A (letOwnedTupleGo t1 it x) (fun _ z2 => wpAny (model prog w) A (assign t1 env x) (fun _ z3 => wpAny (model prog w) A (eval kx env) (fun a z4 =>
          wpAny (model prog w) A (eval vx env) (fun b z5 => wpAny (model prog w) A (dictSet D a b) (fun _ z6 => ∃ m, m < n ∧ I m z6)
            (notedBy (model prog w) A env fun e z => R (.error e) z) z5) (notedBy (model prog w) A env fun e z => R (.error e) z) z4) (notedBy (model prog w) A env fun e z => R (.error e) z) z3) (notedBy (model prog w) A env fun e z => R (.error e) z) z2) (notedBy (model prog w) A env fun e z => R (.error e) z) z1) (notedBy (model prog w) A env fun e z => R (.error e) z) z)
    (n : Nat) (h : I n s) : codeAny (model prog w) A (.compLoop (dc2 kx vx t0 i0 t1 i1 sc pp) 1 it (.ref D) env) R s := by
  refine codeAny_loop rfl I (fun n z hI => ?_) n h
  show wpAny _ A ((compTurn (dc2 kx vx t0 i0 t1 i1 sc pp) 1 it (.ref D) env).onRaise fun x => do noteFrame x env; theTreesLotGoes x) _ _ z
  refine wpAny_noted ?_
  rw [turn_two]
  refine wpAny_bind (wpAny_standAt (wpAny_bind (wpAny_mono (go n z hI) (fun r z1 k1 => ?_) fun _ _ q => q)))
  cases r with
  | none => exact wpAny_pure k1
  | some x =>
    refine wpAny_bind (wpAny_mono k1 (fun _ z2 k2 => wpAny_bind (wpAny_mono k2 (fun _ z3 k3 => ?_) fun _ _ q => q)) fun _ _ q => q)
    exact wpAny_bind (wpAny_bind (wpAny_mono k3 (fun a z4 k4 => wpAny_bind (wpAny_holding (wpAny_mono k4 (fun b z5 k5 => wpAny_bind (wpAny_standAt (wpAny_holding (wpAny_mono k5 (fun _ z6 k6 => wpAny_pure ⟨rfl, k6⟩) fun _ _ q => q)))) fun _ _ q => q))) fun _ _ q => q))
/-- where it begins -/
theorem start_two (h0 : codeAny (model prog w) A (.compLoop (dc2 kx vx t0 i0 t1 i1 sc pp) 1 it (.ref D) env) R s)
    (h : wpAny (model prog w) A (pyIter it) (fun j z => codeAny (model prog w) A (.compLoop (dc2 kx vx t0 i0 t1 i1 sc pp) 1 j (.ref D) env) R z) (notedBy (model prog w) A env fun x z => R (.error x) z) s) :
    codeAny (model prog w) A (.compStart (dc2 kx vx t0 i0 t1 i1 sc pp) 1 it (.ref D) env) R s := by
  refine codeAny_of_tree ?_
  show wpAny _ A ((compStart (dc2 kx vx t0 i0 t1 i1 sc pp) 1 it (.ref D) env).onRaise fun x => do noteFrame x env; standAt theWindowsPlace) _ _ s
  refine wpAny_notedAt ?_
  unfold compStart
  show wpAny _ A (ask >>= _) _ _ s
  refine wpAny_bind (wpAny_askSetting (wpAny_ite ?_))
  split
  · first
      | exact wpAny_pure ⟨rfl, h0⟩
      | exact wpAny_bind (wpAny_pure (wpAny_pure ⟨rfl, h0⟩))
  · refine wpAny_bind (wpAny_rule ?_)
    show wpAny _ A (standAt i1.pos >>= _) _ _ s
    exact wpAny_bind (wpAny_standAt (wpAny_bind (wpAny_mono h (fun j z q => wpAny_pure ⟨rfl, q⟩) fun _ _ q => q)))
end
section
variable {X : Cx}
/-- its word: D the new dict; from the second source's walk Nx is reached -/
def tDc2 (wi : TI) (g : TG) (wj : TI) (gj : TG) (tk tv : TE) (vs us : List Nat) : TE := fun σ H Q => wi σ H fun J H1 => ∀ D, H1 D = none → ∃ W : Nat → Nat → Hp → Prop, (∃ m, W 0 m (upd H1 D (.dK []))) ∧ ∀ i m h, W i m h →
  (J.stop i h ∧ Q (.ref D) h) ∨ (J.go i h ∧ ∃ Nx : Hp → Prop, (∀ z, Nx z → ∃ m', m' < m ∧ W (i + 1) m' z) ∧ ∀ x z, J.yld i h x z → g x (wipe σ vs) z fun σ2 z2 => wipe σ2 vs = wipe σ vs ∧
    wj σ2 z2 fun J2 z3 => ∃ V : Nat → Nat → Hp → Prop, (∃ m, V 0 m z3) ∧ ∀ j k y, V j k y → (J2.stop j y ∧ Nx y) ∨ (J2.go j y ∧ ∃ Ny : Hp → Prop, (∀ z, Ny z → ∃ k', k' < k ∧ V (j + 1) k' z) ∧
      ∀ x z, J2.yld j y x z → gj x (wipe σ2 us) z fun σ3 z4 => wipe σ3 us = wipe σ2 us ∧ tk σ3 z4 fun a z5 => tv σ3 z5 fun b z6 => ∃ kvs kk, a = kV kk ∧ z6 D = some (.dK kvs) ∧ kvs.length < sizeLine ∧ Ny (upd z6 D (.dK (putK kvs kk b)))))
theorem dc2_run {pins : List (Addr × Obj)} {s : Shared} {σ : L2.St} {H : Hp} {Q : VK} {kx vx t0 i0 t1 i1 : Expr} {sc : Scope} {own : List (Str × Nat)} {us : List Nat} {pp p0 : Pos} {wi wj : TI} {g gj : TG} {tk tv : TE} {use : Option (Value → Sem Unit)} {Qf : Value → Shared → Prop}
    (cm : X.calm = true) (nd : X.N.Nodup) (I : Inv X pins σ H s) (pi0 : PI X t0 i0 wi) (blk : BlkOk X.N X.env.scope sc own) (sub : ∀ i ∈ us, i ∈ own.map (·.2)) (bg : InBlk X sc fun Y => PG Y t0 g) (bi : InBlk X sc fun Y => PI Y t1 i1 wj)
    (bgj : InBlk X sc fun Y => PG Y t1 gj) (bk : InBlk X sc fun Y => PE Y kx tk) (bv : InBlk X sc fun Y => PE Y vx tv) (fo : ∀ x, foldedSetIterable i0 X.env x = pure x) (fo1 : ∀ env x, foldedSetIterable i1 env x = pure x)
    (h : tDc2 wi g wj gj tk tv (own.map (·.2)) us σ H Q)
    (fin : ∀ D C s' m H', Inv X pins σ H' s' → Q (.ref D) H' → s'.heap.Ns C m → FpOk X pins H' C → compPost (model X.prog X.w) X.A X.xe use Qf (.ref D) C (.ok .next) s') :
    wpAny (model X.prog X.w) X.A (comprehension (dc2 kx vx t0 i0 t1 i1 sc pp) sc X.env p0 newDict false (eval i0 X.env) use) Qf X.xe s := by
  have fr : ∀ y ∈ sc.names, y.2 = .free → ∃ c, X.env.cells.lookup y.1 = some c := fun y hy e => (blk.free y hy e).elim (fun k => I.ok.has _ (.inl k)) fun k => I.ok.has _ (.inr k)
  refine wpAny_comprehension_free (use := use) rfl fo (closure_ok fr) blk.kind (fun y hy e => by rw [blk.uniq y hy, e]) (thn (pi0.run pins s σ H _ I h) fun _ s1 a1 => thn a1 fun _ s2 a2 => ?_)
  obtain ⟨it, fp, tn, J, H2, rfl, I2, T, n0, f2, q⟩ := a2
  refine wpAny_newObj_type (newEnv_comp ?_)
  obtain ⟨D, eD⟩ : ∃ D, s2.heap.objs.size = D := ⟨_, rfl⟩
  rw [eD]
  have Dn : H2 D = none := I2.hok.fresh (Nat.le_of_eq eD)
  obtain ⟨W, ⟨m0, w0⟩, turn⟩ := q D Dn
  obtain ⟨s3, e3⟩ : ∃ s3 : Shared, ({ s2 with heap := s2.heap.push { cls := .type "dict", data := .dict #[] } } : Shared) = s3 := ⟨_, rfl⟩
  have I3 : Inv X pins σ (upd H2 D (.dK [])) s3 := by
    rw [← e3]
    refine I2.laid (t' := s2.toks) (fun b o e => Heap.get?_push_of_some _ e) (Nat.le_of_eq eD) ?_
    rw [← eD]
    exact dk_empty s2.heap I2.big
  have p3 : s3.heap = s2.heap.push { cls := .type "dict", data := .dict #[] } := by rw [← e3]
  have old : ∀ b ∈ fp, b < s2.heap.objs.size := fun b hb => let ⟨_, e, _⟩ := T.obj _ _ n0 b hb; Heap.lt_size e
  have f3 : ∀ b ∈ fp, FpOk X pins (upd H2 D (.dK [])) b ∧ b < s3.heap.objs.size := fun b hb =>
    ⟨⟨by rw [upd_ne (by rw [← eD]; exact Nat.ne_of_lt (old b hb))]; exact (f2 b hb).1, (f2 b hb).2⟩, by rw [p3, Heap.size_push]; exact Nat.lt_succ_of_lt (old b hb)⟩
  have n3 : tn 0 s3.heap := T.keep _ _ _ n0 fun b _ o e => by rw [p3]; exact Heap.get?_push_of_some _ e
  have I4 := block_start I3 blk nd f3
  have qg := bg s3 (upd H2 D (.dK [])) s3.heap.objs.size (cellsFrom (s3.heap.objs.size + 1) sc.names (cloFrom X.env.cells sc.names [])) fp
  have qi := bi s3 (upd H2 D (.dK [])) s3.heap.objs.size (cellsFrom (s3.heap.objs.size + 1) sc.names (cloFrom X.env.cells sc.names [])) fp
  have qj := bgj s3 (upd H2 D (.dK [])) s3.heap.objs.size (cellsFrom (s3.heap.objs.size + 1) sc.names (cloFrom X.env.cells sc.names [])) fp
  have qk := bk s3 (upd H2 D (.dK [])) s3.heap.objs.size (cellsFrom (s3.heap.objs.size + 1) sc.names (cloFrom X.env.cells sc.names [])) fp
  have qv := bv s3 (upd H2 D (.dK [])) s3.heap.objs.size (cellsFrom (s3.heap.objs.size + 1) sc.names (cloFrom X.env.cells sc.names [])) fp
  rw [← eD, e3, eD]
  show codeAny _ _ (.compStart (dc2 kx vx t0 i0 t1 i1 sc pp) 0 (.ref it) (.ref D) (compEnvC sc (cellsFrom (s3.heap.objs.size + 1) sc.names (cloFrom X.env.cells sc.names [])) s3.heap.objs.size X.env)) (compPost (model X.prog X.w) X.A X.xe use Qf (.ref D) s3.heap.objs.size) { s3 with heap := pushCells (s3.heap.push { cls := .type "dict", data := .dict #[] }) sc.names }
  have none3 : ∀ b ∈ fp, (upd H2 D (.dK [])) b = none := fun b hb => (f3 b hb).1.1
  generalize ece : compEnvC sc (cellsFrom (s3.heap.objs.size + 1) sc.names (cloFrom X.env.cells sc.names [])) s3.heap.objs.size X.env = ce at I4 qg qi qj qk qv ⊢
  have locs : ce.locals = s3.heap.objs.size := by subst ece; rfl
  generalize upd H2 D (.dK []) = H3 at I3 I4 qg qi qj qk qv w0 none3 f3
  generalize e4 : ({ s3 with heap := pushCells (s3.heap.push { cls := .type "dict", data := .dict #[] }) sc.names } : Shared) = s4 at I4 ⊢
  have n4 : tn 0 s4.heap := T.keep _ _ _ n3 fun b _ o e => by rw [← e4]; exact pushCells_keeps _ _ _ _ (Heap.get?_push_of_some _ e)
  obtain ⟨Y, eY⟩ : ∃ Y, X.blk s3 H3 sc ce fp = Y := ⟨_, rfl⟩
  have still : ∀ {σ' : L2.St} {h' : Hp} {z : Shared}, Inv (X.blk s3 H3 sc ce fp) [] σ' h' z → (∀ b ∈ fp, h' b = none) → ∀ b ∈ fp, FpOk (X.blk s3 H3 sc ce fp) [] h' b := fun {σ' h' z} K hn b hb =>
    ⟨hn b hb, (K.ok.exf b hb).1, K.ok.exfs b hb, .inl hb, fun x c e => (K.ok.exf b hb).2 x c e, fun p hp => absurd (show p ∈ ([] : List (Addr × Obj)) ++ [] from hp) (by simp)⟩
  have whole : codeAny (model X.prog X.w) X.A (.compLoop (dc2 kx vx t0 i0 t1 i1 sc pp) 0 (.ref it) (.ref D) ce) (compPost (model X.prog X.w) X.A X.xe use Qf (.ref D) s3.heap.objs.size) s4 := by
    refine loop_one (fo1 ce) (fun n z => ∃ i h', Inv (X.blk s3 H3 sc ce fp) [] (wipe σ (own.map (·.2))) h' z ∧ tn i z.heap ∧ (∀ b ∈ fp, h' b = none) ∧ W i n h') ?_ m0 ⟨0, H3, I4, n4, none3, w0⟩
    rintro n s5 ⟨i, H5, I5, n5, no5, w5⟩
    rcases turn i n H5 w5 with ⟨stop, qq⟩ | ⟨goes, Nx, nxt, step⟩
    · refine thnF (T.done (X.blk s3 H3 sc ce fp) rfl rfl rfl cm i [] s5 _ H5 (fun _ _ => False) I5 (still I5 no5) n5 stop) fun r s6 ⟨er, I6⟩ => ?_
      subst er
      have back : Inv X pins σ H5 s6 := I3.call' (ch := fp) I6.os I6.base I6.hok I6.bare fun b hb => let f := (f3 b hb).1; ⟨f.2.2.2.1, f.2.1, f.2.2.2.2.1, f.2.2.2.2.2⟩
      obtain ⟨m, ns, _⟩ := I6.loc
      have ns : s6.heap.Ns ce.locals m := ns
      have nc : H5 ce.locals = none := I6.free
      rw [locs] at ns nc
      exact fin D s3.heap.objs.size s6 m H5 back qq ns (I3.fpOk (Nat.le_refl _) nc)
    · refine thnF (T.item (X.blk s3 H3 sc ce fp) rfl rfl rfl cm i [] s5 _ H5 (fun _ _ => False) I5 (still I5 no5) n5 goes) fun r s6 ⟨u, er, a6⟩ => ?_
      subst er
      refine thnF a6 fun _ s7 ⟨x, H7, I7, r7, y7, n7, no7⟩ => ?_
      refine thnF (qg.run _ s7 _ H7 x u _ (I7.pinned (still I7 no7) (T.obj _ _ n7)) r7 (step x H7 y7)) fun _ s8 ⟨σ8, H8, I8, hw8, q8⟩ => ?_
      have len8 : (wipe σ (own.map (·.2))).length = σ8.length := by rw [← hw8, wipe_length]
      have know : ∀ (j : Nat) v, (wipe σ (own.map (·.2)))[j]? = some (some v) → (wipe σ8 us)[j]? = some (some v) := fun j v e => by
        rw [← hw8] at e
        obtain ⟨e1, e2⟩ := wipe_some e
        rw [wipe_out fun z => e2 (sub j z)]
        exact e1
      refine thnF (qi.run _ s8 σ8 H8 _ I8 q8) fun _ s9 a9 => thnF a9 fun _ s10 a10 => ?_
      obtain ⟨it2, fp2, tn2, J2, H10, rfl, I10, T2, n10, f10, V, ⟨k0, v0⟩, turn2⟩ := a10
      have still2 : ∀ {h' : Hp}, (∀ b ∈ fp2, h' b = none) → ∀ b ∈ fp2, FpOk (X.blk s3 H3 sc ce fp) ([] ++ pinsAt fp s7.heap) h' b := fun hn b hb => ⟨hn b hb, (f10 b hb).2⟩
      have inner : codeAny (model X.prog X.w) X.A (.compLoop (dc2 kx vx t0 i0 t1 i1 sc pp) 1 (.ref it2) (.ref D) ce)
          (fun r z => (∃ f, r = .ok f) ∧ ∃ m, m < n ∧ ∃ i h', Inv (X.blk s3 H3 sc ce fp) [] (wipe σ (own.map (·.2))) h' z ∧ tn i z.heap ∧ (∀ b ∈ fp, h' b = none) ∧ W i m h') s10 := by
        refine loop_two (fun k z => ∃ j h', Inv (X.blk s3 H3 sc ce fp) ([] ++ pinsAt fp s7.heap) (wipe σ8 us) h' z ∧ tn2 j z.heap ∧ (∀ b ∈ fp2, h' b = none) ∧ V j k h') ?_ k0 ⟨0, H10, I10.weak (wipe_length _ _) (fun j v e => (wipe_some e).1), n10, fun b hb => (f10 b hb).1, v0⟩
        rintro k s11 ⟨j, H11, I11, n11, no11, v11⟩
        rcases turn2 j k H11 v11 with ⟨stop2, nx⟩ | ⟨goes2, Ny, nyt, step2⟩
        · refine thnF (T2.done (X.blk s3 H3 sc ce fp) rfl rfl rfl cm j _ s11 (wipe σ8 us) H11 (fun _ _ => False) I11 (still2 no11) n11 stop2) fun r s12 ⟨er, I12⟩ => ?_
          subst er
          obtain ⟨m', lt, w'⟩ := nxt H11 nx
          have pin : ∀ b ∈ fp, ∀ o, s7.heap.get? b = some o → s12.heap.get? b = some o ∧ H11 b = none := fun b hb o e =>
            let y := I12.pin (b, o) (List.mem_append_right _ (List.mem_append_right _ (mem_pinsAt hb e)))
            ⟨y.1, y.2.1⟩
          refine ⟨⟨_, rfl⟩, m', lt, i + 1, H11, (I12.unpinned (pins := [])).weak (len8.trans (wipe_length σ8 us).symm) know, T.keep _ _ _ n7 fun b hb o e => (pin b hb o e).1, fun b hb => ?_, w'⟩
          obtain ⟨o, e, _⟩ := T.obj _ _ n7 b hb
          exact (pin b hb o e).2
        · refine thnF (T2.item (X.blk s3 H3 sc ce fp) rfl rfl rfl cm j _ s11 (wipe σ8 us) H11 (fun _ _ => False) I11 (still2 no11) n11 goes2) fun r s12 ⟨u2, er, a12⟩ => ?_
          subst er
          refine thnF a12 fun _ s13 ⟨x2, H13, I13, r13, y13, n13, no13⟩ => ?_
          refine thnF (qj.run _ s13 (wipe σ8 us) H13 x2 u2 _ (I13.pinned (still2 no13) (T2.obj _ _ n13)) r13 (step2 x2 H13 y13)) fun _ s14 ⟨σ14, H14, I14, hw14, q14⟩ => ?_
          refine thnF (qk.run _ s14 σ14 H14 _ I14 q14) fun ka s15 ⟨ya, H15, I15, r15, q15⟩ => ?_
          refine thnF (qv.run _ s15 σ14 H15 _ I15 q15) fun vb s16 ⟨yb, H16, I16, r16, kvs, kk, ek, hD16, small, ny⟩ => ?_
          subst ek
          refine d_dictSet (X := X.blk s3 H3 sc ce fp) I16 hD16 small r15 r16 fun s17 I17 => ?_
          obtain ⟨k', lt, v'⟩ := nyt _ ny
          have pin : ∀ b ∈ fp2, ∀ o, s13.heap.get? b = some o → s17.heap.get? b = some o ∧ (upd H16 D (.dK (putK kvs kk yb))) b = none := fun b hb o e =>
            let y := I17.pin (b, o) (List.mem_append_right _ (List.mem_append_right _ (mem_pinsAt hb e)))
            ⟨y.1, y.2.1⟩
          refine ⟨k', lt, j + 1, _, I17.unpinned.weak (by rw [← hw14, wipe_length]) (fun j v e => by rw [← hw14] at e; exact (wipe_some e).1), T2.keep _ _ _ n13 fun b hb o e => (pin b hb o e).1, fun b hb => ?_, v'⟩
          obtain ⟨o, e, _⟩ := T2.obj _ _ n13 b hb
          exact (pin b hb o e).2
      exact start_two inner (T2.self X.A 0 _ _ _ n10 inner)
  exact codeAny_compStart_dict whole (T.self X.A 0 _ _ _ n4 whole)
theorem ps_setDc2 {i : Nat} {y : Str} {py pp sp : Pos} {kx vx t0 i0 t1 i1 : Expr} {sc : Scope} {own : List (Str × Nat)} {us : List Nat} {wi wj : TI} {g gj : TG} {tk tv : TE} (cm : X.calm = true) (nd : X.N.Nodup) (hy : X.N[i]? = some y) (yl : X.env.scope.names.lookup y = some .local)
    (sw : swapsWith (dc2 kx vx t0 i0 t1 i1 sc pp) (some (.Name y py)) sp.line X.env = pure true) (pi0 : PI X t0 i0 wi) (blk : BlkOk X.N X.env.scope sc own) (sub : ∀ i ∈ us, i ∈ own.map (·.2)) (bg : InBlk X sc fun Y => PG Y t0 g) (bi : InBlk X sc fun Y => PI Y t1 i1 wj)
    (bgj : InBlk X sc fun Y => PG Y t1 gj) (bk : InBlk X sc fun Y => PE Y kx tk) (bv : InBlk X sc fun Y => PE Y vx tv) (fo : ∀ x, foldedSetIterable i0 X.env x = pure x := by intro _; rfl) (fo1 : ∀ env x, foldedSetIterable i1 env x = pure x := by intro _ _; rfl) :
    PS X (.Assign [.Name y py] (.DictComp kx vx [⟨t0, i0, [], 0⟩, ⟨t1, i1, [], 0⟩] sc pp) sp) (tAsg (tDc2 wi g wj gj tk tv (own.map (·.2)) us) (gName i)) := by
  constructor
  intro pins s σ H D I h
  rw [exec_Assign_Name_used _ _ _ _ sw]
  refine wpAny_bind (wpAny_standAt (wpAny_bind ?_))
  have q0 : tDc2 wi g wj gj tk tv (own.map (·.2)) us σ H (fun z Hz => gName i z σ Hz D.nx) := h
  show wpAny _ X.A (do
    let _ ← comprehension (dc2 kx vx t0 i0 t1 i1 sc pp) sc X.env (firstIterPos [⟨t0, i0, [], 0⟩, ⟨t1, i1, [], 0⟩] pp) newDict false (eval i0 X.env) (some (assign (.Name y py) X.env))) _ _ s
  have core := dc2_run (Qf := fun _ z => SP X pins D .next z) cm nd I pi0 blk sub bg bi bgj bk bv fo fo1 q0 (use := some (assign (.Name y py) X.env)) (pp := pp) (p0 := firstIterPos [⟨t0, i0, [], 0⟩, ⟨t1, i1, [], 0⟩] pp)
  refine wpAny_bind (thn (core fun L C s' m H' J q hn f => ?_) fun _ _ z => wpAny_pure (wpAny_pure z))
  show wpAny _ _ (assign (.Name y py) X.env (.ref L)) _ _ _
  refine wpAny_assign_Name (store_ok2 (v := V.ref L) J nd hy (.inl yl) rfl (fun s2 J2 hb => ?_) (.inr yl))
  obtain ⟨a, sb, ha⟩ := hb
  obtain ⟨f0, f1, f2, f3, f4, f5⟩ := f
  have nC : C ≠ a := by
    rcases ha with z | z
    · rw [z]
      exact f1
    · exact fun e => f4 y a z e.symm
  exact ⟨m, hn.sameBut sb nC, fun h3 sb3 => ⟨_, H', J2.turned (t' := s2.toks) (fun b o hb e => (sb3.2 b hb).trans e) f0 f1 f3 f4 f5, q⟩⟩
end
end Z
/-! A def that calls the lambda that it got, and tells what came: try: return [S1, repr(a())] / except x as n: return [S2, repr(n.F)]. -/
namespace Z
open PySem PySem.Spec PyProof.Rows L2 LamX
/-- what the def tells: a list of a word and a text -/
def Tells (K : PySem.W.Frag) (S : Str) (v : V) (H : Hp) (Q : VK) : Prop := rShow K [v] H fun t H2 => [V.str S, t].length ≤ sizeLine ∧ ∀ p, H2 p = none → Q (.ref p) (upd H2 p (.lst [.str S, t]))
theorem Tells.intro {K : PySem.W.Frag} {S : Str} {v : V} {H : Hp} {Q : VK} {d : PyData} (h : Sh K H v d) (s : d.showable = true) (dp : d.depth ≤ 60) (z : d.shown.length ≤ sizeLine) (k : ∀ p, H p = none → Q (.ref p) (upd H p (.lst [.str S, .str d.shown]))) : Tells K S v H Q :=
  ⟨v, d, rfl, h, s, dp, z, by show 2 ≤ sizeLine; exact (by decide +kernel), k⟩
def TShow (K : PySem.W.Frag) (CS : Addr) (F S1 S2 : Str) : (XK → Hp → VK → Prop) → Hp → VK → Prop := fun tl H Q =>
  tl (fun cls d H' => cls = .ref CS ∧ ∃ dd v, d = some dd ∧ H' dd = some (.xd [(F, v)]) ∧ Tells K S2 v H' Q) H (fun v H' => Tells K S1 v H' Q)
section
variable {X : Cx}
theorem takes_len {W : WX} (tk : Takes X W) (n : Nat) (hn : X.N.length = n) : Takes X (fun cls d σ H => σ.length = n → W cls d σ H) := fun u s' ⟨a, B, sI, pins, σ, H, cls, d, e, I, nb, up, sky, na, os, ag, w⟩ =>
  tk u s' ⟨a, B, sI, pins, σ, H, cls, d, e, I, nb, up, sky, na, os, ag, w (by rw [I.len, hn])⟩
theorem show_gives {Ng : List Str} {x a e n q F S1 S2 : Str} {sg : Scope} {g CS : Addr} {cdg : Value} {j1 j2 : Nat} {p1 p2 p3 p4 p5 p6 p7 p8 p9 pa pb pc pd pe pf pg ph : Pos}
    (hge : sg.names.lookup e = some .globalImplicit) (hme : X.mg e = some (.ref CS)) (hde : (e == ("__debug__" : Str)) = false) (h0 : ∀ f : Addr, (L2.start Ng [V.ref f])[0]? = some (some (V.ref f)))
    (hgr : sg.names.lookup ("repr" : Str) = some .globalImplicit) (hmr : X.mg "repr" = none) (nd : Ng.Nodup) (hl : Ng.length = 2) (hn : Ng[1]? = some n) (hnl : sg.names.lookup n = some .local) (hdn : (n == ("__debug__" : Str)) = false) (hcn : (n == ("__classdict__" : Str)) = false)
    (te : PySem.W.exmOne X.K (.ref CS) (.ref CS) = some true) (xf : XfC X.K CS) (no : PySem.W.findIn X.K (.ref CS) F = some none) (hgd : X.A.guards = some []) (hu : X.A.units + 80 < cLine) :
    GivesTo X Ng x sg g cdg [.Try [.Return (some (.List [.Constant (.str S1) j1 p3, .Call (.Name "repr" p4) [.Call (.Name a p1) [] [] p2] [] p5] p6)) p7]
      [.ExceptHandler (some (.Name e p8)) (some n) [.Return (some (.List [.Constant (.str S2) j2 p9, .Call (.Name "repr" pa) [.Attribute (.Name n pb) F pc] [] pd] pe)) pf] pg] [] [] ph] a q (TShow X.K CS F S1 S2) := by
  intro f c' s H Q tl act hc h
  let Z := (cxOf C8.CX0 X.prog X.w X.K X.mg X.base Ng x sg g cdg X.A X.stack s H C8.E0).nox
  have hgl : Gl Z e := hge
  have hglr : Gl Z "repr" := hgr
  have hgdZ : Z.A.guards = some [] := by
    show (X.A.deeper _).guards = some []
    simpa [Around.deeper] using hgd
  have huZ : Z.A.units + 64 < cLine := by
    show (X.A.deeper _).units + 64 < cLine
    simp only [Around.deeper]
    omega
  have hb : bootBuiltins ("repr" : Str) = some (.builtin "repr") := by decide +kernel
  let cl : List Clause := [(.ref CS, 1, fun a cls d => tRet (tLst (tCons (tC (.str S2)) (tCons (tCB (rShow X.K) (tCons (tXf a cls d CS F (tVar 1)) tNil)) tNil))))]
  refine ⟨_, pss_one (ps_try_each (X := Z) (l := cl) (tb := fun W D σ H => σ.length = 2 → ∃ Ech : XK, (∀ cls d σ' H', Ech cls d H' → σ'.length = 2 → W cls d σ' H') ∧ σ[0]? = some (some (.ref f)) ∧ H c' = some (CodeO c' q) ∧ tl Ech H (fun v H' => Tells X.K S1 v H' D.rt))
      rfl rfl nd LamX.takes0 (fun W pn xe tk _ => ?_)
      (.cons (i := 1) hn (show sg.names.lookup n = some .local from hnl) ⟨hgl, hde, .inl hme⟩ (fun a oe cls d pn hz hf => pss_one (ps_ret (pe_lst (pa_cons pe_str (pa_cons (pe_callB (id := "repr") (r := rShow X.K) (call_show (X := Z.suite a ((a, oe) :: pn)) hgdZ huZ) hglr hmr hb (pa_cons (pe_xf xf no hz hf (pe_var (i := 1) hn (Or.inl hnl) hdn hcn)) pa_nil)) pa_nil))))) .nil)), ?_⟩
  · refine ⟨fun pins s' σ H' D I h' => ?_⟩
    have e2 : σ.length = 2 := I.len.trans hl
    obtain ⟨Ech, hW, h1, h2, h3⟩ := h' e2
    have hp := act (fun cls d σ H => σ.length = 2 → W cls d σ H) pn xe Ech p1 p2 (takes_len tk 2 hl) hW
    have hq := pss_one (ps_ret (pos := p7) (pe_lst (pos := p6) (pa_cons (pe_str (x := S1) (j := j1) (pos := p3)) (pa_cons (pe_callB (p := p4) (pos := p5) (call_show (X := Z.tr pn xe) hgdZ huZ) hglr hmr hb (pa_cons hp pa_nil)) pa_nil))))
    refine hq.run pins s' σ H' D I ?_
    exact ⟨h1, h2, h3⟩
  · intro hs
    refine ⟨_, fun cls d σ' H' he hl' => ?_, h0 f, hc, h⟩
    obtain ⟨rfl, dd, v, rfl, hd, k⟩ := he
    refine .inl ⟨te, fun a ha => ?_⟩
    have hset : (σ'.set 1 (some (.ref a)))[1]? = some (some (V.ref a)) := by
      rw [List.getElem?_set_self (by omega)]
    exact ⟨_, hset, rfl, rfl, dd, _, v, rfl, hd, by simp, k⟩
end
end Z
/-! A def whose code object is known; a lambda handed to a def that tells what its call did. -/
namespace Z
open PySem PySem.Spec PyProof.Rows L2 LamX
section
variable {P : Program} {w : World} {K : PySem.W.Frag} {mg : Str → Option Value} {base : Heap}
/-- as okG, where the frame's code object is the def's own -/
theorem okGC {x qual : Str} {st : Stmt} {f : Addr} {fd : FuncData} {N ps : List Str} {k : Nat} {sp : Sp} {c : Addr} (F : Fun K x qual st f fd) (hc : fd.code = .ref c) (S : FnScope N ps (defScope st)) (len : ∀ vs H Q E, sp vs H Q E → vs.length = ps.length)
    (hbody : ∀ (A : Around) (outer : List Env) (s : Shared) (H : Hp) (vs : List V) (Q : VK) (E : XK), Room k (A.deeper (envOfC qual (defScope st) s.heap.objs.size f (.ref c))) →
      (A.deeper (envOfC qual (defScope st) s.heap.objs.size f (.ref c))).guards = some [] → sp vs H Q E →
      ∃ t, PSs (cxOf CX0 P w K mg base N qual (defScope st) f (.ref c) A outer s H E).nox (defBody st) t ∧ t { nx := fun _ H' => Q .non H', rt := Q } (start N vs) H) : FnG P w K mg base (k + 1) f fd ps sp := by
  obtain ⟨oc, od, kV, doc, pm, an, cdv, ct, osl, rfl, lk, hcd⟩ := F.ex
  obtain rfl : cdv = .ref c := hc
  refine ⟨len, fun A outer s H args us vs Q E hr hgd e0 hb r hsp => ?_⟩
  have keepB : ∀ b o, base.get? b = some o → s.heap.get? b = some o := fun b o e => (e0.bs b o e).1
  have KX : K.In s.heap := e0.mod.kin.keeps keepB
  have lim : s.heap.NoLimit := e0.mod.nolimit.keeps keepB
  refine codeAny_call_function hr.depth (KX _ _ lk) rfl S.co S.gen rfl (PySem.W.codeRec_of KX hcd) (hb _ _ _ _ ?_)
  refine wpAny_newFunctionEnv_cells S.kind (fun y hy => ?_) fun env he s1 x => ?_
  · rcases S.par y.1 (List.of_mem_zip (a := y.1) (b := y.2) hy).1 with q | q
    · exact .inl q
    · exact .inr ⟨q, PySem.W.cellsFrom_some _ _ _ (.inl q)⟩
  subst he
  refine ⟨lim.keeps x.toInCall.keep, codeAny_func ?_⟩
  obtain ⟨t, ht, hq⟩ := hbody A outer s H vs Q E (hr.deeper _) (by simpa [Around.deeper] using hgd) hsp
  have I0 := inv_start (CX := CX0) (E := E) (cd := .ref c) (qual := qual) (f := f) (N := N) S hr.hd e0 (len _ _ _ _ hsp) r x
  refine wpAny_mono (ht.nox.run [] s1 (start N vs) H _ I0 hq) (fun fl s' hs => ?_) fun e s' hs => hs
  have fin : ∀ {σ' : L2.St} {H' : Hp} {v : V} {u : Value}, Inv (cxOf CX0 P w K mg base N qual (defScope st) f (.ref c) A outer s H E) [] σ' H' s' → RelV v u → Q v H' → CE outer P w H s Q u s' :=
    fun J rv q => ⟨_, _, J.os, J.bare, J.base, J.hok, rv, q⟩
  match fl, hs with
  | .ret u, ⟨v, σ', H', J, rv, q⟩ => exact fin J rv q
  | .next, ⟨σ', H', J, q⟩ => exact fin (v := V.non) (u := Value.none) J rfl q
  | .brk, ⟨_, _, _, q⟩ => exact q.elim
  | .cont, ⟨_, _, _, q⟩ => exact q.elim
end
section
variable {X : Cx} {T : List (Addr × Str)} {x a e n F S1 S2 : Str} {st : Stmt} {g CS c P : Addr} {k : Nat} {fd : FuncData} {Ng : List Str} {params : Arguments} {body : Expr} {scope : Scope} {t : XK → TE} {p lpos pos : Pos} {j1 j2 : Nat} {p1 p2 p3 p4 p5 p6 p7 p8 p9 pa pb pc pd pe pf pg ph : Pos}
/-- x(lambda: body), x a def that tells what the call did -/
theorem pe_lamTell (Fg : Fun X.K x x st g fd) (hg : Gl X x) (hm : X.mg x = some (.ref g)) (hb : L2.Binds X.K fd [a] []) (Sg : FnScope Ng [a] (defScope st)) (hNg : Ng[0]? = some a) (hva : Vis (defScope st) a)
    (hbd : defBody st = [.Try [.Return (some (.List [.Constant (.str S1) j1 p3, .Call (.Name "repr" p4) [.Call (.Name a p1) [] [] p2] [] p5] p6)) p7]
      [.ExceptHandler (some (.Name e p8)) (some n) [.Return (some (.List [.Constant (.str S2) j2 p9, .Call (.Name "repr" pa) [.Attribute (.Name n pb) F pc] [] pd] pe)) pf] pg] [] [] ph])
    (hge : (defScope st).names.lookup e = some .globalImplicit) (hme : X.mg e = some (.ref CS)) (hgr : (defScope st).names.lookup ("repr" : Str) = some .globalImplicit) (hmr : X.mg "repr" = none) (h0 : ∀ f : Addr, (L2.start Ng [V.ref f])[0]? = some (some (V.ref f)))
    (hl : Ng.length = 2) (hn : Ng[1]? = some n) (hnl : (defScope st).names.lookup n = some .local)
    (te : PySem.W.exmOne X.K (.ref CS) (.ref CS) = some true) (xf : XfC X.K CS) (no : PySem.W.findIn X.K (.ref CS) F = some none) (hgd : X.A.guards = some []) (hu : X.A.units + 80 < cLine)
    (TB : TabB X.base X.mg c P) (hcode : X.env.code = .ref c) (hmT : (P, X.env.qual ++ "<lambda>") ∈ T) (hu2 : ∀ p ∈ T, p.1 = P → p.2 = X.env.qual ++ "<lambda>") (hr : Room (k + 2) X.A) (L : LamS X.env.scope scope) (hdef : defaultsOf params X.env = ([], []))
    (hbind : ∀ (q : Str) (cl : List (Str × Addr)) (pm cv ctv : Value), bindArgs (PySem.W.kla_fn "<lambda>" q params body scope cl pm cv ctv) ⟨[], []⟩ = pure [])
    (hbody : ∀ (A : Around) (outer : List Env) (s : Shared) (H : Hp) (E : XK) (f c' : Addr), Room k (A.deeper (lamEnv X scope s.heap.objs.size f c')) → PE (lamCx X A outer s H E scope f c') body (t E))
    (hde : (e == ("__debug__" : Str)) = false := by decide) (hdn : (n == ("__debug__" : Str)) = false := by decide) (hcn : (n == ("__classdict__" : Str)) = false := by decide)
    (hdb : (x == ("__debug__" : Str)) = false := by decide) (hd : (a == ("__debug__" : Str)) = false := by decide) (hcd : (a == ("__classdict__" : Str)) = false := by decide) :
    PE X (.Call (.Name x p) [.Lambda params body scope lpos] [] pos) (tLam T (TShow X.K CS F S1 S2) t) := by
  obtain ⟨oc, od, kV, doc, pm, an, cdv, ct, osl, rfl, lk, hcd2⟩ := Fg.ex
  have G := show_gives (X := X) (x := x) (q := X.env.qual ++ "<lambda>") (g := g) (cdg := cdv) (j1 := j1) (j2 := j2) (p1 := p1) (p2 := p2) (p3 := p3) (p4 := p4) (p5 := p5) (p6 := p6) (p7 := p7) (p8 := p8) (p9 := p9) (pa := pa) (pb := pb) (pc := pc) (pd := pd) (pe := pe) (pf := pf) (pg := pg) (ph := ph) (a := a) (S1 := S1) (S2 := S2) hge hme hde h0 hgr hmr Sg.nd hl hn hnl hdn hcn te xf no hgd hu
  rw [← hbd] at G
  exact pe_lamcall hg hm Fg.kp lk hcd2 hb Sg hNg hva G TB hcode hmT hu2 hr L hdef hbind hbody hdb hd hcd
end
end Z
/-! `x in l`, l a list of texts, x any thing that can be shown (a dict too). -/
namespace Z
open PySem PySem.Spec PyProof.Rows L2 PySem.SeqAt
open PyProof
theorem dict_eq_declines_str (a : Addr) (es : Array DictEntry) (ep : Nat) (b : Str) (u : Tok) :
    Meets (Builtin.«dict.__eq__» ⟨[.ref a, .str b u], []⟩) (fun _ R s => s.heap.get? a = some { cls := .type "dict", dict := none, data := .dict es ep, slots := #[] } ∧ R (.ok (.ret .notImplemented)) s) :=
  .of_wp fun prog w A R s h => by
    obtain ⟨hp, g, d, tk, os⟩ := s
    obtain ⟨hl, h⟩ := h
    have f1 := F.sub_str_dict
    wp_walk using wpAny_load hl
    exact ⟨_, rfl, h⟩
theorem str_eq_declines_dict (b : Str) (u : Tok) (a : Addr) (es : Array DictEntry) (ep : Nat) :
    Meets (Builtin.«str.__eq__» ⟨[.str b u, .ref a], []⟩) (fun _ R s => s.heap.get? a = some { cls := .type "dict", dict := none, data := .dict es ep, slots := #[] } ∧ R (.ok (.ret .notImplemented)) s) :=
  .of_wp fun prog w A R s h => by
    obtain ⟨hp, g, d, tk, os⟩ := s
    obtain ⟨hl, h⟩ := h
    wp_walk using wpAny_load hl
    exact ⟨_, rfl, h⟩
section
variable {A : Around} {s : Shared}
theorem rc_str_dict {a : Addr} {es : Array DictEntry} {ep : Nat} (b : Str) (u : Tok) (ho : s.heap.get? a = some { cls := .type "dict", dict := none, data := .dict es ep, slots := #[] }) (hu : A.units < cLine) : RcAt A s (.str b u) (.ref a) false := fun prog w E Q h =>
  rc_eq_decline_or (k := false) (typeIs_str s b u) ⟨_, ho, rfl⟩ (by decide) F.sub_dict_str F.slot_str_eq F.slot_dict_eq_refl
    (fun _ hq => call_meets F.slot_str_eq (typeIs_str s b u) F.entry_str_eq (F.args_str_eq_2 _ _) (str_eq_declines_dict b u a es ep) ⟨ho, hq⟩)
    (fun _ hq => call_meets F.slot_dict_eq_refl ⟨_, ho, rfl⟩ F.entry_dict_eq (F.args_dict_eq_2 _ _) (dict_eq_declines_str a es ep b u) ⟨ho, hq⟩)
    (fun _ hq => wpAny_of_eq (rfl : isSame (.str b u) (.ref a) = pure false) hq) (.inr hu) h
theorem eq_str_dict {a : Addr} {es : Array DictEntry} {ep : Nat} (b : Str) (u : Tok) (ho : s.heap.get? a = some { cls := .type "dict", dict := none, data := .dict es ep, slots := #[] }) (hu : A.units < cLine) : EqAt A s (.str b u) (.ref a) false := fun prog w E Q h => by
  unfold eqBool
  refine wpAny_holding ?_
  refine wpAny_ite_split (fun hab => absurd (eq_of_beq hab) nofun) (fun _ => ?_)
  exact wpAny_bind (rc_str_dict b u ho hu prog w E _ (wpAny_truthy_bool h))
end
section
variable {X : Cx}
/-- is the thing one of the texts -/
def rInT (K : PySem.W.Frag) : R2 := fun x y H Q => ∃ (p : Addr) (ws : List Str), y = .ref p ∧ SqL K H p (ws.map V.str) ∧ (∀ z ∈ ws, PyData.strOk z = true) ∧ ((∃ d, Dp K H x d ∧ SeqAt.shaped d = true ∧ Q (.bl (ws.any fun z => PyData.eqv (.str z) d)) H) ∨ ∃ a kvs, x = .ref a ∧ H a = some (.dK kvs) ∧ Q (.bl false) H)
theorem dp_strs {K : PySem.W.Frag} {H : Hp} : ∀ ws : List Str, DpAll K H (ws.map V.str) (ws.map PyData.str)
  | [] => .nil
  | x :: r => .cons (.str x) (dp_strs r)
theorem shaped_strs (ws : List Str) (ok : ∀ z ∈ ws, PyData.strOk z = true) : SeqAt.shaped (.list (ws.map PyData.str)) = true := by
  have h1 : ∀ ws : List Str, (∀ z ∈ ws, PyData.strOk z = true) → PyData.canLayAll0 (ws.map PyData.str) = true ∧ PyData.depthAll (ws.map PyData.str) ≤ 1 := by
    intro ws
    induction ws with
    | nil => exact fun _ => ⟨rfl, by simp [PyData.depthAll]⟩
    | cons x r ih => exact fun k => ⟨by simp [PyData.canLayAll0, PyData.canLay0, (ih fun z hz => k z (List.mem_cons_of_mem _ hz)).1, k x List.mem_cons_self], by simp [PyData.depthAll, PyData.depth]; exact (ih fun z hz => k z (List.mem_cons_of_mem _ hz)).2⟩
  have h2 := (h1 ws ok).2
  have h3 := (h1 ws ok).1
  unfold SeqAt.shaped
  rw [show (PyData.list (ws.map PyData.str)).canLay0 = true from by simpa [PyData.canLay0] using h3]
  have h4 : (PyData.list (ws.map PyData.str)).depth ≤ 2 := by
    simp only [PyData.depth]
    omega
  simp only [Bool.true_and, decide_eq_true_eq]
  omega
theorem reads_strs {h : Heap} : ∀ (ws : List Str) (vs : List Value) (as : List Addr), ReadsAll h vs (ws.map PyData.str) as → ∀ y ∈ vs, ∃ b u, y = .str b u
  | [], _, _, r, y, hy => by cases r; cases hy
  | x :: ws, _, _, r, y, hy => by
    cases r with
    | cons r1 r2 =>
      rcases List.mem_cons.mp hy with rfl | hy
      · cases r1
        exact ⟨_, _, rfl⟩
      · exact reads_strs ws _ _ r2 y hy
theorem op_inT (hu : X.A.units + 65 < cLine) : OpR X (compareOp .In) (rInT X.K) := by
  intro pins s σ H x y v u Q I rx ry h
  obtain ⟨p, ws, rfl, hl, ok, ⟨d, hd, sd, q⟩ | ⟨a, kvs, rfl, ha, q⟩⟩ := h
  · refine op_inD hu pins s σ H x (.ref p) v u Q I rx ry ⟨d, ws.map PyData.str, hd, .lst hl (dp_strs ws), sd, shaped_strs ws ok, ?_⟩
    rw [List.any_map]
    exact q
  · cases rx
    obtain ⟨bs, r2⟩ := Dp.reads I (.list (ws.map PyData.str)) (.ref p) u (.lst hl (dp_strs ws)) ry
    obtain ⟨_, _, _, _, ⟨cl, dd, dt, sl⟩, es, ep, ho, ⟨x1, x2, x3⟩, hdat, _⟩ := dk_of I.hok ha
    simp only at x1 x2 x3 hdat
    subst x1 x2 x3 hdat
    cases r2 with
    | list h1 h2 h3 h4 =>
      refine in_listAt (fun _ => false) ⟨_, h1, h2, _, h3⟩ (fun y hy => ?_) ?_
      · obtain ⟨b, t, rfl⟩ := reads_strs ws _ _ h4 y (by simpa using hy)
        exact eq_str_dict b t ho (by show X.A.units + 1 < cLine; omega)
      · rw [show Array.any _ (fun _ => false) = false from by simp]
        exact ⟨.bl false, H, I, rfl, q⟩
end
end Z
/-! The law's end with tables: what the top says of a def's code object and its table. -/
namespace Z
open PySem PySem.Spec PyProof.Rows L2 LamX
/-- the def of that name stands at an address, with a code object whose table is empty -/
def TabOf (mg : Str → Option Value) (h : Heap) (nm : Str) : Prop := ∃ (a : Addr) (o : Obj) (fd : FuncData) (c P : Addr), mg nm = some (.ref a) ∧ h.get? a = some o ∧ o.data = .func fd ∧ fd.code = .ref c ∧ h.IsCode c P #[] ∧ h.TableAt c P #[]
/-- read by a part that holds the def and its code object -/
theorem TabOf.read {K : PySem.W.Frag} {mg : Str → Option Value} {h : Heap} {nm : Str} {f c P : Addr} {oc : Value} {od : Option Addr} {fd : FuncData} {osl : Array (Option Value)} {cl : Value} {cd : Option Addr} {vs : Array Value} {csl : Array (Option Value)}
    (t : TabOf mg h nm) (KX : K.In h) (hm : mg nm = some (.ref f)) (lk : K.lookup f = some ⟨oc, od, .func fd, osl⟩) (hc : fd.code = .ref c) (lc : K.lookup c = some ⟨cl, cd, .fields vs, csl⟩) (hp : vs[11]? = some (.ref P)) :
    h.get? P = some noTab ∧ PySem.W.CodeHd h c P := by
  obtain ⟨a, o, fd', c', P', h1, h2, h3, h4, h5, h6⟩ := t
  rw [hm] at h1
  cases h1
  rw [KX _ _ lk] at h2
  cases h2
  cases h3
  rw [hc] at h4
  cases h4
  have X := PySem.W.CodeHd.of h5 h6
  obtain ⟨⟨o2, vs2, e1, e2, e3, e4⟩, e5⟩ := h6
  rw [KX _ _ lc] at e1
  cases e1
  cases e3
  rw [hp] at e4
  cases e4
  exact ⟨e5, X⟩
theorem walkGT2 {l : PySem.W.OpenLaw} {n k : Nat} {q : Program} {loose : List Str} {XP : (Str → Option Value) → Heap → Prop} {YP : World → Heap → Prop} {d : DefRec} {K : Params → PySem.W.Frag} {x : Str}
    (hn : l.most = some n) (hn2 : n ≤ sizeLine) (hdf : d.params.defaults = []) (hr : Room k callerA)
    (hY : ∀ (w : World) (h : Heap), YP w h → (K w.params).In h) (nms : List Str) (hrec : (nms.all fun nm => (recsOf q).any fun e => e.name == nm) = true)
    (F : ∀ (w : World) (mg : Str → Option Value) (fa : Addr) (h : Heap), (K w.params).In h → h.Ns mainGlobals mg → mg d.name = some (.ref fa) → (∀ nm ∈ nms, TabOf mg h nm) → LawAtG l w (K w.params) k n x mg fa h) :
    PySem.W.WalkO q loose XP YP l.row.toRowW d [] (fun f vs => PySem.call f vs) := by
  refine Att.attach_call hn hdf fun w s₀ s₁ mg mb fa o pm cd doc a vs ns G Y ho hd hcd hmg hobj hints hlen hg => ?_
  have KX := hY w _ Y
  have tabs : ∀ nm ∈ nms, TabOf mg s₁.heap nm := fun nm hm => by
    obtain ⟨dL, h1, h2⟩ := List.any_eq_true.mp (List.all_eq_true.mp hrec nm hm)
    have e := G.T.tab dL h1
    rw [beq_iff_eq.mp h2] at e
    exact e
  obtain ⟨fd, cs, sp, hT, nT, hC, hb, hsp, hF⟩ := F w mg fa _ KX G.T.g hmg tabs
  exact law_callGT KX G.T.g G.T.b G.T.builtins G.T.nolimit hg hT nT hC G.T.bmain hobj hints (Nat.le_trans hlen hn2) hr hF hb fun H hH hS => hsp H a ns hlen hH hS
end Z
/-! sorted of a list of tuples of ints, each with one item or more: by their first items, then the second ones, and so on. -/
namespace Z
open PySem PySem.Spec L2 PyProof.Rows
def lexF (fin : Bool) : List Int → List Int → Bool
  | x :: xs, y :: ys => if x = y then lexF fin xs ys else decide (x < y)
  | _, _ => fin
/-- a tuple before another one -/
def lexL : List Int → List Int → Bool
  | _, [] => false
  | [], _ :: _ => true
  | x :: xs, y :: ys => if x = y then lexL xs ys else decide (x < y)
theorem lexF_L : ∀ (a b : List Int), lexF (decide (a.length < b.length)) a b = lexL a b
  | [], [] => rfl
  | [], y :: ys => by simp [lexF, lexL]
  | x :: xs, [] => by simp [lexF, lexL]
  | x :: xs, y :: ys => by
    have e : decide ((x :: xs).length < (y :: ys).length) = decide (xs.length < ys.length) := by simp
    rw [e]
    unfold lexF lexL
    by_cases h : x = y
    · rw [if_pos h, if_pos h]
      exact lexF_L xs ys
    · rw [if_neg h, if_neg h]
theorem lexL_asym : ∀ (a b : List Int), lexL a b = true → lexL b a = false
  | _, [], h => by cases ‹List Int› <;> simp [lexL] at h
  | [], y :: ys, _ => by simp [lexL]
  | x :: xs, y :: ys, h => by
    unfold lexL at h ⊢
    by_cases e : x = y
    · rw [if_pos e] at h
      rw [if_pos e.symm]
      exact lexL_asym xs ys h
    · rw [if_neg e] at h
      rw [if_neg (fun z => e z.symm)]
      have := of_decide_eq_true h
      exact decide_eq_false (by omega)
theorem lexL_tr : ∀ (a b c : List Int), lexL b a = false → lexL c b = false → lexL c a = false
  | [], _, c, _, _ => by cases c <;> simp [lexL]
  | x :: xs, [], c, h, _ => by simp [lexL] at h
  | x :: xs, y :: ys, [], _, h => by simp [lexL] at h
  | x :: xs, y :: ys, z :: zs, h1, h2 => by
    unfold lexL at h1 h2 ⊢
    by_cases e1 : y = x
    · rw [if_pos e1] at h1
      by_cases e2 : z = y
      · rw [if_pos e2] at h2
        rw [if_pos (e2.trans e1)]
        exact lexL_tr xs ys zs h1 h2
      · rw [if_neg e2] at h2
        have := of_decide_eq_false h2
        rw [if_neg (by omega)]
        exact decide_eq_false (by omega)
    · rw [if_neg e1] at h1
      have h1 := of_decide_eq_false h1
      by_cases e2 : z = y
      · rw [if_neg (by omega)]
        exact decide_eq_false (by omega)
      · rw [if_neg e2] at h2
        have := of_decide_eq_false h2
        rw [if_neg (by omega)]
        exact decide_eq_false (by omega)
theorem swo_lexL {α : Type} (k : α → List Int) : SrtO.Swo fun v u => lexL (k v) (k u) := ⟨fun x y h => lexL_asym _ _ h, fun x y z h1 h2 => lexL_tr _ _ _ h1 h2⟩
theorem ints_uniq {xs : List Value} {ns ms : List Int} (h : IntsAre xs ns) (g : IntsAre xs ms) : ns = ms := by
  induction h generalizing ms with
  | nil => cases g; rfl
  | cons p t h ih => cases g with | cons q u g => rw [ih g]
theorem tupI_uniq {h : Heap} {v : Value} {ns ms : List Int} (a : TS.TupInts h v ns) (b : TS.TupInts h v ms) : ns = ms := by
  obtain ⟨p, xs, rfl, ⟨o, ho, _, n, hd⟩, i⟩ := a
  obtain ⟨q, ys, e, ⟨o', ho', _, n', hd'⟩, j⟩ := b
  cases e
  rw [ho] at ho'
  cases ho'
  rw [hd] at hd'
  cases hd'
  exact ints_uniq i j
open Classical in
noncomputable def kT (h : Heap) (v : Value) : List Int := if e : ∃ ns, TS.TupInts h v ns then Classical.choose e else []
theorem kT_of {h : Heap} {v : Value} {ns : List Int} (t : TS.TupInts h v ns) : kT h v = ns := by
  have e : ∃ ns, TS.TupInts h v ns := ⟨ns, t⟩
  unfold kT
  rw [dif_pos e]
  exact tupI_uniq (Classical.choose_spec e) t
section
variable {prog : Program} {w : World} {A : Around} {s : Shared}
theorem kat_lexL {b fin : Bool} {xs ys : List Value} {ns ms : List Int} {Q : Bool → Shared → Prop} (i : Nat) (hx : IntsAre xs ns) (hy : IntsAre ys ms) (h : Q (lexF fin ns ms) s) : PySem.W.KatLex prog w A b fin Q (xs.zip ys) i s := by
  induction hx generalizing ys ms i with
  | nil => exact PySem.W.kat_nil (by cases hy <;> exact h)
  | @cons p t xs ns hx ih =>
    cases hy with
    | nil => exact PySem.W.kat_nil h
    | @cons q u ys ms hy =>
      show PySem.W.KatLex prog w A b fin Q ((Value.int p t, Value.int q u) :: xs.zip ys) i s
      refine PySem.W.kat_cons (wpAny_eqBool_int ?_)
      by_cases e : p = q
      · subst e
        rw [beq_self_eq_true]
        refine PySem.W.kat_yes ?_
        rw [lexF, if_pos rfl] at h
        exact ih (i + 1) hy h
      · rw [show (p == q) = false from beq_eq_false_iff_ne.mpr e]
        rw [lexF, if_neg e] at h
        exact PySem.W.kat_no (TS.oneLt_ints _ h)
theorem tup_cmp {h0 : Heap} {vs : List Value} (hp : ∀ v ∈ vs, TS.TupInts s.heap v (kT h0 v)) : SrtO.Cmp prog w A s (PyProof.Rows.tuples' true) (fun p => p.1 ∈ vs) (SrtO.lt2 fun v u => lexL (kT h0 v) (kT h0 u)) := by
  intro p q hm hm'
  obtain ⟨a, xs, e, ⟨o, ho, hc, n, hd⟩, i⟩ := hp _ hm
  obtain ⟨a', xs', e', ⟨o', ho', hc', n', hd'⟩, i'⟩ := hp _ hm'
  show wpAny (model prog w) A (PyProof.Rows.keyLt' (PyProof.Rows.tuples' true) p.1 q.1) (fun r s' => s' = s ∧ r = lexL (kT h0 p.1) (kT h0 q.1)) (fun _ _ => False) s
  generalize kT h0 p.1 = ns at i ⊢
  generalize kT h0 q.1 = ms at i' ⊢
  rw [e, e']
  refine PySem.W.kat_lt ho hd ho' hd' (kat_lexL 0 i i' ⟨rfl, ?_⟩)
  have l1 : xs.size = ns.length := by rw [← i.length]; simp
  have l2 : xs'.size = ms.length := by rw [← i'.length]; simp
  rw [l1, l2]
  exact lexF_L ns ms
theorem firsts_any {h : Heap} : ∀ vs : List Value, (∀ v ∈ vs, ∃ n ns, TS.TupInts h v (n :: ns)) → ∃ fs, PySem.W.KatTups h vs fs ∧ fs.length = vs.length ∧ ∀ f, f ∈ fs → ∃ n t, f = Value.int n t
  | [], _ => ⟨[], PySem.W.KatTups.nil, rfl, fun f hf => by simp at hf⟩
  | v :: vs, x => by
    obtain ⟨fs, k, hl, hi⟩ := firsts_any vs fun u hu => x u (List.mem_cons_of_mem _ hu)
    obtain ⟨n0, ns, ⟨a, xs, rfl, ⟨o, ho, hc, n, hdt⟩, i⟩⟩ := x v (List.mem_cons_self ..)
    obtain ⟨y, ys, e⟩ : ∃ y ys, xs.toList = y :: ys := by
      cases q : xs.toList with
      | nil =>
        rw [q] at i
        cases i
      | cons y ys => exact ⟨y, ys, rfl⟩
    obtain ⟨m, t, hy⟩ := i.all y (by rw [e]; exact List.mem_cons_self ..)
    refine ⟨y :: fs, PySem.W.KatTups.cons ho hc hdt ?_ k, by simp [hl], ?_⟩
    · have z := congrArg (fun l : List Value => l[0]?) e
      simpa using z
    · intro f hf
      rcases List.mem_cons.mp hf with rfl | hf
      · exact ⟨m, t, hy⟩
      · exact hi f hf
theorem tups_sortableO {h0 : Heap} {a : Addr} {vs : List Value} (hl : 0 < vs.length) (hp : ∀ v ∈ vs, TS.TupInts s.heap v (kT h0 v)) (hne : ∀ v ∈ vs, kT h0 v ≠ []) (ha : ∀ o, s.heap.get? a = some o → o.cls ≠ .type "tuple") : SrtO.SortableO prog w A s a vs fun v u => lexL (kT h0 v) (kT h0 u) := by
  intro h' keep
  have hp' : ∀ v ∈ vs, TS.TupInts h' v (kT h0 v) := fun v hm => (hp v hm).keeps fun b o e c => keep b o (fun z => by subst z; exact ha o e c) e
  obtain ⟨fs, h1, h2, h3⟩ := firsts_any vs fun v hm => by
    obtain ⟨n, ns, e⟩ := List.exists_cons_of_ne_nil (hne v hm)
    exact ⟨n, ns, e ▸ hp' v hm⟩
  refine ⟨PyProof.Rows.tuples' true, fun Q E hq => ?_, tup_cmp hp'⟩
  refine PySem.W.kat_kind (T := .type "int") h1 (by omega) (fun f hm => ?_) (by rfl) ?_
  · obtain ⟨x, t, rfl⟩ := h3 f hm
    exact PySem.W.Looks.now
  · have e : (Value.type "int" != Value.type "tuple") = true := by first | decide +kernel | rfl | decide
    rw [e]
    exact hq
end
/-- sorted(l), l a list of tuples of ints -/
def rSortedL (K : PySem.W.Frag) : List V → Hp → VK → Prop := fun vs H Q => ∃ (a : Addr) (L : List (Addr × List Int)), vs = [V.ref a] ∧ SqL K H a (L.map fun z => V.ref z.1) ∧ (∀ z ∈ L, SqT K H z.1 (z.2.map V.int) ∧ z.2 ≠ []) ∧
  ∀ (L' : List (Addr × List Int)) (p : Addr), L'.Perm L → L'.Pairwise (fun z w => lexL w.2 z.2 = false) → H p = none → Q (.ref p) (upd H p (.lst (L'.map fun z => V.ref z.1)))
theorem cr_sortedL {X : Cx} : CallR X (.builtin "sorted") (rSortedL X.K) := by
  intro pins s σ H vs us Q I r h
  obtain ⟨a, L, rfl, hs, hx, q⟩ := h
  obtain ⟨its, rv, hl, hz⟩ := I.list hs
  obtain ⟨u, rfl, ru⟩ := vals1 r
  obtain rfl : u = Value.ref a := ru
  obtain rfl := refs_vals _ rv
  have hT : ∀ z ∈ L, TS.TupInts s.heap (.ref z.1) z.2 := fun z m => by
    obtain ⟨js, rj, hj, _⟩ := I.tuple (hx z m).1
    exact ⟨_, _, rfl, hj, by simpa using ints_vals rj⟩
  have hk : ∀ z ∈ L, kT s.heap (.ref z.1) = z.2 := fun z m => kT_of (hT z m)
  have hz' : (L.map fun z => Value.ref z.1).length ≤ sizeLine := by
    rw [List.length_map] at hz ⊢
    exact hz
  refine SrtO.sorted_ord (swo_lexL (kT s.heap)) hl.isList hz' (fun h2 h₁ d ha kk => ?_) fun out h1 h2 => ?_
  · refine tups_sortableO (s := { s with heap := h₁ }) (by omega) (fun v hm => ?_) (fun v hm => ?_) fun o e => ?_
    · obtain ⟨z, mz, rfl⟩ := List.mem_map.mp hm
      rw [hk z mz]
      exact (hT z mz).keeps fun b o e _ => (kk b o e).2
    · obtain ⟨z, mz, rfl⟩ := List.mem_map.mp hm
      rw [hk z mz]
      exact (hx z mz).2
    · have e' : some o = some (seqObj "list" _ 0) := e.symm.trans ha
      cases e'
      intro c
      exact absurd (Value.type.inj c) (by decide)
  · obtain ⟨L', g3, g4⟩ := perm_lift (fun z : Addr × List Int => Value.ref z.1) h2.perm L rfl
    subst g4
    obtain ⟨n, hn⟩ := sortedAll_at s.heap (L.map fun z => Value.ref z.1) (L'.map fun z => Value.ref z.1).toArray
    have hl' : (L'.map fun z => V.ref z.1).length ≤ sizeLine := by
      rw [List.length_map, g3.length_eq]
      rw [List.length_map] at hz'
      exact hz'
    have rl : Vals (L'.map fun z => V.ref z.1) (L'.map fun z => Value.ref z.1) := vals_maps (fun z : Addr × List Int => V.ref z.1) (fun z => Value.ref z.1) L' fun z _ => rfl
    refine ⟨.ref (s.heap.objs.size + 1), upd H (s.heap.objs.size + 1) (.lst (L'.map fun z => V.ref z.1)), I.laid (t' := s.toks) (fun b o e => sortedAll_old e) (Nat.le_succ _) ⟨hl', _, n, rl, hn⟩, rfl, q L' _ g3 ?_ (I.hok.fresh (Nat.le_succ _))⟩
    have g5 := List.pairwise_map.mp h1
    refine g5.imp_of_mem fun {z w} mz mw e => ?_
    dsimp only at e
    rw [hk w (g3.mem_iff.mp mw), hk z (g3.mem_iff.mp mz)] at e
    exact e
end Z
/-! list(d.values()). -/
namespace Z
open PySem PySem.Spec PyProof.Rows L2
def tListVals (te : TE) : TE := fun σ H Q => te σ H fun x H1 => ∃ (d : Addr) (kvs : List (Key × V)), x = .ref d ∧ H1 d = some (.dK kvs) ∧ ∀ p, H1 p = none → Q (.ref p) (upd H1 p (.lst (kvs.map (·.2))))
theorem kv_vals : ∀ {kvs : List (Key × V)} {vs : List (Key × Value)}, KV kvs vs → Vals (kvs.map (·.2)) (vs.map (·.2))
  | [], [], .nil => .nil
  | _ :: _, _ :: _, .cons h t => .cons h.2 (kv_vals t)
section
variable {X : Cx} {e : Expr} {te : TE} {p apos cpos pos : Pos}
theorem pe_listVals (hc : X.calm = true) (he : PE X e te) (hg : Gl X "list") (hm : X.mg "list" = none) (hv : bootBuiltins "list" = some (.type "list")) (hbase : attributeBase e "values" X.env (eval e X.env) = eval e X.env := by rfl) (hline : (apos.endLine == cpos.line) = true := by rfl)
    (hs : starEach [.Call (.Attribute e "values" apos) [] [] cpos] X.env = (false, eval (.Call (.Attribute e "values" apos) [] [] cpos) X.env) :: starEach [] X.env := by rfl) :
    PE X (.Call (.Name "list" p) [.Call (.Attribute e "values" apos) [] [] cpos] [] pos) (tListVals te) := by
  refine ⟨fun pins s σ H Q I hq => ?_⟩
  refine wpAny_Call_Name_kw (ld_blt I hg hm hv ?_)
  refine PyProof.Rows.callWith_type1 ?_ hs rfl
  rw [hs]
  show wpAny _ _ (spliced ((false, eval (.Call (.Attribute e "values" apos) [] [] cpos) X.env) :: backTo pos (starEach [] X.env))) _ _ s
  refine Calls.spliced_cons ?_
  refine wpAny_Call_method (T := "dict") (id := "dict.values") hbase rfl hline F.plainAttrs_dict F.slot_dict_values F.type_dict_values (thn (he.run pins s σ H _ I hq) fun u s1 ⟨x, H1, I1, rx, d, kvs, ex, hd, q⟩ => ?_)
  subst ex
  obtain rfl : u = Value.ref d := rx
  obtain ⟨hz, hs0, vs, kv, hdo⟩ := I1.hok d _ hd
  obtain ⟨ep, hat⟩ := hdo.dictAt
  have lk : kvs.length = vs.length := Paired.length kv
  have I2 : Inv X pins σ H1 { s1 with heap := s1.heap.push { cls := .type "dict_values", data := .fields #[.ref d] } } := I1.kept (t' := s1.toks) fun b ob q => Heap.get?_push_of_some _ q
  refine ⟨hdo.typeIs, hdo.mapOf.noDict, ?_⟩
  show wpAny _ _ (callWith cpos (.builtin "dict.values") [.ref d] [] []) _ X.xe s1
  refine method_meetsIn F.slot_dict_values F.entry_dict_values rfl (PySem.evalArgs_none ⟨rfl, hdo.typeIs, F.args_dict_values_1 _, _, meets_dict_values (mixKind X.prog X.w) d hs0, ⟨vs, hdo⟩, ?_⟩)
  refine Calls.spliced_nil ?_
  refine PySem.W.kdl_call (PySem.W.kdl_values (knd := mixKind X.prog X.w) (r := s1.heap.objs.size) (kvs := vs) (ep := ep)) (I1.ok.hd hc) ⟨⟨_, Heap.get?_push_size _ rfl, rfl, rfl⟩, hat.push _⟩ (by omega) fun h' tk acc c hk hS hacc => ?_
  have e := PySem.W.kdl_vals_eq acc.toList (by rw [Array.length_toList]; exact hacc.1) fun j v g => hacc.2 j v (by rw [← Array.getElem?_toList]; exact g)
  have rv : Vals (kvs.map (·.2)) acc.toList := by
    rw [e]
    exact kv_vals kv
  refine ⟨.ref _, upd H1 _ (.lst (kvs.map (·.2))), I2.laid (t' := tk) hk (Nat.le_refl _) (show ObjOk X.prog X.w _ _ _ (.lst (kvs.map (·.2))) from ⟨by rw [List.length_map]; exact hz, acc.toList, c, rv, by rw [Array.toArray_toList]; exact hS⟩), rfl, q _ (I2.hok.fresh (Nat.le_refl _))⟩
end
end Z
/-! A range with a step as a value; `x in t`, t a tuple of any data; behind a split a token is out. -/
namespace Z
open PySem PySem.Spec PyProof.Rows L2 CwR
def RngO (p : Addr) (i j c : Int) : HO := .ext fun h => ∃ t u v, h.get? p = some { cls := .type "range", data := .fields #[.int i t, .int j u, .int c v] }
section
variable {X : Cx}
theorem cr_range3 : CallR X (.type "range") (fun vs H Q => ∃ (i j c : Int) (n : Nat), vs = [V.int i, V.int j, V.int c] ∧ RgC i j c n ∧ ∀ p, H p = none → Q (.ref p) (upd H p (RngO p i j c))) := by
  intro pins s σ H vs us Q I r h
  obtain ⟨i, j, c, n, rfl, ⟨c0, c1, c2, c3⟩, q⟩ := h
  match us, r with
  | [_, _, _], .cons r1 (.cons r2 (.cons r3 .nil)) =>
    obtain ⟨t, rfl⟩ := r1
    obtain ⟨u, rfl⟩ := r2
    obtain ⟨v, rfl⟩ := r3
    refine call_range_3 c0 ⟨.ref s.heap.objs.size, upd H s.heap.objs.size (RngO s.heap.objs.size i j c), I.laid (t' := s.toks) (fun b o e => Heap.get?_push_of_some _ e) (Nat.le_refl _) ?_, rfl, q _ (I.hok.fresh (Nat.le_refl _))⟩ (.inl (PyProof.noPylong_small c1))
    exact ⟨⟨t, u, v, Heap.get?_push_size _ rfl⟩, ⟨_, Heap.get?_push_size _ rfl⟩, fun h1 h2 ⟨t, u, v, e⟩ k => ⟨t, u, v, k _ e⟩⟩
def iRngV (te : TE) : TI := fun σ H R => te σ H fun x H1 => ∃ (p : Addr) (i j c : Int) (n : Nat), x = .ref p ∧ H1 p = some (RngO p i j c) ∧ RgC i j c n ∧ R (Itc i c n) H1
theorem pi_rngV {tg e : Expr} {te : TE} (he : PE X e te) : PI X tg e (iRngV te) := by
  refine ⟨fun pins s σ H R I h => ?_⟩
  refine thn (he.run pins s σ H _ I h) fun v s1 ⟨x, H1, I1, r1, q1⟩ => ?_
  obtain ⟨p, i, j, c, n, e, hp, ⟨c0, c1, c2, c3⟩, q⟩ := q1
  subst e
  cases r1
  obtain ⟨⟨t, u, v, ho⟩, _⟩ := I1.hok p _ hp
  refine wpAny_pyIter_range (show IsRange s1.heap p i j c t u v from ho) c2 ?_
  refine pi_one (tk := s1.toks) I1 _ (turn_rangeC _ i c n) ?_ q
  have e1 : i + ((0 : Nat) : Int) * c = i := by simp
  have e2 : (n : Int) - ((0 : Nat) : Int) = Builtin.Range.rangeSize i j c := by rw [c3]; simp
  show IsRangeIter _ _ (i + ((0 : Nat) : Int) * c) ((n : Int) - ((0 : Nat) : Int)) c
  rw [e1, e2]
  exact Heap.get?_push_size _ rfl
/-- x in t, t a tuple -/
def rInTD (K : PySem.W.Frag) : R2 := fun x y H Q => ∃ d ds, Dp K H x d ∧ Dp K H y (.tuple ds) ∧ SeqAt.shaped d = true ∧ SeqAt.shaped (.tuple ds) = true ∧ Q (.bl (ds.any fun z => PyData.eqv z d)) H
theorem canLay_tup {ds : List PyData} (h : SeqAt.shaped (.tuple ds) = true) : PyData.canLayAll0 ds = true := by
  unfold SeqAt.shaped at h
  simp only [Bool.and_eq_true] at h
  simpa [PyData.canLay0] using h.1
theorem op_inTD (hu : X.A.units + 65 < cLine) : OpR X (compareOp .In) (rInTD X.K) := by
  intro pins s σ H x y v u Q I rx ry h
  obtain ⟨d, ds, hd, he, sd, se, q⟩ := h
  obtain ⟨as, r1⟩ := Dp.reads I d x v hd rx
  obtain ⟨bs, r2⟩ := Dp.reads I (.tuple ds) y u he ry
  refine SeqAt.in_tuple_reads r2 r1 (canLay_tup se) (SeqAt.canLay_of_shaped sd) ?_ ⟨.bl _, H, I, rfl, q⟩
  have h1 : d.depth ≤ 64 := by
    unfold SeqAt.shaped at sd
    simp only [Bool.and_eq_true, decide_eq_true_eq] at sd
    omega
  have h2 : min (PyData.depthAll ds) d.depth ≤ 64 := Nat.le_trans (Nat.min_le_right _ _) h1
  show X.A.units + 1 + _ < cLine
  omega
theorem pst_asg {tg e : Expr} {te : TE} {g : TG} {pos : Pos} (he : PET X e te) (hg : PG X tg g) (hs : swapsWithSole [tg] e pos.line X.env = pure false := by rfl) (hw : swappedStores [tg] e X.env = pure none := by rfl)
    (h1 : (assignEach [tg] X.env).map (·.2) = [assign tg X.env] := by rfl) : PST X (.Assign [tg] e pos) (tAsg te g) := by
  intro pins s σ H D h0 I h
  refine wpAny_Assign_stores (thn (he pins s σ H _ h0 I h) fun v s1 ⟨x, H1, I1, r1, q1⟩ => ?_) hs hw
  rw [h1]
  exact thn (hg.run pins s1 σ H1 x v _ I1 r1 q1) fun _ s2 q => q
/-- a split by a written text: behind it a token is out -/
theorem pe_splT {o : Expr} {to : TE} {c : Str} {j : Nat} {cp apos pos : Pos} (ho : PE X o to) (hs : starEach [.Constant (.str c) j cp] X.env = [(false, eval (.Constant (.str c) j cp) X.env)] := by rfl)
    (hbase : attributeBase o "split" X.env (eval o X.env) = eval o X.env := by rfl) (hline : (apos.endLine == pos.line) = true := by rfl) :
    ∀ (pins : List (Addr × Obj)) (s : Shared) (σ : L2.St) (H : Hp) (Q : VK), Inv X pins σ H s → tM1 (fun x xs H Q => ∃ a b, x = .str a ∧ xs = [.str b] ∧ (b.length == 0) = false ∧ a.length + 2 ≤ sizeLine ∧ rNewStrs (Txt.split a b) H Q) to (tC (.str c)) σ H Q →
      wpAny (model X.prog X.w) X.A (eval (.Call (.Attribute o "split" apos) [.Constant (.str c) j cp] [] pos) X.env) (fun v s2 => 1 ≤ s2.toks ∧ EP X pins σ Q v s2) X.xe s := by
  intro pins s σ H Q I h
  refine PySem.Call_method1 hbase hs hline (thn (ho.run pins s σ H _ I h) fun v s1 ⟨x, H1, I1, r1, q1⟩ => ?_)
  obtain ⟨⟨a, rfl⟩, q1⟩ := q1
  obtain ⟨t, rfl⟩ := _root_.id r1
  refine ⟨"str", _, F.plainAttrs_str, F.slot_str_split, F.type_str_split, typeIs_str _ _ _, (fun _ e => nomatch e), Calls.callWith_builtin rfl (Calls.evalArgs_plain (Calls.spliced_cons ?_))⟩
  refine Calls.Constant_str (Calls.spliced_nil ?_)
  refine wpAny_mono (PySem.wpAny_toks (mt_split pins { s1 with toks := s1.toks + 1 } σ H1 _ [.str c] _ [.str c s1.toks] Q (I1.tok (s1.toks + 1)) r1 (.cons ⟨_, rfl⟩ .nil) q1)) (fun u s2 q => ⟨?_, q.2⟩) fun _ _ z => z.2
  have hk : s1.toks + 1 ≤ s2.toks := q.1
  omega
theorem pss_splT {i j : Nat} {x c : Str} {o : Expr} {to : TE} {rest : List Stmt} {u : TS} {cp apos pos2 pos' pos : Pos} (hN : X.N.Nodup) (hi : X.N[i]? = some x) (hx : Loc X.env.scope x) (ho : PE X o to) (h2 : PSsT X rest u)
    (hs1 : starEach [.Constant (.str c) j cp] X.env = [(false, eval (.Constant (.str c) j cp) X.env)] := by rfl)
    (hbase : attributeBase o "split" X.env (eval o X.env) = eval o X.env := by rfl) (hline : (apos.endLine == pos2.line) = true := by rfl)
    (hs : swapsWith (.Call (.Attribute o "split" apos) [.Constant (.str c) j cp] [] pos2) (some (.Name x pos')) pos.line X.env = pure false := by rfl) (hf : X.fn x = true ∨ X.env.scope.names.lookup x = some .local := by first | exact .inl rfl | exact .inr rfl | assumption) :
    PSs X (.Assign [.Name x pos'] (.Call (.Attribute o "split" apos) [.Constant (.str c) j cp] [] pos2) pos :: rest) (tSeq (tAsg (tM1 (fun x xs H Q => ∃ a b, x = .str a ∧ xs = [.str b] ∧ (b.length == 0) = false ∧ a.length + 2 ≤ sizeLine ∧ rNewStrs (Txt.split a b) H Q) to (tC (.str c))) (gName i)) u) := by
  refine ⟨fun pins s σ H D I h => ?_⟩
  refine wpAny_execs_cons (wpAny_Assign_Name (wpAny_mono (pe_splT ho hs1 hbase hline pins s σ H _ I h) (fun v s1 q => ?_) fun _ _ z => z) hs)
  obtain ⟨hk, v', H1, I1, r1, q1⟩ := q
  refine wpAny_mono (PySem.wpAny_toks (store_ok (v := v') (u := v) (Q := fun _ s2 => Inv X pins (σ.set i (some v')) H1 s2) I1 hN hi hx r1 (fun _ I2 => I2) hf)) (fun _ s2 q => ?_) fun _ _ z => z.2
  exact h2 pins s2 _ H1 D (Nat.le_trans hk q.1) q.2 q1
end
end Z
/-! list(text). -/
namespace Z
open PySem PySem.Spec PyProof.Rows L2
section
variable {X : Cx}
theorem cr_listS (hc : X.calm = true) : CallR X (.type "list") (fun xs H Q => ∃ z : Str, xs = [.str z] ∧ z.length ≤ sizeLine ∧ ∀ l, H l = none → Q (.ref l) (upd H l (.lst (z.cps.toList.map fun c => V.str ⟨#[c]⟩)))) := by
  intro pins s σ H xs us Q I r h
  obtain ⟨z, rfl, hz, q⟩ := h
  obtain ⟨u, rfl, t, rfl⟩ := vals1 r
  refine PySem.call_list_str (I.ok.hd hc) z t (fun h' tk acc' c' kp e items => ?_) (hn := hz)
  obtain ⟨i1, i2⟩ := items
  refine ⟨.ref s.heap.objs.size, _, I.laid (t' := tk) kp (Nat.le_refl _) (show ObjOk X.prog X.w _ h' _ (.lst (z.cps.toList.map fun c => V.str ⟨#[c]⟩)) from ⟨?_, acc'.toList, c', ?_, e⟩), rfl, q _ (I.hok.fresh (Nat.le_refl _))⟩
  · rw [List.length_map, Array.length_toList]
    exact hz
  · refine vals_of_idx _ _ (by rw [Array.length_toList, List.length_map, Array.length_toList]; exact i1) fun j u hu => ?_
    obtain ⟨c, t, e1, e2⟩ := i2 j u (by simpa using hu)
    refine ⟨.str ⟨#[c]⟩, ?_, ⟨t, e2⟩⟩
    rw [List.getElem?_map, Array.getElem?_toList, e1]
    rfl
end
end Z
/-! l.index(x, start), flat items. -/
namespace Z
open PySem PySem.Spec PyProof.Rows L2
section
variable {X : Cx}
def rIndexFrom (K : PySem.W.Frag) : V → List V → Hp → VK → Prop := fun x xs H Q => ∃ (a : Addr) (ys : List V) (y z : V) (i j : Nat), x = V.ref a ∧ xs = [y, .int (i : Int)] ∧ i ≤ ys.length ∧ SqL K H a ys ∧ flatV y = true ∧ ys.all flatV = true ∧ i ≤ j ∧ ys[j]? = some z ∧ eqV z y = true ∧
  (∀ (m : Nat) (z' : V), i ≤ m → m < j → ys[m]? = some z' → eqV z' y = false) ∧ Q (.int (j : Int)) H
theorem mt_indexFrom : MtR X "list.index" (rIndexFrom X.K) := by
  intro pins s σ H x xs v us Q I rx rxs h
  obtain ⟨a, ys, y, z, i, j, rfl, rfl, hil, hs, fy, fys, hij, hz, hzj, hno, q⟩ := h
  cases rx
  match us, rxs with
  | [uy, ui], .cons ry (.cons ri .nil) =>
    obtain ⟨ti, rfl⟩ := ri
    obtain ⟨its, rv, ⟨⟨cls, dd, data, sl⟩, n, ho, hc, hdn, hd⟩, hlen⟩ := I.list hs
    simp only at hc hd
    subst hc hd
    obtain ⟨u, hu, ru⟩ := rv.get hz
    obtain ⟨hjl, hje⟩ := List.getElem?_eq_some_iff.mp hu
    have hvl := rv.length
    have hsl := sizeLine_eq
    have hj : j < its.toArray.size := by simpa using hjl
    have sf : PySem.SeqAt.searchFrom (i : Int) its.toArray.size = i := by
      unfold PySem.SeqAt.searchFrom
      have : its.toArray.size = ys.length := by simp [hvl]
      omega
    refine call_meets PySem.F.slot_list_index ⟨_, ho, rfl⟩ PySem.F.entry_list_index (PySem.F.args_list_index_3 _ _ _)
      (PySem.SeqAt.list_index3_found a its.toArray n dd sl uy (fun m => if hm : m < its.toArray.size then eqU y its.toArray[m] else false) (i : Int) ti j hj (by rw [sf]; exact hij) (by omega) ?_ ?_) ⟨ho, fun m hm => ?_, ?_⟩
    · have e1 : its.toArray[j] = u := by simpa using hje
      rw [dif_pos hj, e1, eqU_of ru (flat_at fys hz)]
      exact hzj
    · intro m hm hm1 hm2
      rw [sf] at hm1
      have hmy : m < ys.length := by rw [hvl]; simpa using hm
      have hy' : ys[m]? = some ys[m] := List.getElem?_eq_getElem hmy
      obtain ⟨u2, hu2, ru2⟩ := rv.get hy'
      obtain ⟨_, hme⟩ := List.getElem?_eq_some_iff.mp hu2
      have e1 : its.toArray[m] = u2 := by simpa using hme
      rw [dif_pos hm, e1, eqU_of ru2 (flat_at fys hy')]
      exact hno m _ hm1 hm2 hy'
    · rw [dif_pos hm]
      exact mem_eqAt ry fy rv fys _ (by simp)
    · exact ⟨.int (j : Int), H, I.tok _, ⟨_, rfl⟩, q⟩
end
end Z
/-! A text taken some times. -/
namespace Z
open PySem PySem.Spec PyProof.Rows L2
theorem not_long {n : Nat} (h : n ≤ 100000) : Builtin.Str.tooLong n = false := by
  unfold Builtin.Str.tooLong
  first
    | exact decide_eq_false (by omega)
    | (have := sizeLine_eq; exact decide_eq_false (by omega))
section
variable {X : Cx}
theorem op_mulS : OpR X (binaryOp .Mult) (fun x y H Q => ∃ (z : Str) (n : Nat), x = .str z ∧ y = .int (n : Int) ∧ n ≤ 1000 ∧ z.length * n ≤ 100000 ∧ z.length ≤ 1000 ∧ Q (.str (Txt.mul z (n : Int))) H) := by
  intro pins s σ H x y v u Q I rx ry h
  obtain ⟨z, n, rfl, rfl, hn, hz, hl, q⟩ := h
  obtain ⟨t, rfl⟩ := rx
  obtain ⟨t2, rfl⟩ := ry
  refine SB.mul ⟨?_, fun h1 _ h3 => ?_, fun _ _ => ?_⟩ (fun t' k => ⟨.str (Txt.mul z (n : Int)), H, I.tok k, ⟨_, rfl⟩, q⟩)
  · rw [decide_eq_false (by omega), decide_eq_false (by omega)]
    rfl
  · have h4 : (z.length : Int) ≤ (2 ^ 63 - 1) / (n : Int) := by
      refine Int.le_ediv_of_mul_le (by omega) ?_
      have h5 : (z.length : Int) * (n : Int) = ((z.length * n : Nat) : Int) := by simp
      rw [h5]
      have h6 : (2 ^ 63 - 1 : Int) = 9223372036854775807 := by decide
      omega
    omega
  · exact not_long (by simpa using hz)
end
end Z
/-! repr of data that holds empty dicts anywhere. -/
namespace Z
open PySem PySem.Spec PyProof.Rows L2
mutual
inductive Dx (K : PySem.W.Frag) (H : Hp) : V → PyData → Prop
  | non : Dx K H .non .none
  | bl (b : Bool) : Dx K H (.bl b) (.bool b)
  | int (i : Int) : Dx K H (.int i) (.int i)
  | str (x : Str) : Dx K H (.str x) (.str x)
  | lst {a : Addr} {vs : List V} {ds : List PyData} (h : SqL K H a vs) (t : DxAll K H vs ds) : Dx K H (.ref a) (.list ds)
  | tup {a : Addr} {vs : List V} {ds : List PyData} (h : SqT K H a vs) (t : DxAll K H vs ds) : Dx K H (.ref a) (.tuple ds)
  | emp {a : Addr} (h : H a = some (.dK [])) : Dx K H (.ref a) (.dict [])
  | one {a : Addr} {k : Key} {i : Int} (h : H a = some (.dK [(k, .int i)])) : Dx K H (.ref a) (.dict [(kD k, .int i)])
inductive DxAll (K : PySem.W.Frag) (H : Hp) : List V → List PyData → Prop
  | nil : DxAll K H [] []
  | cons {v : V} {vs : List V} {d : PyData} {ds : List PyData} (h : Dx K H v d) (t : DxAll K H vs ds) : DxAll K H (v :: vs) (d :: ds)
end
section
variable {X : Cx} {pins : List (Addr × Obj)} {σ : L2.St} {H : Hp} {s : Shared}
theorem not_sys (hsys : ∃ mm, X.base.Ns sysModules mm) (I : Inv X pins σ H s) {a : Addr} {o : HO} (h : H a = some o) : a ≠ sysModules := fun e => by
  obtain ⟨mm, ob, es, ep, ho, _⟩ := hsys
  have := (I.bs _ _ ho).2
  rw [← e, h] at this
  cases this
theorem sq_sys (hsys : ∃ mm, X.base.Ns sysModules mm) (I : Inv X pins σ H s) {a : Addr} {xs : List V} (h : SqL X.K H a xs) : a ≠ sysModules := by
  rcases h with (h | ⟨o, h⟩) | ⟨o, its, n, hk, _, _, hd, _⟩
  · exact not_sys hsys I h
  · exact not_sys hsys I h
  · intro e
    obtain ⟨mm, ob, es, ep, ho, hq, _⟩ := hsys
    have hb : X.base.get? a = some o := I.ok.mod.kin _ _ hk
    rw [e, ho] at hb
    cases hb
    rw [hd] at hq
    cases hq
mutual
theorem Dx.reads (hsys : ∃ mm, X.base.Ns sysModules mm) (I : Inv X pins σ H s) : ∀ (d : PyData) (v : V) (u : Value), Dx X.K H v d → RelV v u → ∃ as, Reads s.heap u d as ∧ sysModules ∉ as
  | .none, _, _, h, r => by
    cases h; cases r
    exact ⟨_, .none, by simp⟩
  | .bool b, _, _, h, r => by
    cases h; cases r
    exact ⟨_, .bool b, by simp⟩
  | .int i, _, _, h, r => by
    cases h
    obtain ⟨t, rfl⟩ := r
    exact ⟨_, .int i t, by simp⟩
  | .str x, _, _, h, r => by
    cases h
    obtain ⟨t, rfl⟩ := r
    exact ⟨_, .str x t, by simp⟩
  | .list ds, _, _, h, r => by
    cases h with
    | lst hs t =>
      cases r
      have ns := sq_sys hsys I hs
      obtain ⟨its, rv, ⟨o, n, ho, hc, _, hd⟩, _⟩ := I.list hs
      obtain ⟨as, q1, q2⟩ := DxAll.reads hsys I ds _ its t rv
      exact ⟨_, .list ho hc hd q1, fun z => by
        rcases List.mem_cons.mp z with z | z
        · exact ns z.symm
        · exact q2 z⟩
  | .tuple ds, _, _, h, r => by
    cases h with
    | tup hs t =>
      cases r
      obtain ⟨its, rv, ⟨o, ho, hc, n, hd⟩, _⟩ := I.tuple hs
      obtain ⟨as, q1, q2⟩ := DxAll.reads hsys I ds _ its t rv
      exact ⟨_, .tuple ho hc hd q1, q2⟩
  | .dict kvs, _, _, h, r => by
    cases h with
    | emp hs =>
      cases r
      have ns := not_sys hsys I hs
      obtain ⟨_, hne, vs, kv, o, es, ep, ho, hx, hdat, _, pr, _⟩ := dk_of I.hok hs
      cases kv
      have e0 : es.toList = [] := by
        cases he : es.toList with
        | nil => rfl
        | cons y l => rw [he] at pr; cases pr
      refine ⟨_, .dict ho hx.1 hdat (as := []) (bs := []) (by rw [e0]; exact .nil) (by rw [e0]; exact .nil), fun z => ?_⟩
      simp at z
      exact ns z.symm
    | @one a k i hs =>
      cases r
      have ns := not_sys hsys I hs
      obtain ⟨_, hne, vs, kv, o, es, ep, ho, hx, hdat, _, pr, _⟩ := dk_of I.hok hs
      cases kv with
      | cons h1 h2 =>
        cases h2
        obtain ⟨e1, rv⟩ := h1
        obtain ⟨t, rv⟩ := rv
        rename_i q' _
        obtain ⟨k', v'⟩ := q'
        dsimp only at e1 rv
        subst e1 rv
        generalize hl : es.toList = l at pr
        cases pr with
        | cons hk hv hr =>
          cases hr
          rename_i e
          have rk : Reads s.heap e.key (kD k) [] := by
            rcases keyIs_shape hk with ⟨j, u, rfl, e2⟩ | ⟨y, u, rfl, e2⟩
            · rw [e2]; exact .int j u
            · rw [e2]; exact .str y u
          have rv : Reads s.heap e.val (.int i) [] := by rw [hv]; exact .int i t
          refine ⟨_, Reads.dict ho hx.1 hdat (by rw [hl]; exact .cons rk .nil) (by rw [hl]; exact .cons rv .nil), fun z => ?_⟩
          simp at z
          exact ns z.symm
theorem DxAll.reads (hsys : ∃ mm, X.base.Ns sysModules mm) (I : Inv X pins σ H s) : ∀ (ds : List PyData) (vs : List V) (us : List Value), DxAll X.K H vs ds → Vals vs us → ∃ as, ReadsAll s.heap us ds as ∧ sysModules ∉ as
  | [], _, _, h, r => by
    cases h; cases r
    exact ⟨_, .nil, by simp⟩
  | d :: ds, _, _, h, r => by
    cases h with
    | cons h1 h2 =>
      cases r with
      | cons r1 r2 =>
        obtain ⟨as, q1, n1⟩ := Dx.reads hsys I d _ _ h1 r1
        obtain ⟨bs, q2, n2⟩ := DxAll.reads hsys I ds _ _ h2 r2
        exact ⟨_, .cons q1 q2, fun z => (List.mem_append.mp z).elim n1 n2⟩
end
def rShowX (K : PySem.W.Frag) : List V → Hp → VK → Prop := fun xs H Q => ∃ (v : V) (d : PyData), xs = [v] ∧ Dx K H v d ∧ d.showable = true ∧ d.depth ≤ 62 ∧ d.shown.length ≤ sizeLine ∧ Q (.str d.shown) H
theorem call_showX (hsys : ∃ mm, X.base.Ns sysModules mm) (hgd : X.A.guards = some []) (hu : X.A.units + 64 < cLine) : CallR X (.builtin "repr") (rShowX X.K) := by
  intro pins s σ H xs us Q I r h
  obtain ⟨v, d, rfl, hd, sh, dp, hz, q⟩ := h
  obtain ⟨u, rfl, rx⟩ := vals1 r
  obtain ⟨as, rd, nm⟩ := Dx.reads hsys I d v u hd rx
  have far : ∀ a, u = .ref a → wpAny (model X.prog X.w) X.A (call (.builtin "repr") [u]) (EP X pins σ Q) X.xe s := fun a e => by
    subst e
    exact repr_of_reads' rd sh (fun _ => nm) hgd (by omega) (fun _ _ e => e) (fun h' t tk hk => ⟨.str d.shown, H, I.kept (t' := tk) hk, ⟨t, rfl⟩, q⟩) hz
  cases hd with
  | non =>
    cases rx
    exact PySem.P.repr_of_none ⟨.str _, H, I.tok _, ⟨_, rfl⟩, by simpa only [PyData.shown] using q⟩
  | bl b =>
    cases rx
    exact PySem.P.repr_of_bool ⟨.str _, H, I.tok _, ⟨_, rfl⟩, by simpa only [PyData.shown] using q⟩
  | int i =>
    obtain ⟨t, rfl⟩ := rx
    exact PySem.P.repr_of_int (by simpa [PyData.showable] using sh) ⟨.str _, H, I.tok _, ⟨_, rfl⟩, by simpa only [PyData.shown] using q⟩
  | str x =>
    obtain ⟨t, rfl⟩ := rx
    refine PySem.P.repr_of_str ⟨.str _, H, I.tok _, ⟨_, rfl⟩, by simpa only [PyData.shown] using q⟩ (by simpa only [PyData.shown] using hz)
  | lst h t => cases rx; exact far _ rfl
  | tup h t => cases rx; exact far _ rfl
  | emp h => cases rx; exact far _ rfl
  | one h => cases rx; exact far _ rfl
end
mutual
theorem Dp.dx {K : PySem.W.Frag} {H : Hp} : ∀ (d : PyData) (v : V), Dp K H v d → Dx K H v d
  | .none, _, h => by cases h; exact .non
  | .bool b, _, h => by cases h; exact .bl b
  | .int i, _, h => by cases h; exact .int i
  | .str x, _, h => by cases h; exact .str x
  | .list ds, _, h => by
    cases h with
    | lst a b => exact .lst a (DpAll.dx ds _ b)
  | .tuple ds, _, h => by
    cases h with
    | tup a b => exact .tup a (DpAll.dx ds _ b)
  | .dict _, _, h => by cases h
theorem DpAll.dx {K : PySem.W.Frag} {H : Hp} : ∀ (ds : List PyData) (vs : List V), DpAll K H vs ds → DxAll K H vs ds
  | [], _, h => by cases h; exact .nil
  | d :: ds, _, h => by
    cases h with
    | cons a b => exact .cons (Dp.dx d _ a) (DpAll.dx ds _ b)
end
theorem Sh.dx {K : PySem.W.Frag} {H : Hp} {v : V} {d : PyData} (h : Sh K H v d) : Dx K H v d := by
  cases h with
  | of a _ => exact Dp.dx _ _ a
  | emp a => exact .emp a
  | one a => exact .one a
end Z
/-! any over a list of data; a walk over one of two kinds; a keyword call in a try's body -/
namespace Z
open PySem PySem.Spec PyProof.Rows L2
section
variable {X : Cx}
def rAnyD (K : PySem.W.Frag) : List V → Hp → VK → Prop := fun vs H Q => ∃ (a : Addr) (ds : List PyData), vs = [V.ref a] ∧ Dp K H (.ref a) (.list ds) ∧ PyData.plainAll ds = true ∧ (∀ d ∈ ds, d.fits63) ∧ Q (.bl (ds.any PyData.truthy)) H
theorem cr_anyD (cm : X.calm = true) : CallR X (.builtin "any") (rAnyD X.K) := by
  intro pins s σ H vs us Q I r h
  obtain ⟨a, ds, rfl, hd, pl, ft, q⟩ := h
  obtain ⟨u, rfl, ru⟩ := vals1 r
  cases ru
  cases hd with
  | lst hs ha =>
    obtain ⟨its, rv, hl, _⟩ := I.list hs
    obtain ⟨as, rr⟩ := Dp.readsAll I ds _ its ha rv
    refine PySem.W.any_list_data (vs := its.toArray) (I.ok.hd cm) hl.isList (by simpa using rr) pl ft fun h' tk hk => ?_
    exact ⟨.bl _, H, I.kept hk, rfl, q⟩
theorem pi_or {tg e : Expr} {t1 t2 : TI} (h1 : PI X tg e t1) (h2 : PI X tg e t2) : PI X tg e fun σ H R => t1 σ H R ∨ t2 σ H R :=
  ⟨fun pins s σ H R I h => h.elim (h1.run pins s σ H R I) (h2.run pins s σ H R I)⟩
end
section
variable {X : Cx} {CX : CXT} {k n : Nat} {f : Addr} {fd : FuncData} {ps ks : List Str} {sp : Sp} {E : L2.St → XK} {x : Str} {p pos : Pos} {kws : List Keyword} {tk : TA} {g : List Value → List Value → List Value} {gV : List V → List V → List V}
theorem run_kwS {pins : List (Addr × Obj)} {σ : L2.St} {H : Hp} {s : Shared} {Q : VK} {ws : List Value} {zs : List V} (F : FnOk X.prog X.w X.K X.mg X.base CX k f fd ps sp) (hr : Room k X.A) (hb : KBn X.K fd ps 0 ks g gV) (hx : PassesAt CX X σ (E σ))
    (I : Inv X pins σ H s) (r : Vals zs ws) (l : zs.length = ks.length) (h : sp (gV [] zs) H Q (E σ)) : wpAny (model X.prog X.w) X.A (call (.ref f) [] (ks.zip ws)) (EP X pins σ Q) X.xe s := by
  have b := hb.to s [] ws I.kIn rfl (r.length.symm.trans l)
  refine wpAny_call (codeAny_mono (F.run X.A X.stack s H ⟨[], ks.zip ws⟩ (g [] ws) (gV [] zs) Q (E σ) hr I.env0 b (hb.rel .nil r) h) fun o z q => ?_)
  match o, q with
  | .error e, q => exact hx pins H s e z I q
  | .ok (.ret u), q => exact I.after q
  | .ok .next, q => exact False.elim q
  | .ok .brk, q => exact False.elim q
  | .ok .cont, q => exact False.elim q
/-- f(k = v, ..), what it lets out told by the slots -/
theorem pe_kwS (F : FnOk X.prog X.w X.K X.mg X.base CX k f fd ps sp) (hr : Room k X.A) (hg : Gl X x) (hm : X.mg x = some (.ref f)) (hk : PySem.W.keepIn X.K (.ref f) = true) (hb : KBn X.K fd ps 0 ks g gV) (hx : ∀ σ, PassesAt CX X σ (E σ)) (hkw : PK X kws tk)
    (all : (backToKw pos (keywordEach kws X.env)).all (·.1.isSome) = true := by rfl) (names : (backToKw pos (keywordEach kws X.env)).filterMap (·.1) = ks := by rfl)
    (db : (x == ("__debug__" : Str)) = false := by decide) (no : ((backTo pos (starEach [] X.env)).any (·.1) || (backToKw pos (keywordEach kws X.env)).any (·.1.isNone)) = false := by rfl) :
    PE X (.Call (.Name x p) [] kws pos) (fun σ H Q => tk σ H fun zs H2 => zs.length = ks.length ∧ sp (gV [] zs) H2 Q (E σ)) := by
  constructor
  intro pins s σ H Q I h
  refine wpAny_Call_Name_kw (ld_glob I hg hm ?_ db)
  refine PySem.W.callWith_KW0 (h₀ := X.base) I.ok.mod.kin hk all (thn (hkw.run pos pins s σ H _ I h) fun ws s2 hv => ?_) no
  obtain ⟨zs, H2, I2, rz, l2, q2⟩ := hv
  refine ⟨I2.kIn, ?_⟩
  rw [names]
  exact run_kwS F hr hb (hx σ) I2 rz l2 q2
end
end Z
namespace K1
open PySem PySem.Spec L2 Z
def topS (i : Nat) : Stmt := PySem.Challenge.pw_arrowcells_k40_tests_on_stores.main.body.getD i (.Pass ⟨0, 0, 0, 0⟩)
abbrev s_is_number : Stmt := topS 5
abbrev N_is_number : List Str := ["value"]
theorem sc_is_number : FnScope N_is_number ["value"] (defScope s_is_number) := ⟨rfl, rfl, rfl, by decide +kernel, rfl, by decide +kernel, by decide +kernel⟩
abbrev s_is_whole : Stmt := topS 6
abbrev N_is_whole : List Str := ["value", "low", "high"]
theorem sc_is_whole : FnScope N_is_whole ["value", "low", "high"] (defScope s_is_whole) := ⟨rfl, rfl, rfl, by decide +kernel, rfl, by decide +kernel, by decide +kernel⟩
abbrev s_is_place : Stmt := topS 7
abbrev N_is_place : List Str := ["value"]
theorem sc_is_place : FnScope N_is_place ["value"] (defScope s_is_place) := ⟨rfl, rfl, rfl, by decide +kernel, rfl, by decide +kernel, by decide +kernel⟩
abbrev s_is_letter : Stmt := topS 8
abbrev N_is_letter : List Str := ["value"]
theorem sc_is_letter : FnScope N_is_letter ["value"] (defScope s_is_letter) := ⟨rfl, rfl, rfl, by decide +kernel, rfl, by decide +kernel, by decide +kernel⟩
abbrev s_is_target : Stmt := topS 9
abbrev N_is_target : List Str := ["value"]
theorem sc_is_target : FnScope N_is_target ["value"] (defScope s_is_target) := ⟨rfl, rfl, rfl, by decide +kernel, rfl, by decide +kernel, by decide +kernel⟩
abbrev s_is_tuple_of : Stmt := topS 10
abbrev N_is_tuple_of : List Str := ["value", "many"]
theorem sc_is_tuple_of : FnScope N_is_tuple_of ["value", "many"] (defScope s_is_tuple_of) := ⟨rfl, rfl, rfl, by decide +kernel, rfl, by decide +kernel, by decide +kernel⟩
abbrev s_comparison_in : Stmt := topS 12
abbrev N_comparison_in : List Str := ["words"]
theorem sc_comparison_in : FnScope N_comparison_in ["words"] (defScope s_comparison_in) := ⟨rfl, rfl, rfl, by decide +kernel, rfl, by decide +kernel, by decide +kernel⟩
abbrev s_need_known : Stmt := topS 21
abbrev N_need_known : List Str := ["letters", "names", "letter"]
theorem sc_need_known : FnScope N_need_known ["letters", "names"] (defScope s_need_known) := ⟨rfl, rfl, rfl, by decide +kernel, rfl, by decide +kernel, by decide +kernel⟩
abbrev s_test_tree : Stmt := topS 24
abbrev N_test_tree : List Str := ["test", "tree"]
theorem sc_test_tree : FnScope N_test_tree ["test"] (defScope s_test_tree) := ⟨rfl, rfl, rfl, by decide +kernel, rfl, by decide +kernel, by decide +kernel⟩
abbrev s_test_or_none : Stmt := topS 25
abbrev N_test_or_none : List Str := ["value"]
theorem sc_test_or_none : FnScope N_test_or_none ["value"] (defScope s_test_or_none) := ⟨rfl, rfl, rfl, by decide +kernel, rfl, by decide +kernel, by decide +kernel⟩
abbrev s_test_in : Stmt := topS 26
abbrev N_test_in : List Str := ["words", "joint", "firsts", "comparisons", "joints", "first"]
theorem sc_test_in : FnScope N_test_in ["words"] (defScope s_test_in) := ⟨rfl, rfl, rfl, by decide +kernel, rfl, by decide +kernel, by decide +kernel⟩
abbrev s_letters_tested : Stmt := topS 27
abbrev N_letters_tested : List Str := ["tree", "found", "item", "word", "letter"]
theorem sc_letters_tested : FnScope N_letters_tested ["tree"] (defScope s_letters_tested) := ⟨rfl, rfl, rfl, by decide +kernel, rfl, by decide +kernel, by decide +kernel⟩
abbrev s_place_told : Stmt := topS 29
abbrev N_place_told : List Str := ["places", "word"]
theorem sc_place_told : FnScope N_place_told ["places", "word"] (defScope s_place_told) := ⟨rfl, rfl, rfl, by decide +kernel, rfl, by decide +kernel, by decide +kernel⟩
abbrev s_does_hold : Stmt := topS 30
abbrev N_does_hold : List Str := ["test", "places", "told", "sign", "letter", "word"]
theorem sc_does_hold : FnScope N_does_hold ["test", "places"] (defScope s_does_hold) := ⟨rfl, rfl, rfl, by decide +kernel, rfl, by decide +kernel, by decide +kernel⟩
abbrev s_init : Stmt := inClass (topS 34) 0
abbrev N_init : List Str := ["self", "names", "cells", "wrong"]
theorem sc_init : FnScope N_init ["self", "names", "cells"] (defScope s_init) := ⟨rfl, rfl, rfl, by decide +kernel, rfl, by decide +kernel, by decide +kernel⟩
abbrev s_eq : Stmt := inClass (topS 34) 1
abbrev N_eq : List Str := ["self", "other"]
theorem sc_eq : FnScope N_eq ["self", "other"] (defScope s_eq) := ⟨rfl, rfl, rfl, by decide +kernel, rfl, by decide +kernel, by decide +kernel⟩
abbrev s_take : Stmt := inClass (topS 34) 2
abbrev N_take : List Str := ["self", "names", "cells", "letter", "_", "place"]
theorem sc_take : FnScope N_take ["self", "names", "cells"] (defScope s_take) := ⟨rfl, rfl, rfl, by decide +kernel, rfl, by decide +kernel, by decide +kernel⟩
abbrev s_are_store_names : Stmt := topS 35
abbrev N_are_store_names : List Str := ["value", "before", "pair"]
theorem sc_are_store_names : FnScope N_are_store_names ["value"] (defScope s_are_store_names) := ⟨rfl, rfl, rfl, by decide +kernel, rfl, by decide +kernel, by decide +kernel⟩
abbrev s_wrong_cell : Stmt := topS 36
abbrev N_wrong_cell : List Str := ["cells", "before", "index", "pair"]
theorem sc_wrong_cell : FnScope N_wrong_cell ["cells"] (defScope s_wrong_cell) := ⟨rfl, rfl, rfl, by decide +kernel, rfl, by decide +kernel, by decide +kernel⟩
abbrev s_store_text : Stmt := topS 37
abbrev N_store_text : List Str := ["names", "cells", "leads", "arrows", "letter", "place", "to"]
theorem sc_store_text : FnScope N_store_text ["names", "cells"] (defScope s_store_text) := ⟨rfl, rfl, rfl, by decide +kernel, rfl, by decide +kernel, by decide +kernel⟩
abbrev s_need_store : Stmt := topS 38
abbrev N_need_store : List Str := ["value"]
theorem sc_need_store : FnScope N_need_store ["value"] (defScope s_need_store) := ⟨rfl, rfl, rfl, by decide +kernel, rfl, by decide +kernel, by decide +kernel⟩
abbrev s_holds : Stmt := topS 40
abbrev N_holds : List Str := ["test", "store", "tree"]
theorem sc_holds : FnScope N_holds ["test", "store"] (defScope s_holds) := ⟨rfl, rfl, rfl, by decide +kernel, rfl, by decide +kernel, by decide +kernel⟩
abbrev s_law_well : Stmt := topS 42
abbrev N_law_well : List Str := ["_law_script", "_law_turn", "_law_own", "_law_stirred", "_law_cell"]
theorem sc_law_well : FnScope N_law_well ["_law_script", "_law_turn"] (defScope s_law_well) := ⟨rfl, rfl, rfl, by decide +kernel, rfl, by decide +kernel, by decide +kernel⟩
abbrev s_law_take : Stmt := topS 43
abbrev N_law_take : List Str := ["_law_well_here", "_law_limit", "_law_figure", "_law_seed"]
theorem sc_law_take : FnScope N_law_take ["_law_well_here", "_law_limit"] (defScope s_law_take) := ⟨rfl, rfl, rfl, by decide +kernel, rfl, by decide +kernel, by decide +kernel⟩
abbrev s_law_pick : Stmt := topS 44
abbrev N_law_pick : List Str := ["_law_well_here", "_law_some"]
theorem sc_law_pick : FnScope N_law_pick ["_law_well_here", "_law_some"] (defScope s_law_pick) := ⟨rfl, rfl, rfl, by decide +kernel, rfl, by decide +kernel, by decide +kernel⟩
abbrev s_law_drawn : Stmt := topS 45
abbrev N_law_drawn : List Str := ["_law_well_here", "_law_signs", "_law_limit", "_law_often", "_law_far", "_law_pool", "_law_spots", "_law_homes", "_law_links", "_law_turn", "_law_k", "_law_near", "_law_sign"]
theorem sc_law_drawn : FnScope N_law_drawn ["_law_well_here", "_law_signs", "_law_limit"] (defScope s_law_drawn) := ⟨rfl, rfl, rfl, by decide +kernel, rfl, by decide +kernel, by decide +kernel⟩
abbrev s_law_store : Stmt := topS 46
abbrev N_law_store : List Str := ["_law_mine", "_law_heads", "_law_sign", "_law_spot"]
theorem sc_law_store : FnScope N_law_store ["_law_mine"] (defScope s_law_store) := ⟨rfl, rfl, rfl, by decide +kernel, rfl, by decide +kernel, by decide +kernel⟩
abbrev s_law_shown : Stmt := topS 47
abbrev N_law_shown : List Str := ["_law_mine", "_law_heads", "_law_tails", "_law_sign", "_law_spot"]
theorem sc_law_shown : FnScope N_law_shown ["_law_mine"] (defScope s_law_shown) := ⟨rfl, rfl, rfl, by decide +kernel, rfl, by decide +kernel, by decide +kernel⟩
abbrev s_law_is_so : Stmt := topS 48
abbrev N_law_is_so : List Str := ["_law_homes", "_law_quiz_here", "_law_told_here", "_law_mark", "_law_one", "_law_two"]
theorem sc_law_is_so : FnScope N_law_is_so ["_law_homes", "_law_quiz_here"] (defScope s_law_is_so) := ⟨rfl, rfl, rfl, by decide +kernel, rfl, by decide +kernel, by decide +kernel⟩
abbrev s_law_quiz : Stmt := topS 49
abbrev N_law_quiz : List Str := ["_law_well_here", "_law_signs", "_law_often", "_law_joint", "_law_found", "_law_turn", "_law_mark", "_law_one"]
theorem sc_law_quiz : FnScope N_law_quiz ["_law_well_here", "_law_signs"] (defScope s_law_quiz) := ⟨rfl, rfl, rfl, by decide +kernel, rfl, by decide +kernel, by decide +kernel⟩
abbrev s_law_quiz_said : Stmt := topS 50
abbrev N_law_quiz_said : List Str := ["_law_quiz_here", "_law_mark", "_law_one", "_law_two"]
theorem sc_law_quiz_said : FnScope N_law_quiz_said ["_law_quiz_here"] (defScope s_law_quiz_said) := ⟨rfl, rfl, rfl, by decide +kernel, rfl, by decide +kernel, by decide +kernel⟩
abbrev s_law_ahead_word : Stmt := topS 51
abbrev N_law_ahead_word : List Str := ["_law_reader"]
theorem sc_law_ahead_word : FnScope N_law_ahead_word ["_law_reader"] (defScope s_law_ahead_word) := ⟨rfl, rfl, rfl, by decide +kernel, rfl, by decide +kernel, by decide +kernel⟩
abbrev s_law_next_word : Stmt := topS 52
abbrev N_law_next_word : List Str := ["_law_reader", "_law_token"]
theorem sc_law_next_word : FnScope N_law_next_word ["_law_reader"] (defScope s_law_next_word) := ⟨rfl, rfl, rfl, by decide +kernel, rfl, by decide +kernel, by decide +kernel⟩
abbrev s_law_is_sign : Stmt := topS 53
abbrev N_law_is_sign : List Str := ["_law_token"]
theorem sc_law_is_sign : FnScope N_law_is_sign ["_law_token"] (defScope s_law_is_sign) := ⟨rfl, rfl, rfl, by decide +kernel, rfl, by decide +kernel, by decide +kernel⟩
abbrev s_law_is_goal : Stmt := topS 54
abbrev N_law_is_goal : List Str := ["_law_token"]
theorem sc_law_is_goal : FnScope N_law_is_goal ["_law_token"] (defScope s_law_is_goal) := ⟨rfl, rfl, rfl, by decide +kernel, rfl, by decide +kernel, by decide +kernel⟩
abbrev s_law_read_quiz : Stmt := topS 55
abbrev N_law_read_quiz : List Str := ["_law_reader", "_law_joint", "_law_found", "_law_turn", "_law_one", "_law_mark", "_law_two", "_law_ahead_here"]
theorem sc_law_read_quiz : FnScope N_law_read_quiz ["_law_reader"] (defScope s_law_read_quiz) := ⟨rfl, rfl, rfl, by decide +kernel, rfl, by decide +kernel, by decide +kernel⟩
abbrev s_law_bent : Stmt := topS 56
abbrev N_law_bent : List Str := ["_law_well_here", "_law_said", "_law_branch", "_law_here", "_law_tokens", "_law_spot", "_law_menu"]
theorem sc_law_bent : FnScope N_law_bent ["_law_well_here", "_law_said"] (defScope s_law_bent) := ⟨rfl, rfl, rfl, by decide +kernel, rfl, by decide +kernel, by decide +kernel⟩
abbrev s_law_odd : Stmt := topS 57
abbrev N_law_odd : List Str := ["_law_well_here"]
theorem sc_law_odd : FnScope N_law_odd ["_law_well_here"] (defScope s_law_odd) := ⟨rfl, rfl, rfl, by decide +kernel, rfl, by decide +kernel, by decide +kernel⟩
abbrev s_law_lacking : Stmt := topS 58
abbrev N_law_lacking : List Str := ["_law_homes", "_law_some", "_law_sign"]
theorem sc_law_lacking : FnScope N_law_lacking ["_law_homes", "_law_some"] (defScope s_law_lacking) := ⟨rfl, rfl, rfl, by decide +kernel, rfl, by decide +kernel, by decide +kernel⟩
abbrev s_law_told : Stmt := topS 59
abbrev N_law_told : List Str := ["_law_first", "_law_second", "_law_is_named", "e"]
theorem sc_law_told : FnScope N_law_told ["_law_first", "_law_second", "_law_is_named"] (defScope s_law_told) := ⟨rfl, rfl, rfl, by decide +kernel, rfl, by decide +kernel, by decide +kernel⟩
abbrev s_law_quiz_read : Stmt := topS 60
abbrev N_law_quiz_read : List Str := ["_law_said", "_law_reader", "_law_found"]
theorem sc_law_quiz_read : FnScope N_law_quiz_read ["_law_said"] (defScope s_law_quiz_read) := ⟨rfl, rfl, rfl, by decide +kernel, rfl, by decide +kernel, by decide +kernel⟩
abbrev s_law_due : Stmt := topS 61
abbrev N_law_due : List Str := ["_law_mine", "_law_quiz_here", "_law_some", "_law_mark", "_law_one", "_law_two", "_law_lacking_here"]
theorem sc_law_due : FnScope N_law_due ["_law_mine", "_law_quiz_here"] (defScope s_law_due) := ⟨rfl, rfl, rfl, by decide +kernel, rfl, by decide +kernel, by decide +kernel⟩
abbrev s_law_right : Stmt := topS 62
abbrev N_law_right : List Str := ["_law_well_here", "_law_signs", "_law_mine", "_law_ours", "_law_odd_here", "_law_turn", "_law_quiz_here", "_law_said", "_law_bent_here", "_law_again", "_law_due_here"]
theorem sc_law_right : FnScope N_law_right ["_law_well_here"] (defScope s_law_right) := ⟨rfl, rfl, rfl, by decide +kernel, rfl, by decide +kernel, by decide +kernel⟩
abbrev s_law : Stmt := topS 63
abbrev N_law : List Str := ["_law_script", "_law_turn"]
theorem sc_law : FnScope N_law ["_law_script"] (defScope s_law) := ⟨rfl, rfl, rfl, by decide +kernel, rfl, by decide +kernel, by decide +kernel⟩
abbrev s_err_InvalidTest : Stmt := inClass (topS 16) 0
theorem sc_err_InvalidTest : FnScope ["self", "given"] ["self", "given"] (defScope s_err_InvalidTest) := ⟨rfl, rfl, rfl, by decide +kernel, rfl, by decide +kernel, by decide +kernel⟩
abbrev s_err_NotAStore : Stmt := inClass (topS 17) 0
theorem sc_err_NotAStore : FnScope ["self", "given"] ["self", "given"] (defScope s_err_NotAStore) := ⟨rfl, rfl, rfl, by decide +kernel, rfl, by decide +kernel, by decide +kernel⟩
abbrev s_err_UnknownName : Stmt := inClass (topS 18) 0
theorem sc_err_UnknownName : FnScope ["self", "given"] ["self", "given"] (defScope s_err_UnknownName) := ⟨rfl, rfl, rfl, by decide +kernel, rfl, by decide +kernel, by decide +kernel⟩

def DefAt (K : PySem.W.Frag) (mg : Str → Option Value) (x : Str) (st : Stmt) (ps : List Str) : Prop := ∃ (f : Addr) (fd : FuncData), Fun K x x st f fd ∧ mg x = some (.ref f) ∧ Binds K fd ps []
def MethAt (K : PySem.W.Frag) (C : Addr) (m q : Str) (st : Stmt) (ps : List Str) : Prop := ∃ (f : Addr) (fd : FuncData), Fun K m q st f fd ∧ Meth K C m f ∧ Binds K fd ps []
def InitAt (K : PySem.W.Frag) (C : Addr) (q : Str) (st : Stmt) (ps : List Str) : Prop := ∃ (f : Addr) (fd : FuncData), Fun K "__init__" q st f fd ∧ Mk K C f ∧ Binds K fd ps []
def EqAt (K : PySem.W.Frag) (C : Addr) (q : Str) (st : Stmt) : Prop := ∃ (f : Addr) (fd : FuncData), Fun K "__eq__" q st f fd ∧ OwnEq K C f fd
def InAt (K : PySem.W.Frag) (C : Addr) (q : Str) (st : Stmt) (ps : List Str) : Prop := ∃ (f : Addr) (fd : FuncData), Fun K "__contains__" q st f fd ∧ OwnIn K C f fd ps
/-- a def whose code object is known -/
def DefAtC (K : PySem.W.Frag) (mg : Str → Option Value) (x : Str) (st : Stmt) (ps : List Str) (c : Addr) : Prop := ∃ (f : Addr) (fd : FuncData), Fun K x x st f fd ∧ mg x = some (.ref f) ∧ Binds K fd ps [] ∧ fd.code = .ref c
structure Txt (K : PySem.W.Frag) (mg : Str → Option Value) (C CT CN CU CA : Addr) : Prop where
  b_ValueError : mg "ValueError" = none
  b_isinstance : mg "isinstance" = none
  b_int : mg "int" = none
  b_bool : mg "bool" = none
  b_str : mg "str" = none
  b_len : mg "len" = none
  b_tuple : mg "tuple" = none
  b_dict : mg "dict" = none
  b_list : mg "list" = none
  b_enumerate : mg "enumerate" = none
  b_range : mg "range" = none
  b_divmod : mg "divmod" = none
  b_abs : mg "abs" = none
  b_sorted : mg "sorted" = none
  b_repr : mg "repr" = none
  b_all : mg "all" = none
  b_any : mg "any" = none
  b_max : mg "max" = none
  b_min : mg "min" = none
  c_LETTERS : ∃ t, mg "LETTERS" = some (.str "abcdefghijklmnopqrstuvwxyz" t)
  c_END : ∃ t, mg "END" = some (.int 0 t)
  c_LAST_PLACE : ∃ t, mg "LAST_PLACE" = some (.int 999 t)
  c_MOST_COMPARISONS : ∃ t, mg "MOST_COMPARISONS" = some (.int 3 t)
  c_MOST_NAMES : ∃ t, mg "MOST_NAMES" = some (.int 4 t)
  c_MOST_CELLS : ∃ t, mg "MOST_CELLS" = some (.int 500 t)
  mgC : mg "Store" = some (.ref C)
  mgCT : mg "InvalidTest" = some (.ref CT)
  mgCN : mg "NotAStore" = some (.ref CN)
  mgCU : mg "UnknownName" = some (.ref CU)
  mgCA : mg "ArrowError" = some (.ref CA)
  x_InvalidTest : ErrAt K mg "InvalidTest" "InvalidTest.__init__" "given" s_err_InvalidTest CT
  x_NotAStore : ErrAt K mg "NotAStore" "NotAStore.__init__" "given" s_err_NotAStore CN
  x_UnknownName : ErrAt K mg "UnknownName" "UnknownName.__init__" "given" s_err_UnknownName CU
  cl : Cls K C
  n_names : NoAttr K C "names"
  n_cells : NoAttr K C "cells"
  n_letters : NoAttr K C "letters"
  n_text : NoAttr K C "text"
  n_places : NoAttr K C "places"
  n_arrows : NoAttr K C "arrows"
  n_led_to : NoAttr K C "led_to"
  isC : PySem.W.findIn K (.ref C) "__class__" = some (some (.builtin "object.__class__"))
  isG : PySem.W.specialIn K (.builtin "object.__class__") "__get__" = some (some (.builtin "getset_descriptor.__get__"))
  isT : PySem.W.takesIn K (.builtin "object.__class__") = some true
  isM : PySem.W.mroIn K C (.type "object") = some true
  k_self : PySem.W.kitOne K (.ref C) (.ref C) = some true
  k_str : PySem.W.kitOne K (.type "str") (.ref C) = some false
  k_int : PySem.W.kitOne K (.type "int") (.ref C) = some false
  k_tup : PySem.W.kitOne K (.type "tuple") (.ref C) = some false
  f_str : PySem.W.notFirst K C (.type "str") = true
  f_int : PySem.W.notFirst K C (.type "int") = true
  f_tup : PySem.W.notFirst K C (.type "tuple") = true
  k_non : PySem.W.kitOne K (.type "NoneType") (.ref C) = some false
  k_bool : PySem.W.kitOne K (.type "bool") (.ref C) = some false
  k_list : PySem.W.kitOne K (.type "list") (.ref C) = some false
  k_dict : PySem.W.kitOne K (.type "dict") (.ref C) = some false
  i_UnknownName : IsExc K CU
  k_UA : PySem.W.kitOne K (.ref CU) (.ref CA) = some true
  e_NT : PySem.W.exmOne K (.ref CN) (.ref CT) = some false
  e_UT : PySem.W.exmOne K (.ref CU) (.ref CT) = some false
  e_UN : PySem.W.exmOne K (.ref CU) (.ref CN) = some false
  d_is_number : DefAt K mg "is_number" s_is_number ["value"]
  d_is_whole : DefAt K mg "is_whole" s_is_whole ["value", "low", "high"]
  d_is_place : DefAt K mg "is_place" s_is_place ["value"]
  d_is_letter : DefAt K mg "is_letter" s_is_letter ["value"]
  d_is_target : DefAt K mg "is_target" s_is_target ["value"]
  d_is_tuple_of : DefAt K mg "is_tuple_of" s_is_tuple_of ["value", "many"]
  d_comparison_in : DefAt K mg "comparison_in" s_comparison_in ["words"]
  d_need_known : DefAt K mg "need_known" s_need_known ["letters", "names"]
  d_test_tree : DefAt K mg "test_tree" s_test_tree ["test"]
  d_test_or_none : DefAt K mg "test_or_none" s_test_or_none ["value"]
  d__test_in : DefAt K mg "_test_in" s_test_in ["words"]
  d_letters_tested : DefAt K mg "letters_tested" s_letters_tested ["tree"]
  d_place_told : DefAt K mg "place_told" s_place_told ["places", "word"]
  d_does_hold : DefAt K mg "does_hold" s_does_hold ["test", "places"]
  d_init : InitAt K C "Store.__init__" s_init ["self", "names", "cells"]
  d_eq : EqAt K C "Store.__eq__" s_eq
  d_take : MethAt K C "take" "Store.take" s_take ["self", "names", "cells"]
  d__are_store_names : DefAt K mg "_are_store_names" s_are_store_names ["value"]
  d__wrong_cell : DefAt K mg "_wrong_cell" s_wrong_cell ["cells"]
  d__store_text : DefAt K mg "_store_text" s_store_text ["names", "cells"]
  d_need_store : DefAt K mg "need_store" s_need_store ["value"]
  d_holds : DefAt K mg "holds" s_holds ["test", "store"]
  d__law_well : DefAt K mg "_law_well" s_law_well ["_law_script", "_law_turn"]
  d__law_take : DefAt K mg "_law_take" s_law_take ["_law_well_here", "_law_limit"]
  d__law_pick : DefAt K mg "_law_pick" s_law_pick ["_law_well_here", "_law_some"]
  d__law_drawn : DefAt K mg "_law_drawn" s_law_drawn ["_law_well_here", "_law_signs", "_law_limit"]
  d__law_store : DefAt K mg "_law_store" s_law_store ["_law_mine"]
  d__law_shown : DefAt K mg "_law_shown" s_law_shown ["_law_mine"]
  d__law_is_so : DefAt K mg "_law_is_so" s_law_is_so ["_law_homes", "_law_quiz_here"]
  d__law_quiz : DefAt K mg "_law_quiz" s_law_quiz ["_law_well_here", "_law_signs"]
  d__law_quiz_said : DefAt K mg "_law_quiz_said" s_law_quiz_said ["_law_quiz_here"]
  d__law_ahead_word : DefAt K mg "_law_ahead_word" s_law_ahead_word ["_law_reader"]
  d__law_next_word : DefAt K mg "_law_next_word" s_law_next_word ["_law_reader"]
  d__law_is_sign : DefAt K mg "_law_is_sign" s_law_is_sign ["_law_token"]
  d__law_is_goal : DefAt K mg "_law_is_goal" s_law_is_goal ["_law_token"]
  d__law_read_quiz : DefAt K mg "_law_read_quiz" s_law_read_quiz ["_law_reader"]
  d__law_bent : DefAt K mg "_law_bent" s_law_bent ["_law_well_here", "_law_said"]
  d__law_odd : DefAt K mg "_law_odd" s_law_odd ["_law_well_here"]
  d__law_lacking : DefAt K mg "_law_lacking" s_law_lacking ["_law_homes", "_law_some"]
  d__law_told : DefAt K mg "_law_told" s_law_told ["_law_first", "_law_second", "_law_is_named"]
  d__law_quiz_read : DefAt K mg "_law_quiz_read" s_law_quiz_read ["_law_said"]
  d__law_due : DefAt K mg "_law_due" s_law_due ["_law_mine", "_law_quiz_here"]
  d__law_right : DefAt K mg "_law_right" s_law_right ["_law_well_here"]
  d_law : DefAt K mg "law" s_law ["_law_script"]

section
variable (P : Program) (w : World) (K : PySem.W.Frag) (mg : Str → Option Value) (base : Heap)
/-- what a def of the module promises -/
def Pr (x : Str) (st : Stmt) (k : Nat) (ps : List Str) (sp : Sp) : Prop := ∃ (f : Addr) (fd : FuncData), Fun K x x st f fd ∧ mg x = some (.ref f) ∧ Binds K fd ps [] ∧ FnOk P w K mg base CX0 k f fd ps sp
def PrG (x : Str) (st : Stmt) (k : Nat) (ps : List Str) (sp : Sp) : Prop := ∃ (f : Addr) (fd : FuncData), Fun K x x st f fd ∧ mg x = some (.ref f) ∧ Binds K fd ps [] ∧ FnG P w K mg base k f fd ps sp
def PrM (C : Addr) (m q : Str) (st : Stmt) (k : Nat) (ps : List Str) (sp : Sp) : Prop := ∃ (f : Addr) (fd : FuncData), Fun K m q st f fd ∧ Meth K C m f ∧ Binds K fd ps [] ∧ FnOk P w K mg base CX0 k f fd ps sp
def PrI (C : Addr) (q : Str) (st : Stmt) (k : Nat) (ps : List Str) (sp : Sp) : Prop := ∃ (f : Addr) (fd : FuncData), Fun K "__init__" q st f fd ∧ Mk K C f ∧ Binds K fd ps [] ∧ FnOk P w K mg base CX0 k f fd ps sp
def PrE (C : Addr) (q : Str) (st : Stmt) (k : Nat) (sp : Sp) : Prop := ∃ (f : Addr) (fd : FuncData), Fun K "__eq__" q st f fd ∧ OwnEq K C f fd ∧ FnOk P w K mg base CX0 k f fd ["self", "other"] sp
end
section
variable {X : Cx} {k n : Nat} {C : Addr} {ps ks : List Str} {sp : Sp} {x m q : Str} {st : Stmt} {p pos apos : Pos} {e o : Expr} {es : List Expr} {kws : List Keyword} {ta : TE} {t tk : TA}
theorem pe_globI {i : Int} (hg : Gl X x) (hm : ∃ t, X.mg x = some (.int i t)) (hd : (x == ("__debug__" : Str)) = false := by decide) : PE X (.Name x pos) (tC (.int i)) := by
  obtain ⟨t, e⟩ := hm
  exact pe_glob hg e ⟨t, rfl⟩ hd
theorem pe_globS {i : Str} (hg : Gl X x) (hm : ∃ t, X.mg x = some (.str i t)) (hd : (x == ("__debug__" : Str)) = false := by decide) : PE X (.Name x pos) (tC (.str i)) := by
  obtain ⟨t, e⟩ := hm
  exact pe_glob hg e ⟨t, rfl⟩ hd
theorem pe_bty (n : String) (hg : Gl X x) (hm : X.mg x = none) (hv : bootBuiltins x = some (.type n)) (hn : x ≠ "__name__" := by decide) (hd : (x == ("__debug__" : Str)) = false := by decide) : PE X (.Name x pos) (tC (.ty n)) :=
  pe_bltn hg hm hv (show RelV (.ty n) (.type n) from rfl) hn hd
def tCal (sp : Sp) (t : TA) : TE := fun σ H Q => t σ H fun vs H1 => sp vs H1 Q E0
theorem pcall (G : Pr X.prog X.w X.K X.mg X.base x st k ps sp) (hr : Room k X.A) (ha : PA X (e :: es) t) (hg : Gl X x := by rfl) (hdb : (x == ("__debug__" : Str)) = false := by decide)
    (he : starEach (e :: es) X.env = (false, eval e X.env) :: starEach es X.env := by rfl) (hpl : (backTo pos (starEach es X.env)).any (·.1) = false := by rfl) : PE X (.Call (.Name x p) (e :: es) [] pos) (tCal sp t) := by
  obtain ⟨f, fd, F, gl, bd, G⟩ := G
  have h := pe_call (p := p) (pos := pos) G hr hg gl F.kp bd .nil pass0 ha hdb he hpl
  constructor
  intro pins s σ H Q I hq
  refine h.run pins s σ H Q I ?_
  simpa only [tCall, tCal, List.append_nil] using hq
theorem pcallG (G : PrG X.prog X.w X.K X.mg X.base x st k ps sp) (hr : Room k X.A) (hgd : X.A.guards = some []) (ha : PA X (e :: es) t) (hg : Gl X x := by rfl) (hdb : (x == ("__debug__" : Str)) = false := by decide)
    (he : starEach (e :: es) X.env = (false, eval e X.env) :: starEach es X.env := by rfl) (hpl : (backTo pos (starEach es X.env)).any (·.1) = false := by rfl) : PE X (.Call (.Name x p) (e :: es) [] pos) (tCal sp t) := by
  obtain ⟨f, fd, F, gl, bd, G⟩ := G
  exact pe_callG G hr hgd hg gl F.kp bd ha hdb he hpl
def tMet (C : Addr) (m : Str) (sp : Sp) (ta : TE) (t : TA) : TE := fun σ H Q => ta σ H fun x H1 => ∃ a dx fs, x = .ref a ∧ H1 a = some (.ins C dx fs) ∧ fs.lookup m = none ∧ t σ H1 fun vs H2 => sp (x :: vs) H2 Q E0
theorem pmeth {pl : Sem Bool} (he : PE X o ta) (c : Cls X.K C) (G : PrM X.prog X.w X.K X.mg X.base C m q st k ps sp) (hr : Room k X.A) (ha : PA X (e :: es) t)
    (hst : starEach (e :: es) X.env = (false, eval e X.env) :: starEach es X.env := by rfl) (hpl : (backTo pos (starEach es X.env)).any (·.1) = false := by rfl)
    (ht : eval (.Call (.Attribute o m apos) (e :: es) [] pos) X.env = (do
      let ov ← eval o X.env
      standAt apos.atName
      let (f, first) ← holding [ov] (getMethod ov m pl)
      callWith pos f first (backTo pos (starEach (e :: es) X.env)) (backToKw pos (keywordEach [] X.env))) := by rfl) :
    PE X (.Call (.Attribute o m apos) (e :: es) [] pos) (tMet C m sp ta t) := by
  obtain ⟨f, fd, F, hm, bd, G⟩ := G
  have h := pe_meth (pl := pl) (pos := pos) (apos := apos) he c hm G hr bd .nil pass0 ha hst hpl ht
  constructor
  intro pins s σ H Q I hq
  refine h.run pins s σ H Q I ?_
  simpa only [tMeth, tMet, List.append_nil] using hq
def tMak (C : Addr) (sp : Sp) (t : TA) : TE := fun σ H Q => t σ H fun vs H1 => ∀ x dx, H1 x = none → H1 dx = none → dx ≠ x → sp (.ref x :: vs) (upd (upd H1 dx (.own x)) x (.ins C dx [])) (fun v H2 => v = .non ∧ Q (.ref x) H2) E0
theorem pmake (G : PrI X.prog X.w X.K X.mg X.base C q st k ps sp) (hm : X.mg x = some (.ref C)) (hr : Room (k + 1) X.A) (ha : PA X (e :: es) t) (hg : Gl X x := by rfl) (hdb : (x == ("__debug__" : Str)) = false := by decide)
    (he : starEach (e :: es) X.env = (false, eval e X.env) :: starEach es X.env := by rfl) (hpl : (backTo pos (starEach es X.env)).any (·.1) = false := by rfl) : PE X (.Call (.Name x p) (e :: es) [] pos) (tMak C sp t) := by
  obtain ⟨f, fd, F, M, bd, G⟩ := G
  have h := pe_make (p := p) (pos := pos) M G hr hg hm bd .nil pass0 ha hdb he hpl
  constructor
  intro pins s σ H Q I hq
  refine h.run pins s σ H Q I ?_
  simpa only [tMake, tMak, List.append_nil] using hq
def tOwn (C : Addr) (sp : Sp) (g : Bool → Bool) (K : PySem.W.Frag) : R2 := rOwnC C sp g K
theorem pOwnEq (G : PrE X.prog X.w X.K X.mg X.base C q st k sp) (hr : Room k X.A) : OpR X (compareOp .Eq) (tOwn C sp id X.K) := by
  obtain ⟨f, fd, F, O, G⟩ := G
  exact op_ownEq G O hr
theorem pOwnNe (G : PrE X.prog X.w X.K X.mg X.base C q st k sp) (hr : Room (k + 1) X.A) : OpR X (compareOp .NotEq) (tOwn C sp (fun c => !c) X.K) := by
  obtain ⟨f, fd, F, O, G⟩ := G
  exact op_ownNe G O hr
section
variable {g : List Value → List Value → List Value} {gV : List V → List V → List V}
def tCalN (m : Nat) (sp : Sp) (gV : List V → List V → List V) (tk : TA) : TE := fun σ H Q => tk σ H fun zs H2 => zs.length = m ∧ sp (gV [] zs) H2 Q E0
theorem pcallN0 (G : Pr X.prog X.w X.K X.mg X.base x st k ps sp) (hr : Room k X.A) (hb : ∀ {f : Addr} {fd : FuncData}, Fun X.K x x st f fd → KBn X.K fd ps 0 ks g gV) (hkw : PK X kws tk) (hg : Gl X x := by rfl)
    (hall : (backToKw pos (keywordEach kws X.env)).all (·.1.isSome) = true := by rfl) (hks : (backToKw pos (keywordEach kws X.env)).filterMap (·.1) = ks := by rfl)
    (hdb : (x == ("__debug__" : Str)) = false := by decide) (hpl : ((backTo pos (starEach [] X.env)).any (·.1) || (backToKw pos (keywordEach kws X.env)).any (·.1.isNone)) = false := by rfl) :
    PE X (.Call (.Name x p) [] kws pos) (tCalN ks.length sp gV tk) := by
  obtain ⟨f, fd, F, gl, bd, G⟩ := G
  have h := pe_callN0 (p := p) (pos := pos) G hr hg gl F.kp (hb F) pass0 hkw hall hks hdb hpl
  constructor
  intro pins s σ H Q I hq
  refine h.run pins s σ H Q I ?_
  show tk σ H fun zs H2 => ([] : List V).length = 0 ∧ zs.length = ks.length ∧ sp (gV [] zs) H2 Q E0
  simpa only [tCalN, List.length_nil, true_and] using hq
theorem pmethN0 {pl : Sem Bool} (he : PE X o ta) (c : Cls X.K C) (G : PrM X.prog X.w X.K X.mg X.base C m q st k ps sp) (hr : Room k X.A) (hb : ∀ {f : Addr} {fd : FuncData}, Fun X.K m q st f fd → KBn X.K fd ps 1 ks g gV) (hkw : PK X kws tk)
    (hall : (backToKw pos (keywordEach kws X.env)).all (·.1.isSome) = true := by rfl) (hks : (backToKw pos (keywordEach kws X.env)).filterMap (·.1) = ks := by rfl)
    (hpl : ((backTo pos (starEach [] X.env)).any (·.1) || (backToKw pos (keywordEach kws X.env)).any (·.1.isNone)) = false := by rfl)
    (ht : eval (.Call (.Attribute o m apos) [] kws pos) X.env = (do
      let ov ← eval o X.env
      standAt apos.atName
      let (f, first) ← holding [ov] (getMethod ov m pl)
      callWith pos f first (backTo pos (starEach [] X.env)) (backToKw pos (keywordEach kws X.env))) := by rfl) :
    PE X (.Call (.Attribute o m apos) [] kws pos) (tMethN C m ks.length sp gV E0 ta tk) := by
  obtain ⟨f, fd, F, hm, bd, G⟩ := G
  exact pe_methN0 (pl := pl) he c hm G hr (hb F) pass0 hkw hall hks hpl ht
def tMakN (C : Addr) (m : Nat) (sp : Sp) (gV : List V → List V → List V) (tk : TA) : TE := fun σ H Q => tk σ H fun zs H2 => zs.length = m ∧ ∀ x dx, H2 x = none → H2 dx = none → dx ≠ x →
  sp (gV [.ref x] zs) (upd (upd H2 dx (.own x)) x (.ins C dx [])) (fun v H3 => v = .non ∧ Q (.ref x) H3) E0
theorem pmakeK0 (G : PrI X.prog X.w X.K X.mg X.base C q st k ps sp) (hm : X.mg x = some (.ref C)) (hr : Room (k + 1) X.A) (hb : ∀ {f : Addr} {fd : FuncData}, Fun X.K "__init__" q st f fd → KBn X.K fd ps 1 ks g gV) (hkw : PK X kws tk) (hg : Gl X x := by rfl)
    (hall : (backToKw pos (keywordEach kws X.env)).all (·.1.isSome) = true := by rfl) (hks : (backToKw pos (keywordEach kws X.env)).filterMap (·.1) = ks := by rfl) (hdb : (x == ("__debug__" : Str)) = false := by decide)
    (hpl : ((backTo pos (starEach [] X.env)).any (·.1) || (backToKw pos (keywordEach kws X.env)).any (·.1.isNone)) = false := by rfl) :
    PE X (.Call (.Name x p) [] kws pos) (tMakN C ks.length sp gV tk) := by
  obtain ⟨f, fd, F, M, bd, G⟩ := G
  have h := pe_makeK0 (p := p) (pos := pos) M G hr hg hm (hb F) pass0 hkw hall hks hdb hpl
  constructor
  intro pins s σ H Q I hq
  refine h.run pins s σ H Q I ?_
  show tk σ H fun zs H2 => ([] : List V).length = 0 ∧ zs.length = ks.length ∧ ∀ x dx, H2 x = none → H2 dx = none → dx ≠ x → sp (gV [.ref x] zs) (upd (upd H2 dx (.own x)) x (.ins C dx [])) (fun v H3 => v = .non ∧ Q (.ref x) H3) E0
  simpa only [tMakN, List.length_nil, true_and] using hq
end
end
def PrC (P : Program) (w : World) (K : PySem.W.Frag) (mg : Str → Option Value) (base : Heap) (C : Addr) (q : Str) (st : Stmt) (k : Nat) (ps : List Str) (sp : Sp) : Prop := ∃ (f : Addr) (fd : FuncData), Fun K "__contains__" q st f fd ∧ OwnIn K C f fd ps ∧ FnOk P w K mg base CX0 k f fd ps sp
theorem pOwnIn {X : Cx} {C : Addr} {q : Str} {st : Stmt} {k : Nat} {ps : List Str} {sp : Sp} (G : PrC X.prog X.w X.K X.mg X.base C q st k ps sp) (hr : Room k X.A) : OpR X (compareOp .In) (rOwnIn C sp) := by
  obtain ⟨f, fd, F, O, G⟩ := G
  exact op_ownIn G O hr
theorem kb_one {K : PySem.W.Frag} {n q a : Str} {st : Stmt} {f : Addr} {fd : FuncData} (F : Fun K n q st f fd) (h : ∀ (kV doc pm : Value) (an : Option Addr) (cdv ct : Value) (u : Value), bindArgs (PySem.W.fnOf n q (defArgs st) (defBody st) (defScope st) .none kV doc pm an cdv ct) ⟨[], [(a, u)]⟩ = pure [(a, u)]) : KBn K fd [a] 0 [a] (fun us ws => us ++ ws) (fun vs zs => vs ++ zs) := by
  obtain ⟨oc, od, kV, doc, pm, an, cdv, ct, osl, rfl, lk, hcd⟩ := F.ex
  exact kbn_of (fun us ws => us ++ ws) (fun h1 h2 => h1.append h2) (fun us ws h1 h2 => match us, ws, h1, h2 with | [], [u], _, _ => h _ _ _ _ _ _ u)

/-! ### defs that may raise -/
def PrX (P : Program) (w : World) (K : PySem.W.Frag) (mg : Str → Option Value) (base : Heap) (x : Str) (st : Stmt) (k : Nat) (ps : List Str) (sp : Sp) : Prop := ∃ (f : Addr) (fd : FuncData), Fun K x x st f fd ∧ mg x = some (.ref f) ∧ Binds K fd ps [] ∧ FnOk P w K mg base (L2.CX P w) k f fd ps sp
def PrMX (P : Program) (w : World) (K : PySem.W.Frag) (mg : Str → Option Value) (base : Heap) (C : Addr) (m q : Str) (st : Stmt) (k : Nat) (ps : List Str) (sp : Sp) : Prop := ∃ (f : Addr) (fd : FuncData), Fun K m q st f fd ∧ Meth K C m f ∧ Binds K fd ps [] ∧ FnOk P w K mg base (L2.CX P w) k f fd ps sp
def PrIX (P : Program) (w : World) (K : PySem.W.Frag) (mg : Str → Option Value) (base : Heap) (C : Addr) (q : Str) (st : Stmt) (k : Nat) (ps : List Str) (sp : Sp) : Prop := ∃ (f : Addr) (fd : FuncData), Fun K "__init__" q st f fd ∧ Mk K C f ∧ Binds K fd ps [] ∧ FnOk P w K mg base (L2.CX P w) k f fd ps sp
section
variable {X : Cx} {k n : Nat} {C : Addr} {ps ks : List Str} {sp : Sp} {x m q : Str} {st : Stmt} {p pos apos : Pos} {e o : Expr} {es : List Expr} {kws : List Keyword} {ta : TE} {t tk : TA} {W : WX}
def tCalX (sp : Sp) (E : XK) (t : TA) : TE := fun σ H Q => t σ H fun vs H1 => sp vs H1 Q E
theorem pcallX (E : XK) (G : PrX X.prog X.w X.K X.mg X.base x st k ps sp) (hr : Room k X.A) (hx : Passes (L2.CX X.prog X.w) X E) (ha : PA X (e :: es) t) (hg : Gl X x := by rfl) (hdb : (x == ("__debug__" : Str)) = false := by decide)
    (he : starEach (e :: es) X.env = (false, eval e X.env) :: starEach es X.env := by rfl) (hpl : (backTo pos (starEach es X.env)).any (·.1) = false := by rfl) : PE X (.Call (.Name x p) (e :: es) [] pos) (tCalX sp E t) := by
  obtain ⟨f, fd, F, gl, bd, G⟩ := G
  have h := pe_call (p := p) (pos := pos) G hr hg gl F.kp bd .nil hx ha hdb he hpl
  constructor
  intro pins s σ H Q I hq
  refine h.run pins s σ H Q I ?_
  simpa only [tCall, tCalX, List.append_nil] using hq
def tMetX (C : Addr) (m : Str) (sp : Sp) (E : XK) (ta : TE) (t : TA) : TE := fun σ H Q => ta σ H fun x H1 => ∃ a dx fs, x = .ref a ∧ H1 a = some (.ins C dx fs) ∧ fs.lookup m = none ∧ t σ H1 fun vs H2 => sp (x :: vs) H2 Q E
theorem pmethX {pl : Sem Bool} (E : XK) (he : PE X o ta) (c : Cls X.K C) (G : PrMX X.prog X.w X.K X.mg X.base C m q st k ps sp) (hr : Room k X.A) (hx : Passes (L2.CX X.prog X.w) X E) (ha : PA X (e :: es) t)
    (hst : starEach (e :: es) X.env = (false, eval e X.env) :: starEach es X.env := by rfl) (hpl : (backTo pos (starEach es X.env)).any (·.1) = false := by rfl)
    (ht : eval (.Call (.Attribute o m apos) (e :: es) [] pos) X.env = (do
      let ov ← eval o X.env
      standAt apos.atName
      let (f, first) ← holding [ov] (getMethod ov m pl)
      callWith pos f first (backTo pos (starEach (e :: es) X.env)) (backToKw pos (keywordEach [] X.env))) := by rfl) :
    PE X (.Call (.Attribute o m apos) (e :: es) [] pos) (tMetX C m sp E ta t) := by
  obtain ⟨f, fd, F, hm, bd, G⟩ := G
  have h := pe_meth (pl := pl) (pos := pos) (apos := apos) he c hm G hr bd .nil hx ha hst hpl ht
  constructor
  intro pins s σ H Q I hq
  refine h.run pins s σ H Q I ?_
  simpa only [tMeth, tMetX, List.append_nil] using hq
/-- in a try's body -/
def tCalW (sp : Sp) (W : WX) (t : TA) : TE := fun σ H Q => t σ H fun vs H1 => sp vs H1 Q fun cls d H' => W cls d σ H'
theorem pcallW (G : PrX X.prog X.w X.K X.mg X.base x st k ps sp) (hr : Room k X.A) (tk : Takes X W) (ha : PA X (e :: es) t) (hg : Gl X x := by rfl) (hdb : (x == ("__debug__" : Str)) = false := by decide)
    (he : starEach (e :: es) X.env = (false, eval e X.env) :: starEach es X.env := by rfl) (hpl : (backTo pos (starEach es X.env)).any (·.1) = false := by rfl) : PE X (.Call (.Name x p) (e :: es) [] pos) (tCalW sp W t) := by
  obtain ⟨f, fd, F, gl, bd, G⟩ := G
  exact pe_callS (p := p) (pos := pos) G hr hg gl F.kp bd (fun σ => passAt tk σ) ha hdb he hpl
theorem pcallXN0 {g : List Value → List Value → List Value} {gV : List V → List V → List V} (E : XK) (G : PrX X.prog X.w X.K X.mg X.base x st k ps sp) (hr : Room k X.A) (hx : Passes (L2.CX X.prog X.w) X E) (hb : ∀ {f : Addr} {fd : FuncData}, Fun X.K x x st f fd → KBn X.K fd ps 0 ks g gV) (hkw : PK X kws tk) (hg : Gl X x := by rfl)
    (hall : (backToKw pos (keywordEach kws X.env)).all (·.1.isSome) = true := by rfl) (hks : (backToKw pos (keywordEach kws X.env)).filterMap (·.1) = ks := by rfl)
    (hdb : (x == ("__debug__" : Str)) = false := by decide) (hpl : ((backTo pos (starEach [] X.env)).any (·.1) || (backToKw pos (keywordEach kws X.env)).any (·.1.isNone)) = false := by rfl) :
    PE X (.Call (.Name x p) [] kws pos) (fun σ H Q => tk σ H fun zs H2 => zs.length = ks.length ∧ sp (gV [] zs) H2 Q E) := by
  obtain ⟨f, fd, F, gl, bd, G⟩ := G
  have h := pe_callN0 (p := p) (pos := pos) G hr hg gl F.kp (hb F) hx hkw hall hks hdb hpl
  constructor
  intro pins s σ H Q I hq
  refine h.run pins s σ H Q I ?_
  show tk σ H fun zs H2 => ([] : List V).length = 0 ∧ zs.length = ks.length ∧ sp (gV [] zs) H2 Q E
  simpa only [List.length_nil, true_and] using hq
theorem pcallWN0 {g : List Value → List Value → List Value} {gV : List V → List V → List V} (G : PrX X.prog X.w X.K X.mg X.base x st k ps sp) (hr : Room k X.A) (tw : Takes X W) (hb : ∀ {f : Addr} {fd : FuncData}, Fun X.K x x st f fd → KBn X.K fd ps 0 ks g gV) (hkw : PK X kws tk) (hg : Gl X x := by rfl)
    (hall : (backToKw pos (keywordEach kws X.env)).all (·.1.isSome) = true := by rfl) (hks : (backToKw pos (keywordEach kws X.env)).filterMap (·.1) = ks := by rfl)
    (hdb : (x == ("__debug__" : Str)) = false := by decide) (hpl : ((backTo pos (starEach [] X.env)).any (·.1) || (backToKw pos (keywordEach kws X.env)).any (·.1.isNone)) = false := by rfl) :
    PE X (.Call (.Name x p) [] kws pos) (fun σ H Q => tk σ H fun zs H2 => zs.length = ks.length ∧ sp (gV [] zs) H2 Q fun cls d H' => W cls d σ H') := by
  obtain ⟨f, fd, F, gl, bd, G⟩ := G
  exact pe_kwS (p := p) (pos := pos) G hr hg gl F.kp (hb F) (fun σ => passAt tw σ) hkw hall hks hdb hpl
end
theorem kb_ord {K : PySem.W.Frag} {n q : Str} {st : Stmt} {ps : List Str} {f : Addr} {fd : FuncData} (F : Fun K n q st f fd) (h : ∀ (kV doc pm : Value) (an : Option Addr) (cdv ct : Value) (us ws : List Value), us.length = 0 → ws.length = ps.length → bindArgs (PySem.W.fnOf n q (defArgs st) (defBody st) (defScope st) .none kV doc pm an cdv ct) ⟨us, ps.zip ws⟩ = pure (ps.zip (us ++ ws))) : KBn K fd ps 0 ps (fun us ws => us ++ ws) (fun vs zs => vs ++ zs) := by
  obtain ⟨oc, od, kV, doc, pm, an, cdv, ct, osl, rfl, lk, hcd⟩ := F.ex
  exact kbn_of (fun us ws => us ++ ws) (fun h1 h2 => h1.append h2) (fun us ws h1 h2 => h _ _ _ _ _ _ us ws h1 h2)
theorem kb_holds {K : PySem.W.Frag} {f : Addr} {fd : FuncData} (F : Fun K "holds" "holds" s_holds f fd) : KBn K fd ["test", "store"] 0 ["test", "store"] (fun us ws => us ++ ws) (fun vs zs => vs ++ zs) := kb_ord F (fun _ _ _ _ _ _ us ws h1 h2 => match us, ws, h1, h2 with | [], [_, _], _, _ => rfl)
theorem ok_err_InvalidTest {P : Program} {w : World} {K : PySem.W.Frag} {mg : Str → Option Value} {base : Heap} {C CT CN CU CA : Addr} (T : Txt K mg C CT CN CU CA) : PrErr P w K mg base "InvalidTest" "given" CT := by
  obtain ⟨fI, fd, F, iC, tI, bd⟩ := T.x_InvalidTest.fn
  refine ⟨T.x_InvalidTest.gC, T.x_InvalidTest.ox, fI, fd, iC, tI, bd, F.ok sc_err_InvalidTest (fun vs H Q E h => ?_) (fun cdv A outer s H vs Q E hr h => ?_)⟩
  · obtain ⟨_, _, rfl, _⟩ := h
    rfl
  · obtain ⟨a, v, rfl, ha, k⟩ := h
    exact ⟨_, pss_one (ps_ost (pv 0) (pv 1)), ⟨_, rfl, _, rfl, a, CT, rfl, T.x_InvalidTest.ox, T.x_InvalidTest.no, .inl ⟨ha, fun dx h1 h2 => k dx h1 h2⟩⟩⟩
theorem ok_err_NotAStore {P : Program} {w : World} {K : PySem.W.Frag} {mg : Str → Option Value} {base : Heap} {C CT CN CU CA : Addr} (T : Txt K mg C CT CN CU CA) : PrErr P w K mg base "NotAStore" "given" CN := by
  obtain ⟨fI, fd, F, iC, tI, bd⟩ := T.x_NotAStore.fn
  refine ⟨T.x_NotAStore.gC, T.x_NotAStore.ox, fI, fd, iC, tI, bd, F.ok sc_err_NotAStore (fun vs H Q E h => ?_) (fun cdv A outer s H vs Q E hr h => ?_)⟩
  · obtain ⟨_, _, rfl, _⟩ := h
    rfl
  · obtain ⟨a, v, rfl, ha, k⟩ := h
    exact ⟨_, pss_one (ps_ost (pv 0) (pv 1)), ⟨_, rfl, _, rfl, a, CN, rfl, T.x_NotAStore.ox, T.x_NotAStore.no, .inl ⟨ha, fun dx h1 h2 => k dx h1 h2⟩⟩⟩
theorem ok_err_UnknownName {P : Program} {w : World} {K : PySem.W.Frag} {mg : Str → Option Value} {base : Heap} {C CT CN CU CA : Addr} (T : Txt K mg C CT CN CU CA) : PrErr P w K mg base "UnknownName" "given" CU := by
  obtain ⟨fI, fd, F, iC, tI, bd⟩ := T.x_UnknownName.fn
  refine ⟨T.x_UnknownName.gC, T.x_UnknownName.ox, fI, fd, iC, tI, bd, F.ok sc_err_UnknownName (fun vs H Q E h => ?_) (fun cdv A outer s H vs Q E hr h => ?_)⟩
  · obtain ⟨_, _, rfl, _⟩ := h
    rfl
  · obtain ⟨a, v, rfl, ha, k⟩ := h
    exact ⟨_, pss_one (ps_ost (pv 0) (pv 1)), ⟨_, rfl, _, rfl, a, CU, rfl, T.x_UnknownName.ox, T.x_UnknownName.no, .inl ⟨ha, fun dx h1 h2 => k dx h1 h2⟩⟩⟩
def gSw {α : Type} (us ws : List α) : List α := us ++ ws
end K1
/-! Heaps, data, promises. -/
namespace K1
open PySem PySem.Spec L2 Z
/-! ### what never changes -/
def Imm (H H' : Hp) : Prop := (∀ b xs, H b = some (.tup xs) → H' b = some (.tup xs)) ∧ ∀ b o u, H b = some (.frz o u) → H' b = some (.frz o u)
theorem Imm.refl (H : Hp) : Imm H H := ⟨fun _ _ h => h, fun _ _ _ h => h⟩
theorem Imm.trans {H H1 H2 : Hp} (a : Imm H H1) (b : Imm H1 H2) : Imm H H2 := ⟨fun c xs h => b.1 c xs (a.1 c xs h), fun c o u h => b.2 c o u (a.2 c o u h)⟩
theorem Imm.of {H H' : Hp} (e : Same H H') : Imm H H' := ⟨fun b xs h => e b _ h, fun b o u h => e b _ h⟩
theorem same_new {H : Hp} {p : Addr} {o : HO} (h : H p = none) : Same H (upd H p o) := fun b x e => by
  rw [upd_ne (ne_of_none e h)]
  exact e
/-- all but the thing at j is as it was -/
def Chg (j : Addr) (H H' : Hp) : Prop := ∀ b o, H b = some o → b ≠ j → H' b = some o
theorem Chg.refl (j : Addr) (H : Hp) : Chg j H H := fun _ _ h _ => h
theorem Chg.trans {j : Addr} {H H1 H2 : Hp} (a : Chg j H H1) (b : Chg j H1 H2) : Chg j H H2 := fun c o h n => b c o (a c o h n) n
theorem Chg.of {j : Addr} {H H' : Hp} (e : Same H H') : Chg j H H' := fun b o h _ => e b o h
theorem Chg.upd {j : Addr} {H : Hp} {o : HO} : Chg j H (upd H j o) := fun b x e n => by
  rw [upd_ne n]
  exact e
def Mu : HO → Prop
  | .tup _ => False
  | .frz _ _ => False
  | _ => True
theorem Chg.imm {j : Addr} {H H' : Hp} {u : HO} (e : Chg j H H') (h : H j = some u) (m : Mu u) : Imm H H' := by
  refine ⟨fun b xs q => e b _ q fun z => ?_, fun b o x q => e b _ q fun z => ?_⟩
  · subst z
    rw [h] at q
    cases q
    exact m
  · subst z
    rw [h] at q
    cases q
    exact m
theorem SqT.imm {K : PySem.W.Frag} {H H' : Hp} {a : Addr} {xs : List V} (e : Imm H H') (h : SqT K H a xs) : SqT K H' a xs := by
  rcases h with (h | ⟨o, h⟩) | h
  · exact .inl (.inl (e.1 _ _ h))
  · exact .inl (.inr ⟨o, e.2 _ _ _ h⟩)
  · exact .inr h
theorem PT.imm {H H' : Hp} {a : Addr} {xs : List V} (e : Imm H H') (h : PT H a xs) : PT H' a xs := by
  obtain ⟨o, q, ho⟩ := h
  exact ⟨o, e.2 _ _ _ q, ho⟩
theorem SqL.chg {K : PySem.W.Frag} {j : Addr} {H H' : Hp} {a : Addr} {xs : List V} (e : Chg j H H') (n : a ≠ j) (h : SqL K H a xs) : SqL K H' a xs := by
  rcases h with (h | ⟨o, h⟩) | h
  · exact .inl (.inl (e _ _ h n))
  · exact .inl (.inr ⟨o, e _ _ h n⟩)
  · exact .inr h
theorem SqT.ty {K : PySem.W.Frag} {H : Hp} {a : Addr} {xs : List V} (h : SqT K H a xs) : TyX K H (.ref a) (.type "tuple") := by
  rcases h with (h | ⟨o, h⟩) | ⟨o, its, n, h, hc, _⟩
  · exact .base (.tup h)
  · exact .fTuple h
  · exact .kTuple h hc
/-! ### tuples of pairs -/
def TP (K : PySem.W.Frag) (H : Hp) (v : V) (ls : List (V × V)) : Prop := ∃ (a : Addr) (rs : List Addr), v = .ref a ∧ PT H a (rs.map V.ref) ∧ Paired (fun b (p : V × V) => SqT K H b [p.1, p.2]) rs ls
theorem Paired.imm {K : PySem.W.Frag} {H H' : Hp} (e : Imm H H') : ∀ {rs : List Addr} {ls : List (V × V)}, Paired (fun b (p : V × V) => SqT K H b [p.1, p.2]) rs ls → Paired (fun b (p : V × V) => SqT K H' b [p.1, p.2]) rs ls
  | _, _, .nil => .nil
  | _, _, .cons h t => .cons (SqT.imm e h) (Paired.imm e t)
theorem TP.imm {K : PySem.W.Frag} {H H' : Hp} {v : V} {ls : List (V × V)} (e : Imm H H') (h : TP K H v ls) : TP K H' v ls := by
  obtain ⟨a, rs, ev, p, q⟩ := h
  exact ⟨a, rs, ev, PT.imm e p, Paired.imm e q⟩
theorem Paired.len {α β : Type} {F : α → β → Prop} : ∀ {l : List α} {m : List β}, Paired F l m → l.length = m.length
  | _, _, .nil => rfl
  | _, _, .cons _ t => congrArg Nat.succ (Paired.len t)
theorem Paired.at {α β : Type} {F : α → β → Prop} : ∀ {l : List α} {m : List β} {i : Nat} {x : α}, Paired F l m → l[i]? = some x → ∃ y, m[i]? = some y ∧ F x y
  | _, _, _, _, .nil, e => by simp at e
  | _, _, 0, _, .cons h _, e => by
    simp at e
    subst e
    exact ⟨_, rfl, h⟩
  | _, _, i + 1, _, .cons _ t, e => by
    obtain ⟨y, h1, h2⟩ := Paired.at (i := i) t (by simpa using e)
    exact ⟨y, by simpa using h1, h2⟩
theorem Paired.snoc {α β : Type} {F : α → β → Prop} {x : α} {y : β} (h : F x y) : ∀ {l : List α} {m : List β}, Paired F l m → Paired F (l ++ [x]) (m ++ [y])
  | _, _, .nil => .cons h .nil
  | _, _, .cons a t => .cons a (Paired.snoc h t)
theorem Paired.app {α β : Type} {F : α → β → Prop} : ∀ {l l2 : List α} {m m2 : List β}, Paired F l m → Paired F l2 m2 → Paired F (l ++ l2) (m ++ m2)
  | _, _, _, _, .nil, h => h
  | _, _, _, _, .cons a t, h => .cons a (Paired.app t h)
/-- the i-th turn over a tuple of pairs -/
theorem pairs_at {K : PySem.W.Frag} {H : Hp} {rs : List Addr} {ls : List (V × V)} {i : Nat} {x : V} (q : Paired (fun b (p : V × V) => SqT K H b [p.1, p.2]) rs ls) (e : (rs.map V.ref)[i]? = some x) :
    ∃ b p, x = .ref b ∧ rs[i]? = some b ∧ ls[i]? = some p ∧ SqT K H b [p.1, p.2] := by
  rw [List.getElem?_map] at e
  cases hb : rs[i]? with
  | none => rw [hb] at e; cases e
  | some b =>
    rw [hb] at e
    cases e
    obtain ⟨p, h1, h2⟩ := Paired.at q hb
    exact ⟨b, p, rfl, rfl, h1, h2⟩
/-! ### the data of a store -/
def ch (c : Nat) : Str := ⟨#[c]⟩
def nV (p : Nat × Int) : V × V := (.str (ch p.1), .int p.2)
def cV (p : Int × Int) : V × V := (.int p.1, .int p.2)
structure NOk (ns : List (Nat × Int)) : Prop where
  one : 1 ≤ ns.length
  four : ns.length ≤ 4
  let_ : ∀ p ∈ ns, 97 ≤ p.1 ∧ p.1 ≤ 122
  pl : ∀ p ∈ ns, 0 ≤ p.2 ∧ p.2 ≤ 999
  asc : (ns.map (·.1)).Pairwise (· < ·)
structure COk (cs : List (Int × Int)) : Prop where
  few : cs.length ≤ 400
  pl : ∀ p ∈ cs, 1 ≤ p.1 ∧ p.1 ≤ 999 ∧ 0 ≤ p.2 ∧ p.2 ≤ 999
  asc : (cs.map (·.1)).Pairwise (· < ·)
def numS (i : Int) : Str := Str.ofString (toString i)
def nameW (p : Nat × Int) : Str := ch p.1 ++ Str.ofString "=" ++ numS p.2
def cellW (p : Int × Int) : Str := numS p.1 ++ Str.ofString ">" ++ numS p.2
def sp1 : Str := Str.ofString " "
def nTxt (ns : List (Nat × Int)) : Str := Txt.join sp1 (ns.map nameW)
def cTxt (cs : List (Int × Int)) : Str := if cs = [] then Str.ofString "none" else Txt.join sp1 (cs.map cellW)
def stTxt (ns : List (Nat × Int)) (cs : List (Int × Int)) : Str := nTxt ns ++ Str.ofString " | " ++ cTxt cs
def lTxt (ns : List (Nat × Int)) : Str := Txt.join Str.empty (ns.map fun p => ch p.1)
def goals (ns : List (Nat × Int)) (cs : List (Int × Int)) : List Int := ns.map (·.2) ++ cs.map (·.2)
def lookC (cs : List (Int × Int)) (i : Int) : V := match cs.find? (fun p => decide (p.1 = i)) with
  | some p => .int p.2
  | none => .non
def isC (cs : List (Int × Int)) (i : Int) : Bool := cs.any fun p => decide (p.1 = i)
def goneB (ns : List (Nat × Int)) (cs : List (Int × Int)) (i : Int) : Bool := !decide (i = 0) && (!isC cs i && decide (i ∈ goals ns cs))
/-! ### a store -/
def flds (v u : V) (lt tx : Str) (pd ad ld : Addr) : List (Str × V) :=
  [("names", v), ("cells", u), ("letters", .str lt), ("text", .str tx), ("places", .ref pd), ("arrows", .ref ad), ("led_to", .ref ld)]
def kN (ns : List (Nat × Int)) : List (Key × V) := ns.map fun p => (Sum.inr (ch p.1), V.int p.2)
def kC (cs : List (Int × Int)) : List (Key × V) := cs.map fun p => (Sum.inl p.1, V.int p.2)
structure StoreAt (K : PySem.W.Frag) (C : Addr) (H : Hp) (x : Addr) (v u : V) (ns : List (Nat × Int)) (cs : List (Int × Int)) (dx pd ad ld : Addr) (ks : List (Key × V)) : Prop where
  ob : H x = some (.ins C dx (flds v u (lTxt ns) (stTxt ns cs) pd ad ld))
  nm : TP K H v (ns.map nV)
  ce : TP K H u (cs.map cV)
  pd_ : H pd = some (.dK (kN ns))
  ad_ : H ad = some (.dK (kC cs))
  ld_ : H ld = some (.dK ks)
  led : ∀ i : Int, (valV ks (Sum.inl i : Key)).isSome = decide (i ∈ goals ns cs)
  nok : NOk ns
  cok : COk cs
def St (K : PySem.W.Frag) (C : Addr) (H : Hp) (x : Addr) (ns : List (Nat × Int)) (cs : List (Int × Int)) : Prop := ∃ v u dx pd ad ld ks, StoreAt K C H x v u ns cs dx pd ad ld ks
theorem St.same {K : PySem.W.Frag} {C : Addr} {H H' : Hp} {x : Addr} {ns : List (Nat × Int)} {cs : List (Int × Int)} (e : Same H H') (h : St K C H x ns cs) : St K C H' x ns cs := by
  obtain ⟨v, u, dx, pd, ad, ld, ks, S⟩ := h
  exact ⟨v, u, dx, pd, ad, ld, ks, e _ _ S.ob, S.nm.imm (.of e), S.ce.imm (.of e), e _ _ S.pd_, e _ _ S.ad_, e _ _ S.ld_, S.led, S.nok, S.cok⟩
theorem St.chg {K : PySem.W.Frag} {C j : Addr} {H H' : Hp} {x : Addr} {ns : List (Nat × Int)} {cs : List (Int × Int)} {l : List V} (e : Chg j H H') (hj : H j = some (.lst l)) (h : St K C H x ns cs) : St K C H' x ns cs := by
  obtain ⟨v, u, dx, pd, ad, ld, ks, S⟩ := h
  have im : Imm H H' := e.imm hj trivial
  have n : ∀ {b : Addr} {o : HO}, H b = some o → o ≠ .lst l → H' b = some o := fun q d => e _ _ q (ne_of q hj d)
  exact ⟨v, u, dx, pd, ad, ld, ks, n S.ob (fun z => nomatch z), S.nm.imm im, S.ce.imm im, n S.pd_ (fun z => nomatch z), n S.ad_ (fun z => nomatch z), n S.ld_ (fun z => nomatch z), S.led, S.nok, S.cok⟩
/-! ### promises -/
def JugAt (H : Hp) (j : Addr) : Prop := ∃ g s c : Int, H j = some (.lst [.int g, .int s, .int c]) ∧ -(2 ^ 64) < s ∧ s < 2 ^ 64
section
variable (K : PySem.W.Frag) (C : Addr)
def sp_is_number : Sp := fun vs H Q _ => ∃ (i : Int), vs = [.int i] ∧ Q (.bl true) H
def sp_is_whole : Sp := fun vs H Q _ => ∃ (i : Int) (lo : Int) (hi : Int), vs = [.int i, .int lo, .int hi] ∧ lo ≤ i ∧ i ≤ hi ∧ Q (.bl true) H
def sp_is_place : Sp := fun vs H Q _ => ∃ (i : Int), vs = [.int i] ∧ 0 ≤ i ∧ i ≤ 999 ∧ Q (.bl true) H
def sp_is_letter : Sp := fun vs H Q _ => ∃ (c : Nat), vs = [.str (ch c)] ∧ 97 ≤ c ∧ c ≤ 122 ∧ Q (.bl true) H
def sp_is_tuple_of : Sp := fun vs H Q _ => ∃ (a : Addr) (xs : List V), vs = [.ref a, .int (xs.length : Int)] ∧ SqT K H a xs ∧ Q (.bl true) H
def sp_number_in : Sp := fun vs H Q _ => ∃ i : Int, vs = [.str (numS i), .int 999] ∧ 0 ≤ i ∧ i ≤ 999 ∧ Q (.int i) H
def sp_are_store_names : Sp := fun vs H Q _ => ∃ (v : V) (ns : List (Nat × Int)), vs = [v] ∧ TP K H v (ns.map nV) ∧ NOk ns ∧ Q (.bl true) H
def sp_wrong_cell : Sp := fun vs H Q _ => ∃ (v : V) (cs : List (Int × Int)), vs = [v] ∧ TP K H v (cs.map cV) ∧ COk cs ∧ ∀ (H' : Hp), Same H H' → Q .non H'
def sp_store_text : Sp := fun vs H Q _ => ∃ (v : V) (u : V) (ns : List (Nat × Int)) (cs : List (Int × Int)), vs = [v, u] ∧ TP K H v (ns.map nV) ∧ TP K H u (cs.map cV) ∧ NOk ns ∧ COk cs ∧ ∀ (H' : Hp), Same H H' → Q (.str (stTxt ns cs)) H'
def sp_init : Sp := fun vs H Q _ => ∃ (x : Addr) (dx : Addr) (v : V) (u : V) (ns : List (Nat × Int)) (cs : List (Int × Int)), vs = [.ref x, v, u] ∧ H x = some (.ins C dx []) ∧ TP K H v (ns.map nV) ∧ TP K H u (cs.map cV) ∧ NOk ns ∧ COk cs ∧
  ∀ (H' : Hp), St K C H' x ns cs → Chg x H H' → Q .non H'
def sp_take : Sp := fun vs H Q _ => ∃ (x : Addr) (dx : Addr) (v : V) (u : V) (ns : List (Nat × Int)) (cs : List (Int × Int)), vs = [.ref x, v, u] ∧ H x = some (.ins C dx []) ∧ TP K H v (ns.map nV) ∧ TP K H u (cs.map cV) ∧ NOk ns ∧ COk cs ∧
  ∀ (H' : Hp), St K C H' x ns cs → Chg x H H' → Q .non H'
def sp_eq : Sp := fun vs H Q _ => ∃ (x : Addr) (y : V) (ns : List (Nat × Int)) (cs : List (Int × Int)), vs = [.ref x, y] ∧ St K C H x ns cs ∧
  ((∃ (x' : Addr) (ns' : List (Nat × Int)) (cs' : List (Int × Int)), y = .ref x' ∧ St K C H x' ns' cs' ∧ Q (.bl (decide (ns = ns' ∧ cs = cs'))) H) ∨ (((∃ (z : Str), y = .str z) ∨ (∃ (i : Int), y = .int i) ∨ ∃ (a : Addr) (xs : List V), y = .ref a ∧ SqT K H a xs) ∧ Q (.bl false) H))
def sp_at : Sp := fun vs H Q _ => ∃ (x : Addr) (ns : List (Nat × Int)) (cs : List (Int × Int)) (p : Nat × Int), vs = [.ref x, .str (ch p.1)] ∧ St K C H x ns cs ∧ p ∈ ns ∧ Q (.int p.2) H
def sp_arrow : Sp := fun vs H Q _ => ∃ (x : Addr) (ns : List (Nat × Int)) (cs : List (Int × Int)) (i : Int), vs = [.ref x, .int i] ∧ St K C H x ns cs ∧ 0 ≤ i ∧ i ≤ 999 ∧ Q (lookC cs i) H
def sp_is_gone : Sp := fun vs H Q _ => ∃ (x : Addr) (ns : List (Nat × Int)) (cs : List (Int × Int)) (i : Int), vs = [.ref x, .int i] ∧ St K C H x ns cs ∧ 0 ≤ i ∧ i ≤ 999 ∧ Q (.bl (goneB ns cs i)) H
def sp_name_in : Sp := fun vs H Q _ => ∃ p : Nat × Int, vs = [.str (nameW p)] ∧ 97 ≤ p.1 ∧ p.1 ≤ 122 ∧ 0 ≤ p.2 ∧ p.2 ≤ 999 ∧ ∀ (H' : Hp) (b : Addr), Same H H' → H b = none → H' b = some (.tup [(nV p).1, (nV p).2]) → Q (.ref b) H'
def sp_cell_in : Sp := fun vs H Q _ => ∃ p : Int × Int, vs = [.str (cellW p)] ∧ 0 ≤ p.1 ∧ p.1 ≤ 999 ∧ 0 ≤ p.2 ∧ p.2 ≤ 999 ∧ ∀ (H' : Hp) (b : Addr), Same H H' → H b = none → H' b = some (.tup [(cV p).1, (cV p).2]) → Q (.ref b) H'
def sp_read_store : Sp := fun vs H Q _ => ∃ (ns : List (Nat × Int)) (cs : List (Int × Int)), vs = [.str (stTxt ns cs)] ∧ NOk ns ∧ COk cs ∧ ∀ (H' : Hp) (x : Addr), Same H H' → H x = none → St K C H' x ns cs → Q (.ref x) H'
def sp_store_in : Sp := fun vs H Q _ => ∃ (ns : List (Nat × Int)) (cs : List (Int × Int)), vs = [.str (stTxt ns cs)] ∧ NOk ns ∧ COk cs ∧ ∀ (H' : Hp) (x : Addr), Same H H' → H x = none → St K C H' x ns cs → Q (.ref x) H'
def sp_law_jug : Sp := fun vs H Q _ => ∃ (a : Addr) (ns : List Int) (t : Int), vs = [.ref a, .int t] ∧ SqL K H a (ns.map V.int) ∧ 0 ≤ t ∧ t ≤ 1000 ∧ ns.length ≤ 63 ∧ ∀ (H' : Hp) (j : Addr), Same H H' → H j = none → JugAt H' j → Q (.ref j) H'
def sp_law_take : Sp := fun vs H Q _ => ∃ (j : Addr) (m : Int), vs = [.ref j, .int m] ∧ JugAt H j ∧ 1 ≤ m ∧ m < 1000000 ∧ ∀ (H' : Hp) (k : Int), Chg j H H' → JugAt H' j → 0 ≤ k → k < m → Q (.int k) H'
def sp_law_one_of : Sp := fun vs H Q _ => ∃ (j : Addr) (l : Addr) (xs : List V), vs = [.ref j, .ref l] ∧ JugAt H j ∧ l ≠ j ∧ SqL K H l xs ∧ xs ≠ [] ∧ xs.length < 1000000 ∧ ∀ (H' : Hp) (x : V), Chg j H H' → JugAt H' j → x ∈ xs → Q x H'
def sp_law_letters : Sp := fun vs H Q _ => ∃ (j : Addr) (m : Int), vs = [.ref j, .int m] ∧ JugAt H j ∧ 1 ≤ m ∧ m ≤ 4 ∧ ∀ H' p (cs : List Nat), Chg j H H' → JugAt H' j → H p = none → H' p = some (.lst (cs.map fun c => V.str (ch c))) → (cs.length : Int) = m →
  (∀ c ∈ cs, 97 ≤ c ∧ c ≤ 122) → cs.Pairwise (· < ·) → Q (.ref p) H'
def sp_law_drawn_cells : Sp := fun vs H Q _ => ∃ (j : Addr) (m : Int), vs = [.ref j, .int m] ∧ JugAt H j ∧ 0 ≤ m ∧ m ≤ 30 ∧ ∀ H' t pc pg (rs : List Addr) (cs : List (Int × Int)) (gs : List Int), Chg j H H' → JugAt H' j → H' t = some (.tup [.ref pc, .ref pg]) →
  H pc = none → H' pc = some (.lst (rs.map V.ref)) → Paired (fun b (p : V × V) => SqT K H' b [p.1, p.2]) rs (cs.map cV) → H pg = none → H' pg = some (.lst (gs.map V.int)) → gs ≠ [] → gs.length ≤ 100 → (∀ g ∈ gs, 0 ≤ g ∧ g ≤ 999) → COk cs → Q (.ref t) H'
def sp_law_arrows : Sp := fun vs H Q _ => ∃ (u : V) (cs : List (Int × Int)), vs = [u] ∧ TP K H u (cs.map cV) ∧ COk cs ∧ ∀ (H' : Hp) (d : Addr), Same H H' → H d = none → H' d = some (.dK (kC cs)) → Q (.ref d) H'
def sp_law_turned : Sp := fun vs H Q _ => ∃ (j : Addr) (v : V) (u : V) (g : Addr) (ns : List (Nat × Int)) (cs : List (Int × Int)) (gs : List Int), vs = [.ref j, v, u, .ref g] ∧ JugAt H j ∧ g ≠ j ∧ H g = some (.lst (gs.map V.int)) ∧ gs ≠ [] ∧ gs.length ≤ 100 ∧ (∀ i ∈ gs, 0 ≤ i ∧ i ≤ 999) ∧ TP K H v (ns.map nV) ∧ TP K H u (cs.map cV) ∧ NOk ns ∧ COk cs ∧
  ∀ (H' : Hp) (t : Addr) (v' : V) (u' : V) (ns' : List (Nat × Int)) (cs' : List (Int × Int)), Chg j H H' → JugAt H' j → SqT K H' t [v', u'] → TP K H' v' (ns'.map nV) → TP K H' u' (cs'.map cV) → NOk ns' → COk cs' → Q (.ref t) H'
def sp_law_tells : Sp := fun vs H Q _ => ∃ (x : Addr) (v : V) (u : V) (ns : List (Nat × Int)) (cs : List (Int × Int)), vs = [.ref x, v, u] ∧ St K C H x ns cs ∧ TP K H v (ns.map nV) ∧ TP K H u (cs.map cV) ∧ ∀ (H' : Hp), Same H H' → Q (.bl true) H'
def sp_law_places_right : Sp := fun vs H Q _ => ∃ (x : Addr) (v : V) (u : V) (l : Addr) (ns : List (Nat × Int)) (cs : List (Int × Int)) (ps : List Int), vs = [.ref x, v, u, .ref l] ∧ St K C H x ns cs ∧ TP K H v (ns.map nV) ∧ TP K H u (cs.map cV) ∧ H l = some (.lst (ps.map V.int)) ∧ ps ≠ [] ∧ (∀ i ∈ ps, 0 ≤ i ∧ i ≤ 999) ∧ ∀ (H' : Hp), Same H H' → Q (.bl true) H'
def sp_law_right : Sp := fun vs H Q _ => ∃ (j : Addr), vs = [.ref j] ∧ JugAt H j ∧ ∀ (H' : Hp), Chg j H H' → Q (.bl true) H'
def sp_law : Sp := fun vs H Q _ => ∃ (a : Addr) (ns : List Int), vs = [.ref a] ∧ SqL K H a (ns.map V.int) ∧ ns.length ≤ 63 ∧ ∀ (H' : Hp), Q (.bl true) H'
end
end K1
/-! Walks over anything; texts; small lemmas. -/
namespace K1
open PySem PySem.Spec L2 Z
theorem for_it {J : It} {n : Nat} {g : TG} {tb : TS} {D : Ends} {σ : L2.St} {H : Hp} (Pv : Nat → L2.St → Hp → Prop) (h0 : Pv 0 σ H) (go : ∀ i σ H, i < n → Pv i σ H → J.go i H) (stop : ∀ σ H, Pv n σ H → J.stop n H)
    (hs : ∀ i v σ H H', i < n → Pv i σ H → J.yld i H v H' → g v σ H' fun σ2 H2 => tb { D with nx := Pv (i + 1), ct := Pv (i + 1), bk := D.nx } σ2 H2) (hd : ∀ σ H, Pv n σ H → D.nx σ H) :
    ∃ W : Nat → Nat → L2.St → Hp → Prop, (∃ m, W 0 m σ H) ∧ ∀ i m σ H, W i m σ H →
      (J.stop i H ∧ D.nx σ H) ∨ (J.go i H ∧ ∃ N : L2.St → Hp → Prop, (∀ σ' H', N σ' H' → ∃ m', m' < m ∧ W (i + 1) m' σ' H') ∧ ∀ x H', J.yld i H x H' → g x σ H' fun σ2 H2 => tb { D with nx := N, ct := N, bk := D.nx } σ2 H2) := by
  refine ⟨fun i m σ H => m = n - i ∧ i ≤ n ∧ Pv i σ H, ⟨n, by simp, Nat.zero_le _, h0⟩, ?_⟩
  rintro i m σ H ⟨rfl, hi, p⟩
  by_cases hlt : i < n
  · exact .inr ⟨go i σ H hlt p, Pv (i + 1), fun σ' H' p' => ⟨n - (i + 1), by omega, rfl, hlt, p'⟩, fun x H' y => hs i x σ H H' hlt p y⟩
  · have e : i = n := by omega
    subst e
    exact .inl ⟨stop σ H p, hd σ H p⟩
theorem lc_it {J : It} {n : Nat} {g : TG} {tt : TT} {te : TE} {vs : List Nat} {σ : L2.St} {H1 : Hp} {D : Addr} {Qd : Hp → Prop} (Pv : Nat → Hp → Prop) (h0 : Pv 0 (upd H1 D (.lst []))) (go : ∀ i H, i < n → Pv i H → J.go i H) (stop : ∀ H, Pv n H → J.stop n H)
    (hs : ∀ i x H H', i < n → Pv i H → J.yld i H x H' → g x (wipe σ vs) H' fun σ2 H2 => wipe σ2 vs = wipe σ vs ∧ tt σ2 H2 fun b H3 =>
      if b = true then te σ2 H3 fun y H4 => ∃ acc, H4 D = some (.lst acc) ∧ acc.length < sizeLine ∧ Pv (i + 1) (upd H4 D (.lst (acc ++ [y]))) else Pv (i + 1) H3) (hd : ∀ H, Pv n H → Qd H) :
    ∃ W : Nat → Nat → Hp → Prop, (∃ m, W 0 m (upd H1 D (.lst []))) ∧ ∀ i m H, W i m H →
      (J.stop i H ∧ Qd H) ∨ (J.go i H ∧ ∃ Nx : Hp → Prop, (∀ H', Nx H' → ∃ m', m' < m ∧ W (i + 1) m' H') ∧ ∀ x H', J.yld i H x H' → g x (wipe σ vs) H' fun σ2 H2 => wipe σ2 vs = wipe σ vs ∧ tt σ2 H2 fun b H3 =>
        if b = true then te σ2 H3 fun y H4 => ∃ acc, H4 D = some (.lst acc) ∧ acc.length < sizeLine ∧ Nx (upd H4 D (.lst (acc ++ [y]))) else Nx H3) := by
  refine ⟨fun i m H => m = n - i ∧ i ≤ n ∧ Pv i H, ⟨n, by simp, Nat.zero_le _, h0⟩, ?_⟩
  rintro i m H ⟨rfl, hi, p⟩
  by_cases hlt : i < n
  · exact .inr ⟨go i H hlt p, Pv (i + 1), fun H' p' => ⟨n - (i + 1), by omega, rfl, hlt, p'⟩, fun x H' y => hs i x H H' hlt p y⟩
  · have e : i = n := by omega
    subst e
    exact .inl ⟨stop H p, hd H p⟩
theorem lt_none {c : Nat} : decide ((Str.ofString "").cps.toList < (ch c).cps.toList) = true := by
  have e : (Str.ofString "").cps.toList = [] := by decide +kernel
  rw [e]
  exact decide_eq_true (List.nil_lt_cons _ _)
theorem lt_sign {a c : Nat} (h : a < c) : decide ((ch a).cps.toList < (ch c).cps.toList) = true := decide_eq_true (List.cons_lt_cons_iff.mpr (.inl h))
theorem asc_at {α : Type} {f : α → Nat} {ls : List α} (h : (ls.map f).Pairwise (· < ·)) {i : Nat} {p q : α} (e : ls[i]? = some p) (e2 : ls[i + 1]? = some q) : f p < f q := by
  rw [List.pairwise_map] at h
  obtain ⟨h1, rfl⟩ := List.getElem?_eq_some_iff.mp e
  obtain ⟨h2, rfl⟩ := List.getElem?_eq_some_iff.mp e2
  exact List.pairwise_iff_getElem.mp h _ _ h1 h2 (Nat.lt_succ_self _)
theorem asc_atI {α : Type} {f : α → Int} {ls : List α} (h : (ls.map f).Pairwise (· < ·)) {i : Nat} {p q : α} (e : ls[i]? = some p) (e2 : ls[i + 1]? = some q) : f p < f q := by
  rw [List.pairwise_map] at h
  obtain ⟨h1, rfl⟩ := List.getElem?_eq_some_iff.mp e
  obtain ⟨h2, rfl⟩ := List.getElem?_eq_some_iff.mp e2
  exact List.pairwise_iff_getElem.mp h _ _ h1 h2 (Nat.lt_succ_self _)
theorem map_at {α β : Type} {f : α → β} {ls : List α} {i : Nat} {y : β} (e : (ls.map f)[i]? = some y) : ∃ x, ls[i]? = some x ∧ y = f x := by
  rw [List.getElem?_map] at e
  cases h : ls[i]? with
  | none => rw [h] at e; cases e
  | some x => rw [h] at e; exact ⟨x, rfl, (Option.some.inj e).symm⟩
/-- a comprehension over a tuple of pairs that makes nothing -/
theorem lc_pairs {α : Type} {K : PySem.W.Frag} {rs : List Addr} {ls : List α} {a : Addr} {g : TG} {te : TE} {vs : List Nat} {σ : L2.St} {H1 : Hp} {D : Addr} {Qd : Hp → Prop} (emb : α → V × V) (f : α → V)
    (hT : PT H1 a (rs.map V.ref)) (hp : Paired (fun b (p : V × V) => SqT K H1 b [p.1, p.2]) rs (ls.map emb)) (hD : H1 D = none) (hz : ls.length ≤ 1000)
    (hs : ∀ b p H (R : V → Hp → Prop), Same H1 H → SqT K H b [(emb p).1, (emb p).2] → p ∈ ls → R (f p) H → g (.ref b) (wipe σ vs) H fun σ2 H2 => wipe σ2 vs = wipe σ vs ∧ te σ2 H2 R)
    (hd : ∀ H, Same H1 H → H D = some (.lst (ls.map f)) → Qd H) :
    ∃ W : Nat → Nat → Hp → Prop, (∃ m, W 0 m (upd H1 D (.lst []))) ∧ ∀ i m H, W i m H →
      ((Itt K a).stop i H ∧ Qd H) ∨ ((Itt K a).go i H ∧ ∃ Nx : Hp → Prop, (∀ H', Nx H' → ∃ m', m' < m ∧ W (i + 1) m' H') ∧ ∀ x H', (Itt K a).yld i H x H' → g x (wipe σ vs) H' fun σ2 H2 => wipe σ2 vs = wipe σ vs ∧ tYes σ2 H2 fun b H3 =>
        if b = true then te σ2 H3 fun y H4 => ∃ acc, H4 D = some (.lst acc) ∧ acc.length < sizeLine ∧ Nx (upd H4 D (.lst (acc ++ [y]))) else Nx H3) := by
  have hl : rs.length = ls.length := by rw [Paired.len hp, List.length_map]
  refine lc_tup (xs := rs.map V.ref) (fun i H => Same H1 H ∧ H D = some (.lst ((ls.take i).map f))) ⟨same_new hD, upd_same⟩ (fun i H _ h => (PT.same h.1 hT).sq) (fun i x H hx h => ?_) (fun H h => hd H h.1 ?_)
  · obtain ⟨sm, hDl⟩ := h
    obtain ⟨b, p, rfl, e1, e2, hq⟩ := pairs_at (Paired.imm (.of sm) hp) hx
    obtain ⟨q, e3, rfl⟩ := map_at e2
    have hi : i < ls.length := (List.getElem?_eq_some_iff.mp e3).1
    refine hs b q H (fun y H4 => ∃ acc, H4 D = some (.lst acc) ∧ acc.length < sizeLine ∧ Same H1 (upd H4 D (.lst (acc ++ [y]))) ∧ upd H4 D (.lst (acc ++ [y])) D = some (.lst ((ls.take (i + 1)).map f))) sm hq (List.mem_of_getElem? e3) ⟨_, hDl, ?_, fun c o e => ?_, ?_⟩
    · rw [List.length_map, List.length_take]
      exact small1000 (by omega)
    · have nb : c ≠ D := ne_of_none e hD
      rw [upd_ne nb]
      exact sm _ _ e
    · rw [upd_same, List.take_add_one, e3, List.map_append]
      rfl
  · have := h.2
    rw [List.length_map, hl, List.take_length] at this
    exact this
theorem lcP {α : Type} {K : PySem.W.Frag} {rs : List Addr} {ls : List α} {a : Addr} {i : Nat} {g : TG} {te : TE} {vs : List Nat} {σ : L2.St} {H : Hp} {Q : VK} (emb : α → V × V) (f : α → V) (hv : σ[i]? = some (some (.ref a)))
    (hT : PT H a (rs.map V.ref)) (hp : Paired (fun b (p : V × V) => SqT K H b [p.1, p.2]) rs (ls.map emb)) (hz : ls.length ≤ 1000)
    (hs : ∀ b p H' (R : V → Hp → Prop), Same H H' → SqT K H' b [(emb p).1, (emb p).2] → p ∈ ls → R (f p) H' → g (.ref b) (wipe σ vs) H' fun σ2 H2 => wipe σ2 vs = wipe σ vs ∧ te σ2 H2 R)
    (hd : ∀ H' D, Same H H' → H D = none → H' D = some (.lst (ls.map f)) → Q (.ref D) H') : tLc (iTup K (tVar i)) g tYes te vs σ H Q :=
  ⟨_, hv, a, rfl, ⟨_, hT.sq⟩, fun D hD => lc_pairs emb f hT hp hD hz hs fun H' sm hl => hd H' D sm hD hl⟩
/-- a walk over a tuple of pairs -/
theorem for_pairs {K : PySem.W.Frag} {rs : List Addr} {ls : List (V × V)} {a : Addr} {g : TG} {tb : TS} {D : Ends} {σ : L2.St} {H H0 : Hp} (Pv : Nat → L2.St → Hp → Prop) (h0 : Pv 0 σ H)
    (hT : PT H0 a (rs.map V.ref)) (hp : Paired (fun b (p : V × V) => SqT K H0 b [p.1, p.2]) rs ls) (hI : ∀ i σ H, Pv i σ H → Imm H0 H)
    (hs : ∀ i b p σ H, rs[i]? = some b → ls[i]? = some p → SqT K H b [p.1, p.2] → Pv i σ H → g (.ref b) σ H fun σ2 H2 => tb { D with nx := Pv (i + 1), ct := Pv (i + 1), bk := D.nx } σ2 H2) (hd : ∀ σ H, Pv ls.length σ H → D.nx σ H) :
    ∃ W : Nat → Nat → L2.St → Hp → Prop, (∃ m, W 0 m σ H) ∧ ∀ i m σ H, W i m σ H →
      ((Itt K a).stop i H ∧ D.nx σ H) ∨ ((Itt K a).go i H ∧ ∃ N : L2.St → Hp → Prop, (∀ σ' H', N σ' H' → ∃ m', m' < m ∧ W (i + 1) m' σ' H') ∧ ∀ x H', (Itt K a).yld i H x H' → g x σ H' fun σ2 H2 => tb { D with nx := N, ct := N, bk := D.nx } σ2 H2) := by
  have hl : rs.length = ls.length := Paired.len hp
  refine for_it (n := ls.length) Pv h0 (fun i σ H hi p => ⟨rs.map V.ref, (rs.map V.ref)[i]'(by simpa using hl ▸ hi), (PT.imm (hI _ _ _ p) hT).sq, List.getElem?_eq_getElem _⟩) (fun σ H p => ⟨rs.map V.ref, (PT.imm (hI _ _ _ p) hT).sq, by simp [hl]⟩) (fun i v σ H H' hi p y => ?_) hd
  obtain ⟨rfl, y⟩ := y
  obtain ⟨b, q, rfl, e1, e2, hq⟩ := pairs_at (Paired.imm (hI _ _ _ p) hp) (y _ (PT.imm (hI _ _ _ p) hT).sq)
  exact hs i b q σ H' e1 e2 hq p
/-- the same, each with its place -/
theorem for_enumP {K : PySem.W.Frag} {rs : List Addr} {ls : List (V × V)} {a : Addr} {g : TG} {tb : TS} {D : Ends} {σ : L2.St} {H H0 : Hp} (Pv : Nat → L2.St → Hp → Prop) (h0 : Pv 0 σ H)
    (hT : PT H0 a (rs.map V.ref)) (hp : Paired (fun b (p : V × V) => SqT K H0 b [p.1, p.2]) rs ls) (hI : ∀ i σ H, Pv i σ H → Same H0 H)
    (hs : ∀ i b p σ H t, rs[i]? = some b → ls[i]? = some p → SqT K H b [p.1, p.2] → Pv i σ H → H t = none → g (.ref t) σ (upd H t (.tup [.int (i : Nat), .ref b])) fun σ2 H2 => tb { D with nx := Pv (i + 1), ct := Pv (i + 1), bk := D.nx } σ2 H2) (hd : ∀ σ H, Pv ls.length σ H → D.nx σ H) :
    ∃ W : Nat → Nat → L2.St → Hp → Prop, (∃ m, W 0 m σ H) ∧ ∀ i m σ H, W i m σ H →
      ((IteT K a).stop i H ∧ D.nx σ H) ∨ ((IteT K a).go i H ∧ ∃ N : L2.St → Hp → Prop, (∀ σ' H', N σ' H' → ∃ m', m' < m ∧ W (i + 1) m' σ' H') ∧ ∀ x H', (IteT K a).yld i H x H' → g x σ H' fun σ2 H2 => tb { D with nx := N, ct := N, bk := D.nx } σ2 H2) := by
  have hl : rs.length = ls.length := Paired.len hp
  refine for_it (n := ls.length) Pv h0 (fun i σ H hi p => ⟨rs.map V.ref, (rs.map V.ref)[i]'(by simpa using hl ▸ hi), (PT.same (hI _ _ _ p) hT).sq, List.getElem?_eq_getElem _⟩) (fun σ H p => ⟨rs.map V.ref, (PT.same (hI _ _ _ p) hT).sq, by simp [hl]⟩) (fun i v σ H H' hi p y => ?_) hd
  obtain ⟨t, x, rfl, hn, rfl, y⟩ := y
  obtain ⟨b, q, rfl, e1, e2, hq⟩ := pairs_at (Paired.imm (.of (hI _ _ _ p)) hp) (y _ (PT.same (hI _ _ _ p) hT).sq)
  exact hs i b q σ H t e1 e2 hq p hn
/-! ### numbers as texts -/
theorem numS_nat {i : Int} (h : 0 ≤ i) : numS i = Str.ofString (toString ((i.toNat : Nat) : Int)) := by
  unfold numS
  rw [Int.toNat_of_nonneg h]
theorem tl_numS {i : Int} (h : 0 ≤ i) : TL.tl (numS i) = TL.numL i.toNat := by
  rw [numS_nat h]
  exact TL.tl_num _
theorem num_facts : ∀ n : Fin 1000, (TL.numL n.val).length ≤ 3 ∧ TL.numL n.val ≠ [] ∧ (TL.numL n.val = [48] ∨ (TL.numL n.val)[0]? ≠ some 48) := by decide +kernel
theorem num_len {i : Int} (h : 0 ≤ i) (h2 : i ≤ 999) : (numS i).length ≤ 3 := by
  rw [TL.len_tl, tl_numS h]
  exact (num_facts ⟨i.toNat, by omega⟩).1
theorem num_pos {i : Int} (h : 0 ≤ i) (h2 : i ≤ 999) : 1 ≤ (numS i).length := by
  rw [TL.len_tl, tl_numS h]
  have := (num_facts ⟨i.toNat, by omega⟩).2.1
  exact List.length_pos_iff.mpr this
theorem digit_in {c : Nat} (h1 : 48 ≤ c) (h2 : c ≤ 57) : decide (c ∈ (Str.ofString "0123456789").cps.toList) = true := by
  have e : (Str.ofString "0123456789").cps.toList = (List.range 10).map (· + 48) := by decide +kernel
  rw [e]
  exact decide_eq_true (List.mem_map.mpr ⟨c - 48, List.mem_range.mpr (by omega), by omega⟩)
theorem letter_in {c : Nat} (h1 : 97 ≤ c) (h2 : c ≤ 122) : decide (c ∈ (Str.ofString "abcdefghijklmnopqrstuvwxyz").cps.toList) = true := by
  have e : (Str.ofString "abcdefghijklmnopqrstuvwxyz").cps.toList = (List.range 26).map (· + 97) := by decide +kernel
  rw [e]
  exact decide_eq_true (List.mem_map.mpr ⟨c - 97, List.mem_range.mpr (by omega), by omega⟩)
theorem num_int {i : Int} (h : 0 ≤ i) (h2 : i ≤ 999) : PySem.intText? (numS i) = some i := by
  rw [numS_nat h, TL.int_num, Int.toNat_of_nonneg h]
  exact Nat.le_trans (num_facts ⟨i.toNat, by omega⟩).1 (by decide)
theorem num_log {i : Int} (h : 0 ≤ i) (h2 : i ≤ 999) : i.natAbs.log2 < 1920 := by
  have e : i.natAbs.log2 ≤ i.natAbs := Nat.log2_le_self _
  omega
theorem str_ne {x y : Str} (h : TL.tl x ≠ TL.tl y) : decide (V.str x = V.str y) = false := decide_eq_false fun e => h (by cases e; rfl)
theorem z0_tl : TL.tl (Str.ofString "0") = [48] := by decide +kernel
theorem e_tl : TL.tl (Str.ofString "") = [] := by decide +kernel
theorem n999 : (Str.ofString (toString (999 : Int))).length = 3 := by decide +kernel
theorem num_dig {i : Int} (h : 0 ≤ i) : ∀ c ∈ TL.tl (numS i), 48 ≤ c ∧ c ≤ 57 := fun c hc => by
  rw [tl_numS h] at hc
  refine ⟨?_, ?_⟩
  · by_cases z : c < 48
    · exact absurd hc (TL.numL_free (.inl z))
    · omega
  · by_cases z : 57 < c
    · exact absurd hc (TL.numL_free (.inr z))
    · omega
theorem num_head {i : Int} (h : 0 ≤ i) (h2 : i ≤ 999) : ∃ c t, TL.tl (numS i) = c :: t ∧ (c = 48 → numS i = Str.ofString "0") := by
  have F := num_facts ⟨i.toNat, by omega⟩
  have e := tl_numS h
  rcases hx : TL.tl (numS i) with _ | ⟨c, t⟩
  · exact absurd (e.symm.trans hx) F.2.1
  · refine ⟨c, t, rfl, fun z => ?_⟩
    subst z
    have hx2 := e.symm.trans hx
    rcases F.2.2 with q | q
    · apply TL.ext_tl
      rw [z0_tl, e]
      exact q
    · exact absurd (by rw [hx2]; rfl) q
theorem at_nat {α : Type} {xs : List α} {i : Nat} {x : α} (h : xs[i]? = some x) : atI xs (i : Int) = some x := by
  have hi : i < xs.length := (List.getElem?_eq_some_iff.mp h).1
  have e : ixN xs.length (i : Int) = some i := by
    unfold ixN
    rw [if_pos (by omega), if_pos (by omega)]
    rfl
  show (ixN xs.length (i : Int)).bind _ = _
  rw [e]
  exact h
theorem at_first {α : Type} {xs : List α} {x : α} : atI (x :: xs) 0 = some x := at_nat (i := 0) rfl
theorem at_snd {α : Type} {xs : List α} {x y : α} : atI (x :: y :: xs) 1 = some y := at_nat (i := 1) rfl
theorem asc_uniq {α β : Type} {f : α → β} {R : β → β → Prop} (irr : ∀ b, ¬ R b b) : ∀ {ls : List α}, (ls.map f).Pairwise R → ∀ {p q : α}, p ∈ ls → q ∈ ls → f p = f q → p = q
  | x :: t, h, p, q, hp, hq, e => by
    rw [List.map_cons, List.pairwise_cons] at h
    rcases List.mem_cons.mp hp with rfl | hp' <;> rcases List.mem_cons.mp hq with rfl | hq'
    · rfl
    · exact absurd (e ▸ h.1 (f q) (List.mem_map_of_mem hq')) (irr _)
    · exact absurd (e ▸ h.1 (f p) (List.mem_map_of_mem hp')) (irr _)
    · exact asc_uniq irr h.2 hp' hq' e
theorem val_n {ns : List (Nat × Int)} (ok : NOk ns) {p : Nat × Int} (h : p ∈ ns) : valV (kN ns) (Sum.inr (ch p.1) : Key) = some (.int p.2) := by
  unfold valV kN
  rw [List.find?_map]
  cases hf : ns.find? ((fun kv : Key × V => decide (kv.1 = Sum.inr (ch p.1))) ∘ fun p => (Sum.inr (ch p.1), V.int p.2)) with
  | none =>
    have := List.find?_eq_none.mp hf p h
    simp at this
  | some q =>
    have h1 := List.find?_some hf
    have h2 := List.mem_of_find?_eq_some hf
    have e : q.1 = p.1 := by
      simp only [Function.comp, decide_eq_true_eq, Sum.inr.injEq] at h1
      have := congrArg (fun s : Str => s.cps.toList) h1
      simpa [ch] using this
    have := asc_uniq (f := fun p : Nat × Int => p.1) (fun b => Nat.lt_irrefl b) ok.asc h2 h e
    subst this
    rfl
theorem find_c (cs : List (Int × Int)) (i : Int) : valV (kC cs) (Sum.inl i : Key) = (cs.find? fun p => decide (p.1 = i)).map fun p => V.int p.2 := by
  unfold valV kC
  rw [List.find?_map, Option.map_map]
  have e : ((fun kv : Key × V => decide (kv.1 = Sum.inl i)) ∘ fun p : Int × Int => ((Sum.inl p.1 : Key), V.int p.2)) = fun p => decide (p.1 = i) := by
    funext p
    simp
  rw [e]
  rfl
theorem look_c (cs : List (Int × Int)) (i : Int) : (valV (kC cs) (Sum.inl i : Key)).getD .non = lookC cs i := by
  rw [find_c]
  unfold lookC
  cases cs.find? fun p => decide (p.1 = i) <;> rfl
theorem some_c (cs : List (Int × Int)) (i : Int) : (valV (kC cs) (Sum.inl i : Key)).isSome = isC cs i := by
  rw [find_c, Option.isSome_map]
  unfold isC
  rw [Bool.eq_iff_iff, List.find?_isSome, List.any_eq_true]
theorem ch_len (c : Nat) : (ch c).length = 1 := rfl
theorem len_app (a b : Str) : (a ++ b).length = a.length + b.length := by
  rw [TL.len_tl, TL.len_tl, TL.len_tl, TL.tl_append, List.length_append]
theorem emp_app (a : Str) : Str.empty ++ a = a := TL.ext_tl (by rw [TL.tl_append]; rfl)
theorem nameW_len {p : Nat × Int} (h : 0 ≤ p.2) (h2 : p.2 ≤ 999) : (nameW p).length ≤ 5 := by
  have := num_len h h2
  have e : (Str.ofString "=").length = 1 := by decide +kernel
  unfold nameW
  rw [len_app, len_app, ch_len, e]
  omega
theorem cellW_len {p : Int × Int} (h : 0 ≤ p.1) (h2 : p.1 ≤ 999) (h3 : 0 ≤ p.2) (h4 : p.2 ≤ 999) : (cellW p).length ≤ 7 := by
  have a := num_len h h2
  have b := num_len h3 h4
  have e : (Str.ofString ">").length = 1 := by decide +kernel
  unfold cellW
  rw [len_app, len_app, e]
  omega
theorem eq1_len : (Str.ofString "=").length = 1 := by decide +kernel
theorem gt1_len : (Str.ofString ">").length = 1 := by decide +kernel
theorem sp1_len : (Str.ofString " ").length = 1 := by decide +kernel
theorem bar_len : (Str.ofString " | ").length = 3 := by decide +kernel
theorem none_len : (Str.ofString "none").length = 4 := by decide +kernel
theorem nameW_eq (p : Nat × Int) : Str.empty ++ ch p.1 ++ Str.ofString "=" ++ Str.ofString (toString p.2) = nameW p := by
  rw [emp_app]
  rfl
theorem cellW_eq (p : Int × Int) : Str.empty ++ Str.ofString (toString p.1) ++ Str.ofString ">" ++ Str.ofString (toString p.2) = cellW p := by
  rw [emp_app]
  rfl
theorem sum_len {k : Nat} : ∀ {ys : List Str}, (∀ y ∈ ys, y.length ≤ k) → (ys.map fun x => x.length).sum ≤ k * ys.length
  | [], _ => by simp
  | y :: t, h => by
    have := sum_len (ys := t) fun z hz => h z (List.mem_cons_of_mem _ hz)
    have h1 := h y List.mem_cons_self
    rw [List.map_cons, List.sum_cons, List.length_cons, Nat.mul_succ]
    omega
theorem tl_glue (y : Str) (l : List Str) : TL.tl (Txt.join y l) = TL.joinL (TL.tl y) (l.map TL.tl) := by
  rw [TL.join_eq, TL.tl_join]
theorem joinL_len {k : Nat} {S : List Nat} : ∀ {l : List (List Nat)}, (∀ y ∈ l, y.length ≤ k) → (TL.joinL S l).length ≤ (k + S.length) * l.length
  | [], _ => by simp [TL.joinL]
  | [y], h => by
    have := h y List.mem_cons_self
    simp only [TL.joinL, List.length_cons, List.length_nil]
    omega
  | y :: z :: t, h => by
    have h1 := h y List.mem_cons_self
    have h2 := joinL_len (S := S) (l := z :: t) fun q hq => h q (List.mem_cons_of_mem _ hq)
    simp only [TL.joinL, List.length_append, List.length_cons, Nat.mul_succ] at h2 ⊢
    omega
theorem glue_len {k : Nat} {y : Str} {l : List Str} (h : ∀ z ∈ l, z.length ≤ k) : (Txt.join y l).length ≤ (k + y.length) * l.length := by
  have := joinL_len (k := k) (S := TL.tl y) (l := l.map TL.tl) fun z hz => by
    obtain ⟨q, hq, rfl⟩ := List.mem_map.mp hz
    rw [← TL.len_tl]
    exact h q hq
  rw [TL.len_tl, tl_glue, TL.len_tl y]
  rw [List.length_map] at this
  exact this
theorem nTxt_len {ns : List (Nat × Int)} (ok : NOk ns) : (nTxt ns).length ≤ 24 := by
  have h := glue_len (k := 5) (y := sp1) (l := ns.map nameW) fun y hy => by
    obtain ⟨p, hp, rfl⟩ := List.mem_map.mp hy
    exact nameW_len (ok.pl p hp).1 (ok.pl p hp).2
  have e : sp1.length = 1 := sp1_len
  have := ok.four
  rw [List.length_map, e] at h
  unfold nTxt
  omega
theorem cs_le {cs : List (Int × Int)} (ok : COk cs) : ∀ y ∈ cs.map cellW, y.length ≤ 7 := fun y hy => by
  obtain ⟨p, hp, rfl⟩ := List.mem_map.mp hy
  obtain ⟨a, b, c, d⟩ := ok.pl p hp
  exact cellW_len (by omega) b c d
theorem cTxt_len {cs : List (Int × Int)} (ok : COk cs) : (cTxt cs).length ≤ 3204 := by
  have h := glue_len (k := 7) (y := sp1) (l := cs.map cellW) (cs_le ok)
  have e : sp1.length = 1 := sp1_len
  have := ok.few
  have e2 := none_len
  rw [List.length_map, e] at h
  unfold cTxt
  split
  · omega
  · omega
theorem glue_nil {y : Str} : Txt.join y [] = Str.empty := TL.ext_tl (by rw [tl_glue]; rfl)
theorem glue_pos {k : Nat} {S : List Nat} : ∀ {l : List (List Nat)}, l ≠ [] → (∀ y ∈ l, 1 ≤ y.length) → 1 ≤ (TL.joinL S l).length
  | [y], _, h => h y List.mem_cons_self
  | y :: z :: t, _, h => by
    have h1 := h y List.mem_cons_self
    simp only [TL.joinL, List.length_append]
    omega
theorem cells_pos {cs : List (Int × Int)} (h : cs ≠ []) : 1 ≤ (Txt.join sp1 (cs.map cellW)).length := by
  rw [TL.len_tl, tl_glue]
  refine glue_pos (k := 0) (by simpa using h) fun y hy => ?_
  obtain ⟨q, hq, rfl⟩ := List.mem_map.mp hy
  obtain ⟨p, hp, rfl⟩ := List.mem_map.mp hq
  rw [← TL.len_tl]
  unfold cellW
  rw [len_app, len_app, gt1_len]
  omega
theorem none_of {H H' : Hp} {b : Addr} (e : Same H H') (h : H' b = none) : H b = none := by
  cases q : H b with
  | none => rfl
  | some o => rw [e _ _ q] at h; cases h
theorem sl_le {n : Nat} (h : n ≤ 1000000) : n ≤ sizeLine := by
  rw [sizeLine_eq]
  omega
end K1
/-! Data: what it shows, when it is alike. -/
namespace K1
open PySem PySem.Spec L2 Z
def nP (p : Nat × Int) : PyData := .tuple [.str (ch p.1), .int p.2]
def cP (p : Int × Int) : PyData := .tuple [.int p.1, .int p.2]
def nD (ns : List (Nat × Int)) : PyData := .tuple (ns.map nP)
def cD (cs : List (Int × Int)) : PyData := .tuple (cs.map cP)
theorem dp_pairs {α : Type} {K : PySem.W.Frag} {H : Hp} {emb : α → V × V} {dat : α → PyData} (go : ∀ b p, SqT K H b [(emb p).1, (emb p).2] → Dp K H (.ref b) (dat p)) :
    ∀ {rs : List Addr} {ls : List α}, Paired (fun b (p : V × V) => SqT K H b [p.1, p.2]) rs (ls.map emb) → DpAll K H (rs.map V.ref) (ls.map dat)
  | [], [], _ => .nil
  | _ :: _, _ :: _, .cons h t => .cons (go _ _ h) (dp_pairs go t)
theorem dp_n {K : PySem.W.Frag} {H : Hp} {v : V} {ns : List (Nat × Int)} (h : TP K H v (ns.map nV)) : Dp K H v (nD ns) := by
  obtain ⟨a, rs, rfl, ht, hp⟩ := h
  exact .tup ht.sq (dp_pairs (dat := nP) (fun b p q => .tup q (.cons (.str _) (.cons (.int _) .nil))) hp)
theorem dp_c {K : PySem.W.Frag} {H : Hp} {v : V} {cs : List (Int × Int)} (h : TP K H v (cs.map cV)) : Dp K H v (cD cs) := by
  obtain ⟨a, rs, rfl, ht, hp⟩ := h
  exact .tup ht.sq (dp_pairs (dat := cP) (fun b p q => .tup q (.cons (.int _) (.cons (.int _) .nil))) hp)
theorem dp_ints {K : PySem.W.Frag} {H : Hp} : ∀ xs : List Int, DpAll K H (xs.map V.int) (xs.map PyData.int)
  | [] => .nil
  | _ :: t => .cons (.int _) (dp_ints t)
theorem eqv_all {α : Type} [DecidableEq α] {dat : α → PyData} (go : ∀ a b, (dat a).eqv (dat b) = decide (a = b)) : ∀ l m : List α, PyData.eqvAll (l.map dat) (m.map dat) = decide (l = m)
  | [], [] => by simp [PyData.eqvAll]
  | [], _ :: _ => by simp [PyData.eqvAll]
  | _ :: _, [] => by simp [PyData.eqvAll]
  | a :: l, b :: m => by
    rw [List.map_cons, List.map_cons, PyData.eqvAll, go, eqv_all go l m, Bool.eq_iff_iff]
    simp
theorem ch_inj {a b : Nat} : (ch a == ch b) = decide (a = b) := by
  rw [Bool.eq_iff_iff]
  simp only [beq_iff_eq, decide_eq_true_eq]
  refine ⟨fun e => ?_, fun e => by rw [e]⟩
  have := congrArg (fun s : Str => s.cps.toList) e
  simpa [ch] using this
theorem eqv_n (l m : List (Nat × Int)) : (nD l).eqv (nD m) = decide (l = m) := by
  refine Eq.trans (by simp only [nD, PyData.eqv]) (eqv_all (dat := nP) (fun a b => ?_) l m)
  simp only [nP, PyData.eqv, PyData.eqvAll, ch_inj, Bool.and_true]
  rw [Bool.eq_iff_iff]
  simp only [Bool.and_eq_true, decide_eq_true_eq, beq_iff_eq]
  exact ⟨fun h => Prod.ext h.1 h.2, fun h => by rw [h]; exact ⟨rfl, rfl⟩⟩
theorem eqv_c (l m : List (Int × Int)) : (cD l).eqv (cD m) = decide (l = m) := by
  refine Eq.trans (by simp only [cD, PyData.eqv]) (eqv_all (dat := cP) (fun a b => ?_) l m)
  simp only [cP, PyData.eqv, PyData.eqvAll, Bool.and_true]
  rw [Bool.eq_iff_iff]
  simp only [Bool.and_eq_true, decide_eq_true_eq, beq_iff_eq]
  exact ⟨fun h => Prod.ext h.1 h.2, fun h => by rw [h]; exact ⟨rfl, rfl⟩⟩
/-- small: what it shows, how deep it is -/
structure Fit (d : PyData) (n m : Nat) : Prop where
  len : d.shown.length ≤ n
  ok : d.showable = true
  nod : d.hasDict = false
  dep : d.depth ≤ m
theorem fit_le {d : PyData} {n m n' m' : Nat} (h : Fit d n m) (a : n ≤ n') (b : m ≤ m') : Fit d n' m' := ⟨Nat.le_trans h.len a, h.ok, h.nod, Nat.le_trans h.dep b⟩
theorem fit_non : Fit .none 5 0 := ⟨by decide +kernel, rfl, rfl, Nat.le_refl _⟩
theorem fit_bl (b : Bool) : Fit (.bool b) 5 0 := ⟨by cases b <;> decide +kernel, rfl, rfl, Nat.le_refl _⟩
theorem fit_int {i : Int} (h : 0 ≤ i) (h2 : i ≤ 999) : Fit (.int i) 5 0 := ⟨by
  have := num_len h h2
  show (Str.ofString (toString i)).length ≤ 5
  unfold numS at this
  omega, by show decide _ = true; exact decide_eq_true (num_log h h2), rfl, Nat.le_refl _⟩
theorem fit_str {x : Str} {n : Nat} (h : ∀ c ∈ TL.tl x, c < 16 ^ 8) (hn : x.length ≤ n) : Fit (.str x) (10 * n + 2) 0 := ⟨by
  have := StrLaws.reprText_len x h
  show (reprText x).length ≤ _
  omega, rfl, rfl, Nat.le_refl _⟩
theorem fit_all {k m : Nat} : ∀ {ds : List PyData}, (∀ d ∈ ds, Fit d k m) → ((PyData.shownAll ds).map (·.length)).sum ≤ k * ds.length ∧ (PyData.shownAll ds).length = ds.length ∧ PyData.showableAll ds = true ∧ PyData.hasDictAll ds = false ∧ PyData.depthAll ds ≤ m
  | [], _ => ⟨by simp [PyData.shownAll], by simp [PyData.shownAll], by simp [PyData.showableAll], by simp [PyData.hasDictAll], by simp [PyData.depthAll]⟩
  | d :: t, h => by
    obtain ⟨a, b, c, e, f⟩ := fit_all (ds := t) fun x hx => h x (List.mem_cons_of_mem _ hx)
    have q := h d List.mem_cons_self
    have q1 := q.len
    have q4 := q.dep
    refine ⟨?_, ?_, ?_, ?_, ?_⟩
    · simp only [PyData.shownAll, List.map_cons, List.sum_cons, List.length_cons, Nat.mul_succ]
      omega
    · simp only [PyData.shownAll, List.length_cons, b]
    · simp only [PyData.showableAll, q.ok, c, Bool.and_true]
    · simp only [PyData.hasDictAll, q.nod, e, Bool.or_false]
    · simp only [PyData.depthAll]
      omega
theorem fit_list {k m : Nat} {ds : List PyData} (h : ∀ d ∈ ds, Fit d k m) : Fit (.list ds) ((k + 2) * ds.length + 3) (m + 1) := by
  obtain ⟨a, b, c, e, f⟩ := fit_all h
  have l := listText_len_le (PyData.shownAll ds)
  refine ⟨?_, ?_, ?_, ?_⟩
  · simp only [PyData.shown]
    rw [b] at l
    rw [Nat.add_mul]
    omega
  · simp only [PyData.showable, c]
  · simp only [PyData.hasDict, e]
  · simp only [PyData.depth]
    omega
theorem piled_sum (ts : List Str) : piled ts = (ts.map (·.length)).sum + 2 * ts.length := by
  induction ts with
  | nil => rfl
  | cons t r ih => rw [piled_cons, ih, List.map_cons, List.sum_cons, List.length_cons]; omega
theorem tup_len (ts : List Str) : (tupleText ts).length ≤ (ts.map (·.length)).sum + 2 * ts.length + 3 := by
  unfold tupleText
  rw [len_app, len_app]
  have e1 : (("(" : Str)).length = 1 := by decide +kernel
  have e2 : ((if ts.length == 1 then ",)" else ")" : String) : Str).length ≤ 2 := by
    split <;> decide +kernel
  rw [e1]
  rcases ts with _ | ⟨t, r⟩
  · have e3 : (Str.join ", " ([] : List Str)).length = 0 := rfl
    rw [e3]
    omega
  · have := join_length_add (t :: r) (by simp)
    rw [piled_sum] at this
    omega
theorem fit_tup {k m : Nat} {ds : List PyData} (h : ∀ d ∈ ds, Fit d k m) : Fit (.tuple ds) ((k + 2) * ds.length + 3) (m + 1) := by
  obtain ⟨a, b, c, e, f⟩ := fit_all h
  have l := tup_len (PyData.shownAll ds)
  refine ⟨?_, ?_, ?_, ?_⟩
  · simp only [PyData.shown]
    rw [b] at l
    rw [Nat.add_mul]
    omega
  · simp only [PyData.showable, c]
  · simp only [PyData.hasDict, e]
  · simp only [PyData.depth]
    omega
theorem ch_small {c : Nat} (h : c ≤ 122) : ∀ d ∈ TL.tl (ch c), d < 16 ^ 8 := fun d hd => by
  have : d = c := by simpa [ch] using hd
  subst this
  exact Nat.lt_of_le_of_lt h (by decide)
theorem fit_n {ns : List (Nat × Int)} (ok : NOk ns) : Fit (nD ns) 135 2 := by
  have h := fit_tup (k := 31) (m := 1) (ds := ns.map nP) fun d hd => by
    obtain ⟨p, hp, rfl⟩ := List.mem_map.mp hd
    refine fit_le (fit_tup (k := 12) (m := 0) fun d hd => ?_) (show (12 + 2) * 2 + 3 ≤ 31 by decide) (by decide)
    rcases List.mem_cons.mp hd with rfl | hd
    · exact fit_str (n := 1) (ch_small (ok.let_ p hp).2) (Nat.le_refl _)
    · rcases List.mem_cons.mp hd with rfl | hd
      · exact fit_le (fit_int (ok.pl p hp).1 (ok.pl p hp).2) (by decide) (by decide)
      · cases hd
  have := ok.four
  rw [List.length_map] at h
  have e : (31 + 2) * ns.length + 3 ≤ 135 := by omega
  exact fit_le h e (by decide)
theorem fit_c {cs : List (Int × Int)} (ok : COk cs) : Fit (cD cs) 7603 2 := by
  have h := fit_tup (k := 17) (m := 1) (ds := cs.map cP) fun d hd => by
    obtain ⟨p, hp, rfl⟩ := List.mem_map.mp hd
    obtain ⟨a, b, c, e⟩ := ok.pl p hp
    refine fit_le (fit_tup (k := 5) (m := 0) fun d hd => ?_) (show (5 + 2) * 2 + 3 ≤ 17 by decide) (by decide)
    rcases List.mem_cons.mp hd with rfl | hd
    · exact fit_int (by omega) b
    · rcases List.mem_cons.mp hd with rfl | hd
      · exact fit_int c e
      · cases hd
  have := ok.few
  rw [List.length_map] at h
  have e : (17 + 2) * cs.length + 3 ≤ 7603 := by omega
  exact fit_le h e (by decide)
theorem shaped_all {α : Type} {dat : α → PyData} (go : ∀ a, (dat a).canLay0 = true) : ∀ l : List α, PyData.canLayAll0 (l.map dat) = true
  | [] => by simp [PyData.canLayAll0]
  | a :: t => by rw [List.map_cons, PyData.canLayAll0, go, shaped_all go t]; rfl
theorem shape_n {ns : List (Nat × Int)} (ok : NOk ns) : SeqAt.shaped (nD ns) = true := by
  have e1 : ∀ l : List (Nat × Int), (∀ p ∈ l, p.1 ≤ 122) → PyData.canLayAll0 (l.map nP) = true := by
    intro l
    induction l with
    | nil => intro _; simp [PyData.canLayAll0]
    | cons p t ih =>
      intro h
      have h1 := h p List.mem_cons_self
      have : PyData.strOk (ch p.1) = true := by
        show (#[p.1] : Array Nat).all (· < 0x110000) = true
        simp
        omega
      simp only [List.map_cons, PyData.canLayAll0, nP, PyData.canLay0, this, ih fun q hq => h q (List.mem_cons_of_mem _ hq), Bool.and_true]
  have e2 := (fit_n ok).dep
  unfold SeqAt.shaped
  rw [Bool.and_eq_true, decide_eq_true_eq]
  refine ⟨?_, by omega⟩
  simp only [nD, PyData.canLay0]
  exact e1 ns fun p hp => (ok.let_ p hp).2
theorem shape_c {cs : List (Int × Int)} (ok : COk cs) : SeqAt.shaped (cD cs) = true := by
  have e2 := (fit_c ok).dep
  unfold SeqAt.shaped
  rw [Bool.and_eq_true, decide_eq_true_eq]
  refine ⟨?_, by omega⟩
  simp only [cD, PyData.canLay0]
  exact shaped_all (dat := cP) (fun a => by simp only [cP, PyData.canLay0, PyData.canLayAll0, Bool.and_true]) cs
theorem valV_none {kvs : List (Key × V)} {k : Key} (h : k ∉ kvs.map (·.1)) : valV kvs k = none := by
  cases e : valV kvs k with
  | none => rfl
  | some v => exact absurd (valV_in e) h
theorem merge_id : ∀ (more kvs : List (Key × V)), ((kvs ++ more).map (·.1)).Nodup → mergeK kvs more = kvs ++ more
  | [], kvs, _ => by simp [mergeK]
  | p :: t, kvs, h => by
    have hn : p.1 ∉ kvs.map (·.1) := by
      rw [List.map_append, List.nodup_append] at h
      exact fun z => h.2.2 _ z _ (List.mem_map_of_mem List.mem_cons_self) rfl
    have e : mergeK kvs (p :: t) = mergeK (putK kvs p.1 p.2) t := rfl
    rw [e, putK_new _ (valV_none hn), merge_id t _ (by simpa using h)]
    simp
theorem nodup_n {ns : List (Nat × Int)} (ok : NOk ns) : ((kN ns).map (·.1)).Nodup := by
  unfold kN
  rw [List.map_map]
  refine List.pairwise_map.mpr ((List.pairwise_map.mp ok.asc).imp fun {p q} h e => ?_)
  simp only [Function.comp, Sum.inr.injEq] at e
  have := congrArg (fun s : Str => s.cps.toList) e
  simp [ch] at this
  omega
theorem nodup_c {cs : List (Int × Int)} (ok : COk cs) : ((kC cs).map (·.1)).Nodup := by
  unfold kC
  rw [List.map_map]
  refine List.pairwise_map.mpr ((List.pairwise_map.mp ok.asc).imp fun {p q} h e => ?_)
  simp only [Function.comp, Sum.inl.injEq] at e
  omega
theorem merge_n {ns : List (Nat × Int)} (ok : NOk ns) : mergeK [] (kN ns) = kN ns := merge_id (kN ns) [] (by simpa using nodup_n ok)
theorem merge_c {cs : List (Int × Int)} (ok : COk cs) : mergeK [] (kC cs) = kC cs := merge_id (kC cs) [] (by simpa using nodup_c ok)
theorem pair_n {K : PySem.W.Frag} {H : Hp} : ∀ {rs : List Addr} {ns : List (Nat × Int)}, Paired (fun b (p : V × V) => SqT K H b [p.1, p.2]) rs (ns.map nV) → Paired (fun p (kv : Key × V) => SqT K H p [kV kv.1, kv.2]) rs (kN ns)
  | [], [], _ => .nil
  | _ :: _, _ :: _, .cons h t => .cons h (pair_n t)
theorem pair_c {K : PySem.W.Frag} {H : Hp} : ∀ {rs : List Addr} {cs : List (Int × Int)}, Paired (fun b (p : V × V) => SqT K H b [p.1, p.2]) rs (cs.map cV) → Paired (fun p (kv : Key × V) => SqT K H p [kV kv.1, kv.2]) rs (kC cs)
  | [], [], _ => .nil
  | _ :: _, _ :: _, .cons h t => .cons h (pair_c t)
/-- a dict of the seconds of pairs, all with the value true -/
theorem dcP {K : PySem.W.Frag} {rs : List Addr} {ls : List (V × V)} {gs : List Int} {te : TE} {g : TG} {tk tv : TE} {vs : List Nat} {σ : L2.St} {H : Hp} {Q : VK}
    (hte : ∀ R : VK, (∀ a H1, Same H H1 → PT H1 a (rs.map V.ref) → R (.ref a) H1) → te σ H R)
    (hp : Paired (fun b (p : V × V) => SqT K H b [p.1, p.2]) rs ls) (hg : ls.map (·.2) = gs.map V.int) (hz : ls.length ≤ 1000)
    (hs : ∀ (b : Addr) (p : V × V) (i : Int) H' (R : V → V → Hp → Prop), Same H H' → SqT K H' b [p.1, V.int i] → R (.int i) (.bl true) H' → g (.ref b) (wipe σ vs) H' fun σ2 H2 => wipe σ2 vs = wipe σ vs ∧ tk σ2 H2 fun y H4 => tv σ2 H4 fun z H5 => R y z H5)
    (hd : ∀ H' D kvs, Same H H' → H D = none → H' D = some (.dK kvs) → (∀ j : Int, (valV kvs (Sum.inl j : Key)).isSome = decide (j ∈ gs)) → Q (.ref D) H') : tDc (iTup K te) g tYes tk tv vs σ H Q := by
  refine hte _ fun a H1 sm hT => ⟨a, rfl, ⟨_, hT.sq⟩, fun D hD => ?_⟩
  have hp1 := Paired.imm (.of sm) hp
  have hl : rs.length = ls.length := Paired.len hp
  have hgl : ls.length = gs.length := by simpa using congrArg List.length hg
  have hDn : H D = none := by
    cases e : H D with
    | none => rfl
    | some o => rw [sm _ _ e] at hD; cases hD
  refine dc_tup (xs := rs.map V.ref) (fun i H' => Same H1 H' ∧ ∃ kvs : List (Key × V), H' D = some (.dK kvs) ∧ kvs.length ≤ i ∧ ∀ j : Int, (valV kvs (Sum.inl j : Key)).isSome = decide (j ∈ gs.take i)) ⟨same_new hD, [], upd_same, Nat.le_refl _, fun j => by simp [valV_nil]⟩
    (fun i H _ h => (PT.same h.1 hT).sq) (fun i x H' hx h => ?_) (fun H' h => ?_)
  · obtain ⟨s2, kvs, hk, kl, hv⟩ := h
    obtain ⟨b, p, rfl, e1, e2, hq⟩ := pairs_at (Paired.imm (.of s2) hp1) hx
    have hi : i < ls.length := (List.getElem?_eq_some_iff.mp e2).1
    have e3 : (gs.map V.int)[i]? = some p.2 := by rw [← hg, List.getElem?_map, e2]; rfl
    obtain ⟨z, e4, e5⟩ := map_at e3
    rw [e5] at hq
    refine hs b p z H' (fun y z2 H5 => ∃ kvs k, y = kV k ∧ H5 D = some (.dK kvs) ∧ kvs.length < sizeLine ∧ (Same H1 (upd H5 D (.dK (putK kvs k z2))) ∧ ∃ kvs' : List (Key × V), upd H5 D (.dK (putK kvs k z2)) D = some (.dK kvs') ∧ kvs'.length ≤ i + 1 ∧ ∀ j : Int, (valV kvs' (Sum.inl j : Key)).isSome = decide (j ∈ gs.take (i + 1)))) (sm.trans s2) hq
      ⟨kvs, Sum.inl z, rfl, hk, ?_, fun c o e => ?_, _, upd_same, ?_, fun j => ?_⟩
    · exact small1000 (by omega)
    · have nb : c ≠ D := ne_of_none e hD
      rw [upd_ne nb]
      exact s2 _ _ e
    · exact Nat.le_trans (length_putK _ _ _) (by omega)
    · rw [valV_put, List.take_add_one, e4]
      by_cases ej : j = z
      · subst ej
        rw [if_pos rfl]
        simp
      · rw [if_neg (fun q => ej (Sum.inl.inj q)), hv]
        simp [ej]
  · obtain ⟨s2, kvs, hk, _, hv⟩ := h
    rw [List.length_map, hl, hgl, List.take_length] at hv
    exact hd H' D kvs (sm.trans s2) hDn hk hv
/-- t + u, a tuple behind it -/
theorem cat_pt {K : PySem.W.Frag} {H : Hp} {a b : Addr} {xs ys : List V} {R : VK} (ha : PT H a xs) (hb : PT H b ys) (hz : xs.length + ys.length ≤ 10000) (k : ∀ t H1, Same H H1 → PT H1 t (xs ++ ys) → R (.ref t) H1) : rCatP K (.ref a) (.ref b) H R := by
  refine ⟨a, b, xs, ys, rfl, rfl, ha.sq, hb.sq, sl_le (by omega), fun e => k b H (fun _ _ h => h) (by subst e; exact hb), fun _ e => k a H (fun _ _ h => h) (by subst e; rw [List.append_nil]; exact ha), fun _ _ p o hn ho => k p _ (same_new hn) (PT.new ho)⟩
end K1
/-! Comprehensions that make pairs; the signs of a store's text. -/
namespace K1
open PySem PySem.Spec L2 Z
theorem lcMk {α : Type} {K : PySem.W.Frag} {ls : List α} {te : TE} {g : TG} {tel : TE} {vs : List Nat} {σ : L2.St} {H : Hp} {Q : VK} (wd : α → V) (G : α → V × V → Prop) (Pre : Addr → Hp → Prop)
    (hte : ∀ R : VK, (∀ l H1, Pre l H1 → R (.ref l) H1) → te σ H R) (hz : ls.length ≤ 1000) (hq : ∀ l H1, Pre l H1 → ∃ xs, SqL K H1 l xs)
    (hb : ∀ l H1 D, Pre l H1 → H1 D = none → ∃ Iv : Hp → Prop, Iv H1 ∧ (∀ H' o, Iv H' → Iv (upd H' D o)) ∧ (∀ H', Iv H' → SqL K H' l (ls.map wd)) ∧
      (∀ p H' acc (R : V → Hp → Prop), p ∈ ls → Iv H' → H' D = some (.lst acc) → (∀ b q H'', Iv H'' → Imm H' H'' → H'' D = some (.lst acc) → G p q → SqT K H'' b [q.1, q.2] → R (.ref b) H'') →
        g (wd p) (wipe σ vs) H' fun σ2 H2 => wipe σ2 vs = wipe σ vs ∧ tel σ2 H2 R) ∧
      (∀ H' bs qs, Iv H' → H' D = some (.lst (bs.map V.ref)) → Paired (fun b (p : V × V) => SqT K H' b [p.1, p.2]) bs qs → Paired G ls qs → Q (.ref D) H')) : tLc (iList K te) g tYes tel vs σ H Q := by
  refine hte _ fun l H1 pre => ?_
  refine ⟨l, rfl, hq _ _ pre, fun D hD => ?_⟩
  obtain ⟨Iv, i0, iu, il, ih, id⟩ := hb l H1 D pre hD
  refine lc_it (n := ls.length) (fun i H' => Iv H' ∧ ∃ (bs : List Addr) (qs : List (V × V)), bs.length = i ∧ H' D = some (.lst (bs.map V.ref)) ∧ Paired (fun b (p : V × V) => SqT K H' b [p.1, p.2]) bs qs ∧ Paired G (ls.take i) qs)
    ⟨iu _ _ i0, [], [], rfl, upd_same, .nil, .nil⟩ (fun i H' hi h => ⟨ls.map wd, (ls.map wd)[i]'(by simpa using hi), il _ h.1, List.getElem?_eq_getElem _⟩) (fun H' h => ⟨ls.map wd, il _ h.1, by simp⟩) (fun i x H' H2 hi h y => ?_) (fun H' h => ?_)
  · obtain ⟨iv, bs, qs, hl, hk, hp, hg⟩ := h
    obtain ⟨rfl, y⟩ := y
    obtain ⟨p, e1, rfl⟩ := map_at (y _ (il _ iv))
    refine ih p H2 (bs.map V.ref) _ (List.mem_of_getElem? e1) iv hk fun b q H3 iv3 im hk3 gq hq => ?_
    refine ⟨_, hk3, ?_, iu _ _ iv3, bs ++ [b], qs ++ [q], by simp [hl], ?_, ?_, ?_⟩
    · rw [List.length_map]
      exact small1000 (by omega)
    · rw [upd_same, List.map_append]
      rfl
    · have i4 : Imm H3 (upd H3 D (.lst (bs.map V.ref ++ [.ref b]))) := Chg.imm Chg.upd hk3 trivial
      exact Paired.snoc (F := fun b (p : V × V) => SqT K _ b [p.1, p.2]) (x := b) (y := q) (SqT.imm i4 hq) (Paired.imm (im.trans i4) hp)
    · rw [List.take_add_one, e1]
      exact Paired.snoc gq hg
  · obtain ⟨iv, bs, qs, hl, hk, hp, hg⟩ := h
    rw [List.take_length] at hg
    exact id H' bs qs iv hk hp hg
theorem paired_map {α β : Type} {f : α → β} : ∀ {ls : List α} {qs : List β}, Paired (fun p q => q = f p) ls qs → qs = ls.map f
  | _, _, .nil => rfl
  | _, _, .cons h t => by rw [h, paired_map t]; rfl
theorem mem_glue {S : List Nat} {c : Nat} : ∀ {l : List (List Nat)}, c ∈ TL.joinL S l → c ∈ S ∨ ∃ p ∈ l, c ∈ p
  | [], h => by simp [TL.joinL] at h
  | [y], h => .inr ⟨y, List.mem_cons_self, h⟩
  | y :: z :: t, h => by
    simp only [TL.joinL, List.mem_append] at h
    rcases h with h | h | h
    · exact .inr ⟨y, List.mem_cons_self, h⟩
    · exact .inl h
    · rcases mem_glue (l := z :: t) h with h | ⟨p, hp, hc⟩
      · exact .inl h
      · exact .inr ⟨p, List.mem_cons_of_mem _ hp, hc⟩
theorem eq_tl : TL.tl (Str.ofString "=") = [61] := by decide +kernel
theorem gt_tl : TL.tl (Str.ofString ">") = [62] := by decide +kernel
theorem sp_tl : TL.tl sp1 = [32] := by decide +kernel
theorem bar_tl : TL.tl (Str.ofString " | ") = [32, 124, 32] := by decide +kernel
theorem none_tl : TL.tl (Str.ofString "none") = [110, 111, 110, 101] := by decide +kernel
theorem ch_tl (c : Nat) : TL.tl (ch c) = [c] := rfl
theorem nameW_mem {p : Nat × Int} (l1 : 97 ≤ p.1) (l2 : p.1 ≤ 122) (h : 0 ≤ p.2) {c : Nat} (hc : c ∈ TL.tl (nameW p)) : 48 ≤ c ∧ c ≤ 122 := by
  unfold nameW at hc
  rw [TL.tl_append, TL.tl_append, List.mem_append, List.mem_append, ch_tl, eq_tl] at hc
  rcases hc with (hc | hc) | hc
  · have := List.mem_singleton.mp hc
    omega
  · have := List.mem_singleton.mp hc
    omega
  · have := num_dig h c hc
    omega
theorem cellW_mem {p : Int × Int} (h : 0 ≤ p.1) (h2 : 0 ≤ p.2) {c : Nat} (hc : c ∈ TL.tl (cellW p)) : 48 ≤ c ∧ c ≤ 62 := by
  unfold cellW at hc
  rw [TL.tl_append, TL.tl_append, List.mem_append, List.mem_append, gt_tl] at hc
  rcases hc with (hc | hc) | hc
  · have := num_dig h c hc
    omega
  · have := List.mem_singleton.mp hc
    omega
  · have := num_dig h2 c hc
    omega
theorem nTxt_mem {ns : List (Nat × Int)} (ok : NOk ns) {c : Nat} (hc : c ∈ TL.tl (nTxt ns)) : c ≤ 122 := by
  unfold nTxt at hc
  rw [tl_glue, sp_tl] at hc
  rcases mem_glue hc with h | ⟨q, hq, h⟩
  · have := List.mem_singleton.mp h
    omega
  · obtain ⟨r, hr, rfl⟩ := List.mem_map.mp hq
    obtain ⟨p, hp, rfl⟩ := List.mem_map.mp hr
    exact (nameW_mem (ok.let_ p hp).1 (ok.let_ p hp).2 (ok.pl p hp).1 h).2
theorem cJ_mem {cs : List (Int × Int)} (ok : COk cs) {c : Nat} (hc : c ∈ TL.tl (Txt.join sp1 (cs.map cellW))) : c ≤ 62 := by
  rw [tl_glue, sp_tl] at hc
  rcases mem_glue hc with h | ⟨q, hq, h⟩
  · have := List.mem_singleton.mp h
    omega
  · obtain ⟨r, hr, rfl⟩ := List.mem_map.mp hq
    obtain ⟨p, hp, rfl⟩ := List.mem_map.mp hr
    obtain ⟨a, b, d, e⟩ := ok.pl p hp
    exact (cellW_mem (by omega) d h).2
theorem cTxt_mem {cs : List (Int × Int)} (ok : COk cs) {c : Nat} (hc : c ∈ TL.tl (cTxt cs)) : c ≤ 122 := by
  unfold cTxt at hc
  split at hc
  · rw [none_tl] at hc
    simp only [List.mem_cons, List.not_mem_nil, or_false] at hc
    omega
  · have := cJ_mem ok hc
    omega
theorem stTxt_mem {ns : List (Nat × Int)} {cs : List (Int × Int)} (ok : NOk ns) (ck : COk cs) {c : Nat} (hc : c ∈ TL.tl (stTxt ns cs)) : c < 16 ^ 8 := by
  unfold stTxt at hc
  rw [TL.tl_append, TL.tl_append, List.mem_append, List.mem_append, bar_tl] at hc
  refine Nat.lt_of_le_of_lt (m := 124) ?_ (by decide)
  rcases hc with (hc | hc) | hc
  · have := nTxt_mem ok hc
    omega
  · simp only [List.mem_cons, List.not_mem_nil, or_false] at hc
    omega
  · have := cTxt_mem ck hc
    omega
theorem no_bar {l : List Nat} {i : Nat} (h : l[i + 1]? ≠ some 124) : TL.pre [32, 124, 32] (l.drop i) = false := by
  cases e : TL.pre [32, 124, 32] (l.drop i) with
  | false => rfl
  | true =>
    exfalso
    unfold TL.pre at e
    have e2 := eq_of_beq e
    have : ((l.drop i).take 3)[1]? = some 124 := by
      have e3 : ([32, 124, 32] : List Nat).length = 3 := rfl
      rw [e3] at e2
      rw [e2]
      rfl
    rw [List.getElem?_take, if_pos (by decide), List.getElem?_drop] at this
    exact h this
theorem split_st {ns : List (Nat × Int)} {cs : List (Int × Int)} (ok : NOk ns) (ck : COk cs) : Txt.split (stTxt ns cs) (Str.ofString " | ") = [nTxt ns, cTxt cs] := by
  apply TL.map_tl_inj
  have hne : TL.tl (Str.ofString " | ") ≠ [] := by rw [bar_tl]; simp
  rw [TL.split_spl _ _ hne (TL.kind_ok (by decide +kernel))]
  unfold stTxt
  rw [TL.tl_append, TL.tl_append, bar_tl, List.append_assoc]
  rw [TL.spl_part (by simp) (fun i hi => ?_), TL.spl_last (fun i hi => ?_)]
  · rfl
  · refine no_bar fun z => ?_
    have := cTxt_mem ck (List.mem_of_getElem? z)
    omega
  · refine no_bar fun z => ?_
    by_cases hj : i + 1 < (TL.tl (nTxt ns)).length
    · rw [List.getElem?_append_left hj] at z
      have := nTxt_mem ok (List.mem_of_getElem? z)
      omega
    · have e : i + 1 = (TL.tl (nTxt ns)).length := by omega
      rw [List.getElem?_append_right (by omega), e, Nat.sub_self] at z
      simp at z
theorem split_n {ns : List (Nat × Int)} (ok : NOk ns) : Txt.split (nTxt ns) (Str.ofString " ") = ns.map nameW := by
  refine TL.split_join (s := 32) (S := []) sp_tl (by decide +kernel) ?_ ?_
  · intro z
    have := ok.one
    rw [List.map_eq_nil_iff] at z
    subst z
    simp at this
  · intro q hq h
    obtain ⟨p, hp, rfl⟩ := List.mem_map.mp hq
    have := nameW_mem (ok.let_ p hp).1 (ok.let_ p hp).2 (ok.pl p hp).1 h
    omega
theorem split_c {cs : List (Int × Int)} (ck : COk cs) (h : cs ≠ []) : Txt.split (cTxt cs) (Str.ofString " ") = cs.map cellW := by
  unfold cTxt
  rw [if_neg h]
  refine TL.split_join (s := 32) (S := []) sp_tl (by decide +kernel) (by simpa using h) ?_
  intro q hq h
  obtain ⟨p, hp, rfl⟩ := List.mem_map.mp hq
  obtain ⟨a, b, d, e⟩ := ck.pl p hp
  have := cellW_mem (by omega) d h
  omega
theorem none_iff {cs : List (Int × Int)} (ck : COk cs) : decide (V.str (cTxt cs) = V.str (Str.ofString "none")) = decide (cs = []) := by
  by_cases h : cs = []
  · rw [decide_eq_true h]
    exact decide_eq_true (by unfold cTxt; rw [if_pos h])
  · rw [decide_eq_false h]
    refine str_ne fun e => ?_
    unfold cTxt at e
    rw [if_neg h] at e
    have := cJ_mem ck (c := 110) (by rw [e, none_tl]; simp)
    omega
theorem SqL_same {K : PySem.W.Frag} {H H' : Hp} {a : Addr} {xs : List V} (e : Same H H') (h : SqL K H a xs) : SqL K H' a xs := by
  rcases h with (h | ⟨o, h⟩) | h
  · exact .inl (.inl (e _ _ h))
  · exact .inl (.inr ⟨o, e _ _ h⟩)
  · exact .inr h
theorem at_third {α : Type} {xs : List α} {x y z : α} : atI (x :: y :: z :: xs) 2 = some z := at_nat (i := 2) rfl
theorem fm_range {i m : Int} (h : 0 < m) : 0 ≤ i.fmod m ∧ i.fmod m < m := ⟨Int.fmod_nonneg_of_pos i h, Int.fmod_lt_of_pos i h⟩
theorem op_notIn_seqK {X : Cx} {K : PySem.W.Frag} (h : X.K = K) : OpR X (compareOp .NotIn) (rIn K true) := h ▸ op_notIn_seq
theorem cut_mem {xs : List V} {lo hi : Option Int} {x : V} (h : x ∈ cutV xs lo hi) : x ∈ xs := List.mem_of_mem_drop (List.mem_of_mem_take h)
theorem JugAt.of {H : Hp} {j : Addr} {g s c : Int} (h : H j = some (.lst [.int g, .int s, .int c])) (a : -(2 ^ 64) < s) (b : s < 2 ^ 64) : JugAt H j := ⟨g, s, c, h, a, b⟩
theorem at_of {α : Type} {xs : List α} {k : Int} (h : 0 ≤ k) (h2 : k < xs.length) : ∃ x, x ∈ xs ∧ atI xs k = some x := by
  have hk : k.toNat < xs.length := by omega
  refine ⟨xs[k.toNat], List.getElem_mem _, ?_⟩
  have e := at_nat (xs := xs) (i := k.toNat) (List.getElem?_eq_getElem hk)
  rw [Int.toNat_of_nonneg h] at e
  exact e
end K1
/-! Letters: drawn, kept apart, in order. -/
namespace K1
open PySem PySem.Spec PyProof.Rows L2 Z
theorem nz1 : (1000000007 : Int) ≠ 0 := by decide
theorem nz2 : (2147483399 : Int) ≠ 0 := by decide
theorem nz3 : (2147483563 : Int) ≠ 0 := by decide
def cS (c : Nat) : V := .str (ch c)
theorem inV_ch (c : Nat) : ∀ cs : List Nat, inV (cS c) (cs.map cS) = decide (c ∈ cs)
  | [] => by simp [inV]
  | a :: t => by
    have ih := inV_ch c t
    unfold inV at ih ⊢
    rw [List.map_cons, List.any_cons, ih]
    have : eqV (cS a) (cS c) = decide (a = c) := ch_inj
    rw [this, Bool.eq_iff_iff, Bool.or_eq_true, decide_eq_true_eq, decide_eq_true_eq, decide_eq_true_eq, List.mem_cons]
    exact ⟨fun h => h.imp Eq.symm id, fun h => h.imp Eq.symm id⟩
theorem flat_ch (cs : List Nat) : (cs.map cS).all flatV = true := by
  rw [List.all_map, List.all_eq_true]
  intro c _
  rfl
theorem lcF {K : PySem.W.Frag} {a0 a1 a3 a4 a5 a6 : Option V} {H : Hp} {Q : VK} {w : Str} {cs : List Nat} {p : Addr} (hp : H p = some (.lst (cs.map cS))) (hw : w.cps.size ≤ 100)
    (hd : ∀ H' D, Same H H' → H D = none → H' D = some (.lst ((w.cps.toList.filter fun c => !decide (c ∈ cs)).map cS)) → Q (.ref D) H') :
    tLc (iStr (tC (.str w))) (gName 6) (tTest (tOp (rIn K true) (tVar 6) (tVar 2))) (tVar 6) [6] [a0, a1, some (.ref p), a3, a4, a5, a6] H Q := by
  refine ⟨w, rfl, fun D hD => ?_⟩
  refine lc_it (n := w.cps.size) (fun i H' => Same H H' ∧ H' D = some (.lst (((w.cps.toList.take i).filter fun c => !decide (c ∈ cs)).map cS))) ⟨same_new hD, upd_same⟩ (fun i H' hi _ => hi) (fun H' _ => Nat.le_refl _) (fun i x H' H2 hi h y => ?_) (fun H' h => ?_)
  · obtain ⟨sm, hk⟩ := h
    obtain ⟨rfl, c, hc, rfl⟩ := y
    have hc2 : w.cps.toList[i]? = some c := by rw [Array.getElem?_toList]; exact hc
    refine ⟨rfl, _, rfl, _, rfl, p, _, rfl, .inl (.inl (.inl (sm _ _ hp))), rfl, flat_ch cs, _, rfl, ?_⟩
    show if (!inV (cS c) (cs.map cS)) = true then _ else _
    rw [inV_ch]
    by_cases hm : c ∈ cs
    · rw [decide_eq_true hm]
      refine iteF ⟨sm, ?_⟩
      rw [hk, List.take_add_one, hc2, List.filter_append]
      simp [hm]
    · rw [decide_eq_false hm]
      refine iteT ⟨_, rfl, _, hk, ?_, fun b o e => ?_, ?_⟩
      · rw [List.length_map]
        refine small1000 ?_
        have h1 := List.length_filter_le (fun c => !decide (c ∈ cs)) (w.cps.toList.take i)
        rw [List.length_take] at h1
        omega
      · rw [upd_ne (ne_of_none e hD)]
        exact sm _ _ e
      · rw [upd_same, List.take_add_one, hc2, List.filter_append, List.map_append]
        simp [hm]
        rfl
  · refine hd H' D h.1 hD ?_
    have := h.2
    rw [← Array.length_toList, List.take_length] at this
    exact this
theorem nodup_len : ∀ {S cs : List Nat}, S.Nodup → (∀ c ∈ S, c ∈ cs) → S.length ≤ cs.length
  | [], _, _, _ => Nat.zero_le _
  | a :: t, cs, hS, h => by
    obtain ⟨h1, h2⟩ := List.nodup_cons.mp hS
    have ha := h a List.mem_cons_self
    have := nodup_len (S := t) (cs := cs.erase a) h2 fun c hc => (List.mem_erase_of_ne (fun z : c = a => h1 (z ▸ hc))).mpr (h c (List.mem_cons_of_mem _ hc))
    rw [List.length_erase_of_mem ha] at this
    have := List.length_pos_of_mem ha
    rw [List.length_cons]
    omega
theorem left_pos {S cs : List Nat} (hS : S.Nodup) (h : cs.length < S.length) : S.filter (fun c => !decide (c ∈ cs)) ≠ [] := fun e => by
  have sub : ∀ c ∈ S, c ∈ cs := fun c hc => by
    have := List.filter_eq_nil_iff.mp e c hc
    simpa using this
  have := nodup_len hS sub
  omega
theorem rising_le : ∀ (l : List Nat) (a : Nat), risingS (ch a) (l.map ch) = true → (a :: l).Pairwise (· ≤ ·)
  | [], a, _ => by simp
  | b :: t, a, h => by
    have hb : ltCps [b] [a] = false ∧ risingS (ch b) (t.map ch) = true := by
      have h' : (!ltCps [b] [a] && risingS (ch b) (t.map ch)) = true := h
      rw [Bool.and_eq_true, Bool.not_eq_true'] at h'
      exact h'
    have ih := rising_le t b hb.2
    have hab : a ≤ b := by
      by_cases z : b < a
      · have := hb.1
        simp [ltCps, z] at this
      · omega
    refine List.pairwise_cons.mpr ⟨fun c hc => ?_, ih⟩
    rcases List.mem_cons.mp hc with rfl | hc
    · exact hab
    · exact Nat.le_trans hab (List.rel_of_pairwise_cons ih hc)
theorem sorted_ch {ys : List Str} {cs : List Nat} (hp : ys.Perm (cs.map ch)) (hs : sortedS ys = true) (nd : cs.Nodup) : ∃ l : List Nat, ys = l.map ch ∧ l.Perm cs ∧ l.Pairwise (· < ·) := by
  let hd : Str → Nat := fun s => s.cps.toList.headD 0
  have e1 : ∀ y ∈ ys, ch (hd y) = y := fun y hy => by
    obtain ⟨c, _, rfl⟩ := List.mem_map.mp (hp.mem_iff.mp hy)
    rfl
  have e2 : ys = (ys.map hd).map ch := by
    rw [List.map_map]
    conv => lhs; rw [← List.map_id ys]
    exact (List.map_congr_left fun y hy => (e1 y hy).symm)
  have e3 : (ys.map hd).Perm cs := by
    have := hp.map hd
    rw [List.map_map] at this
    have e : hd ∘ ch = id := rfl
    rw [e, List.map_id] at this
    exact this
  have nd2 : (ys.map hd).Nodup := e3.nodup_iff.mpr nd
  refine ⟨ys.map hd, e2, e3, ?_⟩
  have le : (ys.map hd).Pairwise (· ≤ ·) := by
    generalize hq : ys.map hd = l at e2
    subst e2
    cases l with
    | nil => exact .nil
    | cons a t => exact rising_le t a hs
  exact (List.pairwise_and_iff.mpr ⟨le, nd2⟩).imp fun {a b} h => Nat.lt_of_le_of_ne h.1 h.2
theorem JugAt.same {H H' : Hp} {j : Addr} (e : Same H H') (h : JugAt H j) : JugAt H' j := by
  obtain ⟨g, s, c, q, a, b⟩ := h
  exact ⟨g, s, c, e _ _ q, a, b⟩
theorem jug_upd {H : Hp} {j p : Addr} {o : HO} (n : p ≠ j) (h : JugAt H j) : JugAt (upd H p o) j := by
  obtain ⟨g, s, c, q, a, b⟩ := h
  exact ⟨g, s, c, by rw [upd_ne (Ne.symm n)]; exact q, a, b⟩
theorem JugAt.ne {H : Hp} {j p : Addr} (h : JugAt H j) (hp : H p = none) : p ≠ j := by
  obtain ⟨g, s, c, q, a, b⟩ := h
  exact fun z => by rw [z, q] at hp; cases hp
theorem JugAt.neL {H : Hp} {j p : Addr} {o : HO} (h : JugAt H j) (hp : H p = some o) (n : ∀ l, o ≠ .lst l) : p ≠ j := by
  obtain ⟨g, s, c, q, a, b⟩ := h
  exact fun z => by
    rw [z, q] at hp
    exact n _ (Option.some.inj hp).symm
theorem chg_new {j p : Addr} {H H' : Hp} {o : HO} (c : Chg j H H') (hp : H p = none) : Chg j H (upd H' p o) := fun b x e n => by
  rw [upd_ne (ne_of_none e hp)]
  exact c b x e n
theorem none_chg {j p : Addr} {H H' : Hp} (c : Chg j H H') (hj : JugAt H' j) (hp : H' p = none) : H p = none := by
  cases e : H p with
  | none => rfl
  | some o => rw [c p o e (hj.ne hp)] at hp; cases hp
theorem near_let : ∀ c ∈ (Str.ofString "xyzuvw").cps.toList, 97 ≤ c ∧ c ≤ 122 := by
  have e : (Str.ofString "xyzuvw").cps.toList = [120, 121, 122, 117, 118, 119] := by decide +kernel
  rw [e]
  decide
theorem all_let : ∀ c ∈ (Str.ofString "abcdefghijklmnopqrstuvwxyz").cps.toList, 97 ≤ c ∧ c ≤ 122 := by
  have e : (Str.ofString "abcdefghijklmnopqrstuvwxyz").cps.toList = (List.range 26).map (· + 97) := by decide +kernel
  rw [e]
  decide
theorem near_n : (Str.ofString "xyzuvw").cps.toList.length = 6 := by decide +kernel
theorem all_n : (Str.ofString "abcdefghijklmnopqrstuvwxyz").cps.toList.length = 26 := by decide +kernel
theorem chg_imm {j : Addr} {H H' : Hp} (c : Chg j H H') (h : JugAt H j) : Imm H H' := by
  obtain ⟨g, s, n, q, _, _⟩ := h
  exact c.imm q trivial
theorem ints_mem {xs : List Int} {x : V} (h : x ∈ xs.map V.int) : ∃ i, x = .int i ∧ i ∈ xs := by
  obtain ⟨i, hi, rfl⟩ := List.mem_map.mp h
  exact ⟨i, rfl, hi⟩
theorem sl_pt {K : PySem.W.Frag} {H : Hp} {a : Addr} {xs : List V} {lo hi : Option Int} {Q : VK} (h : PT H a xs) (k : ∀ t H1, Same H H1 → PT H1 t (cutV xs lo hi) → Q (.ref t) H1) : rSlP K (.ref a) lo hi H Q := by
  refine ⟨a, xs, rfl, h.sq, fun e => k a H (fun _ _ h => h) ?_, fun _ p o hp ho => k p _ (same_new hp) (PT.new ho)⟩
  have : cutV xs lo hi = xs := by
    unfold cutV
    rw [e.1, e.2, List.drop_zero, Nat.sub_zero, List.take_length]
  rw [this]
  exact h
theorem cut_take {xs : List V} {i : Nat} (h : i ≤ xs.length) : cutV xs none (some (i : Int)) = xs.take i := by
  unfold cutV
  rw [HT.sIx_nat]
  show (xs.drop 0).take (min i xs.length - 0) = xs.take i
  rw [List.drop_zero, Nat.min_eq_left h, Nat.sub_zero]
theorem cut_drop {xs : List V} {i : Nat} (h : i < xs.length) : cutV xs (some ((i : Int) + 1)) none = xs.drop (i + 1) := by
  have e : ((i : Int) + 1) = ((i + 1 : Nat) : Int) := by omega
  unfold cutV
  rw [e, HT.sIx_nat]
  show (xs.drop (min (i + 1) xs.length)).take (xs.length - min (i + 1) xs.length) = xs.drop (i + 1)
  rw [Nat.min_eq_left (by omega), List.take_of_length_le (by rw [List.length_drop]; exact Nat.le_refl _)]
theorem set_fst {α β : Type} {g : β} : ∀ {l : List (α × β)} {i : Nat} {q : α × β}, l[i]? = some q → (l.set i (q.1, g)).map (·.1) = l.map (·.1)
  | [], _, _, h => by simp at h
  | x :: t, 0, q, h => by
    simp at h
    subst h
    rfl
  | x :: t, i + 1, q, h => by
    rw [List.set_cons_succ, List.map_cons, List.map_cons, set_fst (by simpa using h)]
theorem Paired.take {α β : Type} {F : α → β → Prop} : ∀ (i : Nat) {l : List α} {m : List β}, Paired F l m → Paired F (l.take i) (m.take i)
  | 0, _, _, _ => .nil
  | _ + 1, _, _, .nil => .nil
  | i + 1, _, _, .cons h t => .cons h (Paired.take i t)
theorem Paired.drop {α β : Type} {F : α → β → Prop} : ∀ (i : Nat) {l : List α} {m : List β}, Paired F l m → Paired F (l.drop i) (m.drop i)
  | 0, _, _, h => h
  | _ + 1, _, _, .nil => .nil
  | i + 1, _, _, .cons _ t => Paired.drop i t
theorem nok_set {ns : List (Nat × Int)} {i : Nat} {q : Nat × Int} {g : Int} (ok : NOk ns) (h : ns[i]? = some q) (h0 : 0 ≤ g) (h9 : g ≤ 999) : NOk (ns.set i (q.1, g)) := by
  have hq := List.mem_of_getElem? h
  refine ⟨by rw [List.length_set]; exact ok.one, by rw [List.length_set]; exact ok.four, fun p hp => ?_, fun p hp => ?_, by rw [set_fst h]; exact ok.asc⟩
  · rcases List.mem_or_eq_of_mem_set hp with z | rfl
    · exact ok.let_ p z
    · exact ok.let_ q hq
  · rcases List.mem_or_eq_of_mem_set hp with z | rfl
    · exact ok.pl p z
    · exact ⟨h0, h9⟩
theorem cok_set {cs : List (Int × Int)} {i : Nat} {q : Int × Int} {g : Int} (ok : COk cs) (h : cs[i]? = some q) (h0 : 0 ≤ g) (h9 : g ≤ 999) : COk (cs.set i (q.1, g)) := by
  have hq := List.mem_of_getElem? h
  refine ⟨by rw [List.length_set]; exact ok.few, fun p hp => ?_, by rw [set_fst h]; exact ok.asc⟩
  rcases List.mem_or_eq_of_mem_set hp with z | rfl
  · exact ok.pl p z
  · obtain ⟨a, b, _, _⟩ := ok.pl q hq
    exact ⟨a, b, h0, h9⟩
/-- a tuple of pairs with the i-th pair changed -/
theorem tp_set {K : PySem.W.Frag} {H : Hp} {t b : Addr} {rs : List Addr} {ls : List (V × V)} {i : Nat} {x : V × V} (hi : i < ls.length) (ht : PT H t ((rs.map V.ref).take i ++ [V.ref b] ++ (rs.map V.ref).drop (i + 1)))
    (hp : Paired (fun b (p : V × V) => SqT K H b [p.1, p.2]) rs ls) (hb : SqT K H b [x.1, x.2]) : TP K H (.ref t) (ls.set i x) := by
  refine ⟨t, rs.take i ++ [b] ++ rs.drop (i + 1), rfl, by rw [List.map_append, List.map_append, List.map_take, List.map_drop]; exact ht, ?_⟩
  rw [List.set_eq_take_append_cons_drop, if_pos hi]
  have e : ls.take i ++ x :: ls.drop (i + 1) = (ls.take i ++ [x]) ++ ls.drop (i + 1) := by simp
  rw [e]
  exact Paired.app (Paired.snoc (F := fun b (p : V × V) => SqT K H b [p.1, p.2]) (x := b) (y := x) hb (Paired.take i hp)) (Paired.drop (i + 1) hp)
/-- a tuple of pairs, the second of one pair changed -/
theorem change {K : PySem.W.Frag} {H : Hp} {a : Addr} {rs : List Addr} {ls : List (V × V)} {i v : Nat} {x y : V} {go : Int} {σ : L2.St} {Q : VK} (hv : σ[v]? = some (some (.ref a))) (h4 : σ[4]? = some (some (.int go))) (h5 : σ[5]? = some (some (.int (i : Int))))
    (ht : PT H a (rs.map V.ref)) (hp : Paired (fun b (p : V × V) => SqT K H b [p.1, p.2]) rs ls) (hx : ls[i]? = some (x, y)) (hz : ls.length ≤ 1000) (k : ∀ t H', Same H H' → TP K H' (.ref t) (ls.set i (x, .int go)) → Q (.ref t) H') :
    tOp (rCatP K) (tOp (rCatP K) (tSl (rSlP K) (tVar v) tNoPart (tPart (tVar 5))) (tTupP (tCons (tTup (tCons (tOp (rIxT K) (tOp (rIxT K) (tVar v) (tVar 5)) (tC (.int 0))) (tCons (tVar 4) tNil))) tNil)))
      (tSl (rSlP K) (tVar v) (tPart (tOp (rI0 fun i j => .int (i + j)) (tVar 5) (tC (.int 1)))) tNoPart) σ H Q := by
  have hl : rs.length = ls.length := Paired.len hp
  have hi : i < ls.length := (List.getElem?_eq_some_iff.mp hx).1
  have hlm : (rs.map V.ref).length = ls.length := by rw [List.length_map, hl]
  refine ⟨_, hv, _, h5, i, rfl, ?_⟩
  refine sl_pt ht fun t1 H1 s1 p1 => ?_
  rw [cut_take (by rw [hlm]; omega)] at p1
  have hb : rs[i]? = some (rs[i]'(by omega)) := List.getElem?_eq_getElem _
  obtain ⟨q, e2, hq⟩ := Paired.at (Paired.imm (.of s1) hp) hb
  rw [hx] at e2
  cases e2
  refine ⟨_, hv, _, h5, a, _, (i : Int), _, rfl, rfl, (PT.same s1 ht).sq, at_nat (by rw [List.getElem?_map, hb]; rfl), _, _, 0, _, rfl, rfl, hq, at_first, _, h4, by show 2 ≤ sizeLine; exact sl_le (by decide), fun b hbn => ?_⟩
  have s2 := s1.trans (same_new (o := .tup [x, V.int go]) hbn)
  have b2 : upd H1 b (.tup [x, V.int go]) b = some (.tup [x, V.int go]) := upd_same
  have p2 := PT.same (same_new (o := .tup [x, V.int go]) hbn) p1
  generalize upd H1 b (.tup [x, V.int go]) = H2 at s2 b2 p2 ⊢
  refine ⟨by show 1 ≤ sizeLine; exact sl_le (by decide), fun p3 o3 hp3 ho3 => ?_⟩
  have s3 := same_new (o := .frz o3 (.tup [V.ref b])) hp3
  refine cat_pt (PT.same s3 p2) (PT.new ho3) (by rw [List.length_take]; show min i _ + 1 ≤ 10000; omega) fun t4 H4 s4 p4 => ?_
  have s04 := (s2.trans s3).trans s4
  refine ⟨_, hv, _, h5, _, _, rfl, rfl, _, rfl, ?_⟩
  unfold tNoPart
  dsimp only
  refine sl_pt (PT.same s04 ht) fun t5 H5 s5 p5 => ?_
  rw [cut_drop (by rw [hlm]; exact hi)] at p5
  refine cat_pt (PT.same s5 p4) p5 (by rw [List.length_append, List.length_take, List.length_drop, hlm]; show min i _ + 1 + _ ≤ 10000; omega) fun t6 H6 s6 p6 => ?_
  have s06 := (s04.trans s5).trans s6
  exact k t6 H6 s06 (tp_set hi p6 (Paired.imm (.of s06) hp) (.inl (.inl (s6 _ _ (s5 _ _ (s4 _ _ (s3 _ _ b2)))))))
theorem set_map {α β : Type} {f : α → β} (l : List α) (i : Nat) (a : α) : (l.map f).set i (f a) = (l.set i a).map f := by rw [List.map_set]
theorem ix_tupK {X : Cx} {K : PySem.W.Frag} (h : X.K = K) : IxR X (rIxT K) := h ▸ ix_tup
theorem repr_ok {K : PySem.W.Frag} {H : Hp} {a : Addr} {xs : List V} {ds : List PyData} {k m : Nat} (h : SqL K H a xs) (hd : DpAll K H xs ds) (hf : ∀ d ∈ ds, Fit d k m) (hz : (k + 2) * ds.length + 3 ≤ 16000000) (hm : m ≤ 50) :
    Dp K H (.ref a) (.list ds) ∧ (PyData.list ds).showable = true ∧ (PyData.list ds).hasDict = false ∧ (PyData.list ds).depth ≤ 60 ∧ (PyData.list ds).shown.length ≤ sizeLine := by
  have F := fit_list hf
  have e : (PyData.list ds).shown.length ≤ sizeLine := by
    rw [sizeLine_eq]
    have := F.len
    omega
  exact ⟨.lst h hd, F.ok, F.nod, Nat.le_trans F.dep (by omega), e⟩
theorem lTxt_mem {ns : List (Nat × Int)} (ok : NOk ns) : ∀ c ∈ TL.tl (lTxt ns), c < 16 ^ 8 := fun c hc => by
  unfold lTxt at hc
  rw [tl_glue] at hc
  refine Nat.lt_of_le_of_lt (m := 122) ?_ (by decide)
  rcases mem_glue hc with h | ⟨q, hq, h⟩
  · exact absurd h (by show c ∉ TL.tl Str.empty; intro z; cases z)
  · obtain ⟨r, hr, rfl⟩ := List.mem_map.mp hq
    obtain ⟨p, hp, rfl⟩ := List.mem_map.mp hr
    have := List.mem_singleton.mp h
    rw [this]
    exact (ok.let_ p hp).2
theorem lTxt_len {ns : List (Nat × Int)} (ok : NOk ns) : (lTxt ns).length ≤ 4 := by
  have h := glue_len (k := 1) (y := Str.empty) (l := ns.map fun p => ch p.1) fun y hy => by
    obtain ⟨p, hp, rfl⟩ := List.mem_map.mp hy
    exact Nat.le_refl _
  have e : Str.empty.length = 0 := rfl
  have := ok.four
  rw [List.length_map, e] at h
  unfold lTxt
  omega
theorem stTxt_len {ns : List (Nat × Int)} {cs : List (Int × Int)} (ok : NOk ns) (ck : COk cs) : (stTxt ns cs).length ≤ 3231 := by
  have a := nTxt_len ok
  have b := cTxt_len ck
  unfold stTxt
  rw [len_app, len_app, bar_len]
  omega
def tellD (ns : List (Nat × Int)) (cs : List (Int × Int)) : List PyData := [nD ns, cD cs, .str (lTxt ns), .str (stTxt ns cs)]
theorem fit_tell {ns : List (Nat × Int)} {cs : List (Int × Int)} (ok : NOk ns) (ck : COk cs) : ∀ d ∈ tellD ns cs, Fit d 32312 2 := fun d hd => by
  simp only [tellD, List.mem_cons, List.not_mem_nil, or_false] at hd
  rcases hd with rfl | rfl | rfl | rfl
  · exact fit_le (fit_n ok) (by decide) (by decide)
  · exact fit_le (fit_c ck) (by decide) (by decide)
  · exact fit_le (fit_str (lTxt_mem ok) (lTxt_len ok)) (by decide) (by decide)
  · exact fit_le (fit_str (fun c hc => stTxt_mem ok ck hc) (stTxt_len ok ck)) (by decide) (by decide)
theorem fit_ints {ps : List Int} (h : ∀ i ∈ ps, 0 ≤ i ∧ i ≤ 999) : ∀ d ∈ ps.map PyData.int, Fit d 5 0 := fun d hd => by
  obtain ⟨i, hi, rfl⟩ := List.mem_map.mp hd
  exact fit_int (h i hi).1 (h i hi).2
theorem andV_bl {ta tb : TE} {σ : L2.St} {H : Hp} {Q : VK} {c1 c2 : Bool} (h1 : ∀ R : VK, R (.bl c1) H → ta σ H R) (h2 : ∀ R : VK, R (.bl c2) H → tb σ H R) (q : Q (.bl (c1 && c2)) H) : tAndV ta tb σ H Q :=
  h1 _ ⟨c1, rfl, by
    cases c1 with
    | true => exact iteT (h2 _ q)
    | false => exact iteF q⟩
theorem inV_int (z : Int) : ∀ l : List Int, inV (.int z) (l.map V.int) = decide (z ∈ l)
  | [] => by simp [inV]
  | a :: t => by
    have ih := inV_int z t
    unfold inV at ih ⊢
    rw [List.map_cons, List.any_cons, ih]
    have : eqV (.int a) (.int z) = decide (a = z) := by
      show (a == z) = _
      rw [Bool.eq_iff_iff, beq_iff_eq, decide_eq_true_eq]
    rw [this, Bool.eq_iff_iff, Bool.or_eq_true, decide_eq_true_eq, decide_eq_true_eq, decide_eq_true_eq, List.mem_cons]
    exact ⟨fun h => h.imp Eq.symm id, fun h => h.imp Eq.symm id⟩
theorem flat_int (l : List Int) : (l.map V.int).all flatV = true := by
  rw [List.all_map, List.all_eq_true]
  intro c _
  rfl
def lookD (cs : List (Int × Int)) (i : Int) : PyData := match cs.find? (fun p => decide (p.1 = i)) with
  | some p => .int p.2
  | none => .none
theorem dp_look {K : PySem.W.Frag} {H : Hp} (cs : List (Int × Int)) (i : Int) : Dp K H (lookC cs i) (lookD cs i) := by
  unfold lookC lookD
  cases cs.find? fun p => decide (p.1 = i) with
  | none => exact .non
  | some p => exact .int _
theorem fit_look {cs : List (Int × Int)} (ck : COk cs) (i : Int) : Fit (lookD cs i) 5 0 := by
  unfold lookD
  cases h : cs.find? fun p => decide (p.1 = i) with
  | none => exact fit_non
  | some p =>
    obtain ⟨_, _, a, b⟩ := ck.pl p (List.mem_of_find?_eq_some h)
    exact fit_int a b
theorem scal_look (cs : List (Int × Int)) (i : Int) : scal (lookC cs i) (lookC cs i) = true := by
  unfold lookC
  cases cs.find? fun p => decide (p.1 = i) <;> rfl
theorem St.ins {K : PySem.W.Frag} {C : Addr} {H : Hp} {x : Addr} {ns : List (Nat × Int)} {cs : List (Int × Int)} (h : St K C H x ns cs) :
    ∃ (dx : Addr) (fs : List (Str × V)), H x = some (.ins C dx fs) ∧ fs.lookup (Str.ofString "at") = none ∧ fs.lookup (Str.ofString "arrow") = none ∧ fs.lookup (Str.ofString "is_gone") = none := by
  obtain ⟨v, u, dx, pd, ad, ld, ks, S⟩ := h
  exact ⟨dx, _, S.ob, rfl, rfl, rfl⟩
theorem bl_ne {α : Type} [DecidableEq α] (x : α) : V.bl (!decide (x = x)) = V.bl false := by simp
theorem ne0_eq (z : Int) : (!decide (V.int z = V.int 0)) = !decide (z = 0) := by simp
/-- for over a list that a local holds -/
theorem forL {K : PySem.W.Frag} {v : Nat} {l : Addr} {xs : List V} {g : TG} {tb : TS} {D : Ends} {σ : L2.St} {H : Hp} (Pv : Nat → L2.St → Hp → Prop) (hv : σ[v]? = some (some (.ref l))) (h0 : Pv 0 σ H) (hl : ∀ i σ H, i ≤ xs.length → Pv i σ H → SqL K H l xs)
    (hs : ∀ i x σ H, xs[i]? = some x → Pv i σ H → g x σ H fun σ2 H2 => tb { D with nx := Pv (i + 1), ct := Pv (i + 1), bk := D.nx } σ2 H2) (hd : ∀ σ H, Pv xs.length σ H → D.nx σ H) : tFor (iList K (tVar v)) g tb D σ H :=
  ⟨_, hv, l, rfl, ⟨_, hl 0 _ _ (Nat.zero_le _) h0⟩, for_list Pv h0 hl hs hd⟩
end K1
/-! What stands while one turn of the law runs. -/
namespace K1
open PySem PySem.Spec L2 Z
structure RS (K : PySem.W.Frag) (H0 H : Hp) (j : Addr) (v u : V) (pg : Addr) (ns : List (Nat × Int)) (cs : List (Int × Int)) (gs : List Int) : Prop where
  chg : Chg j H0 H
  jug : JugAt H j
  tn : TP K H v (ns.map nV)
  tc : TP K H u (cs.map cV)
  g : H pg = some (.lst (gs.map V.int))
  npg : pg ≠ j
theorem RS.same {K : PySem.W.Frag} {H0 H H' : Hp} {j pg : Addr} {v u : V} {ns : List (Nat × Int)} {cs : List (Int × Int)} {gs : List Int} (e : Same H H') (r : RS K H0 H j v u pg ns cs gs) : RS K H0 H' j v u pg ns cs gs :=
  ⟨r.chg.trans (Chg.of e), r.jug.same e, TP.imm (.of e) r.tn, TP.imm (.of e) r.tc, e _ _ r.g, r.npg⟩
theorem RS.cj {K : PySem.W.Frag} {H0 H H' : Hp} {j pg : Addr} {v u : V} {ns : List (Nat × Int)} {cs : List (Int × Int)} {gs : List Int} (e : Chg j H H') (hj : JugAt H' j) (r : RS K H0 H j v u pg ns cs gs) : RS K H0 H' j v u pg ns cs gs :=
  ⟨r.chg.trans e, hj, TP.imm (chg_imm e r.jug) r.tn, TP.imm (chg_imm e r.jug) r.tc, e _ _ r.g r.npg, r.npg⟩
theorem St.cj {K : PySem.W.Frag} {C j x : Addr} {H H' : Hp} {ns : List (Nat × Int)} {cs : List (Int × Int)} (e : Chg j H H') (hj : JugAt H j) (h : St K C H x ns cs) : St K C H' x ns cs := by
  obtain ⟨g, s, c, q, _, _⟩ := hj
  exact St.chg e q h
theorem same_mk {C : Addr} {H H' : Hp} {x dx : Addr} (hx : H x = none) (hdx : H dx = none) (hne : dx ≠ x) (c : Chg x (upd (upd H dx (.own x)) x (.ins C dx [])) H') : Same H H' := fun b o e => by
  have n1 : b ≠ x := ne_of_none e hx
  have n2 : b ≠ dx := ne_of_none e hdx
  exact c b o (by rw [upd_ne n1, upd_ne n2]; exact e) n1
theorem same_raw {C : Addr} {H : Hp} {x dx : Addr} (hx : H x = none) (hdx : H dx = none) (hne : dx ≠ x) : Same H (upd (upd H dx (.own x)) x (.ins C dx [])) := fun b o e => by
  have n1 : b ≠ x := ne_of_none e hx
  have n2 : b ≠ dx := ne_of_none e hdx
  rw [upd_ne n1, upd_ne n2]
  exact e
theorem names_of : ∀ {lcs : List Nat} {qs : List (V × V)}, Paired (fun c (q : V × V) => ∃ g : Int, q = (cS c, V.int g) ∧ 0 ≤ g ∧ g ≤ 999) lcs qs →
    ∃ ns : List (Nat × Int), qs = ns.map nV ∧ ns.map (·.1) = lcs ∧ ∀ p ∈ ns, 0 ≤ p.2 ∧ p.2 ≤ 999
  | _, _, .nil => ⟨[], rfl, rfl, by simp⟩
  | c :: _, _, .cons ⟨g, e, h⟩ t => by
    obtain ⟨ns, e1, e2, e3⟩ := names_of t
    refine ⟨(c, g) :: ns, by rw [e, e1]; rfl, by rw [List.map_cons, e2], fun p hp => ?_⟩
    rcases List.mem_cons.mp hp with rfl | hp
    · exact h
    · exact e3 p hp
theorem fit_bls {bs : List Bool} : ∀ d ∈ bs.map PyData.bool, Fit d 5 0 := fun d hd => by
  obtain ⟨b, _, rfl⟩ := List.mem_map.mp hd
  exact fit_bl b
theorem dp_bls {K : PySem.W.Frag} {H : Hp} : ∀ bs : List Bool, DpAll K H (bs.map V.bl) (bs.map PyData.bool)
  | [] => .nil
  | _ :: t => .cons (.bl _) (dp_bls t)
theorem repr_bls {K : PySem.W.Frag} {H : Hp} {a : Addr} (bs : List Bool) (h : H a = some (.lst (bs.map V.bl))) (hz : bs.length ≤ 100) :
    Dp K H (.ref a) (.list (bs.map PyData.bool)) ∧ (PyData.list (bs.map PyData.bool)).showable = true ∧ (PyData.list (bs.map PyData.bool)).hasDict = false ∧ (PyData.list (bs.map PyData.bool)).depth ≤ 60 ∧ (PyData.list (bs.map PyData.bool)).shown.length ≤ sizeLine :=
  repr_ok (.inl (.inl h)) (dp_bls bs) fit_bls (by rw [List.length_map]; omega) (by decide)
def two (ns : List (Nat × Int)) (cs : List (Int × Int)) : PyData := .tuple [nD ns, cD cs]
theorem dp_two {K : PySem.W.Frag} {H : Hp} {t : Addr} {v u : V} {ns : List (Nat × Int)} {cs : List (Int × Int)} (h : H t = some (.tup [v, u])) (tn : TP K H v (ns.map nV)) (tc : TP K H u (cs.map cV)) : Dp K H (.ref t) (two ns cs) :=
  .tup (.inl (.inl h)) (.cons (dp_n tn) (.cons (dp_c tc) .nil))
theorem shape_two {ns : List (Nat × Int)} {cs : List (Int × Int)} (ok : NOk ns) (ck : COk cs) : SeqAt.shaped (two ns cs) = true := by
  have a := shape_n ok
  have b := shape_c ck
  have c := (fit_n ok).dep
  have d := (fit_c ck).dep
  unfold SeqAt.shaped at a b ⊢
  rw [Bool.and_eq_true, decide_eq_true_eq] at a b ⊢
  refine ⟨?_, ?_⟩
  · simp only [two, PyData.canLay0, PyData.canLayAll0, a.1, b.1, Bool.and_true]
  · simp only [two, PyData.depth, PyData.depthAll]
    omega
theorem eqv_two (ns ns' : List (Nat × Int)) (cs cs' : List (Int × Int)) : (two ns' cs').eqv (two ns cs) = decide (ns = ns' ∧ cs = cs') := by
  have e : (two ns' cs').eqv (two ns cs) = (decide (ns' = ns) && (decide (cs' = cs) && true)) := by
    simp only [two, PyData.eqv, PyData.eqvAll, eqv_n, eqv_c]
  rw [e, Bool.and_true, Bool.eq_iff_iff, Bool.and_eq_true, decide_eq_true_eq, decide_eq_true_eq, decide_eq_true_eq]
  exact ⟨fun h => ⟨h.1.symm, h.2.symm⟩, fun h => ⟨h.1.symm, h.2.symm⟩⟩
theorem dec_sym (ns ns' : List (Nat × Int)) (cs cs' : List (Int × Int)) : decide (ns' = ns ∧ cs' = cs) = decide (ns = ns' ∧ cs = cs') := by
  rw [Bool.eq_iff_iff, decide_eq_true_eq, decide_eq_true_eq]
  exact ⟨fun h => ⟨h.1.symm, h.2.symm⟩, fun h => ⟨h.1.symm, h.2.symm⟩⟩
theorem at_end {gs : List Int} (h : gs ≠ []) : ∃ z, z ∈ gs ∧ atI (gs.map V.int) (-1) = some (V.int z) := by
  refine ⟨gs.getLast h, List.getLast_mem h, ?_⟩
  have e : gs.map V.int = (gs.dropLast).map V.int ++ [V.int (gs.getLast h)] := by
    conv => lhs; rw [← List.dropLast_concat_getLast h]
    rw [List.map_append]
    rfl
  rw [e]
  exact atI_last _ _
theorem St.get {K : PySem.W.Frag} {C : Addr} {H : Hp} {x : Addr} {ns : List (Nat × Int)} {cs : List (Int × Int)} (h : St K C H x ns cs) :
    ∃ (dx : Addr) (fs : List (Str × V)), H x = some (.ins C dx fs) ∧ fs.lookup (Str.ofString "text") = some (.str (stTxt ns cs)) := by
  obtain ⟨v, u, dx, pd, ad, ld, ks, S⟩ := h
  exact ⟨dx, _, S.ob, rfl⟩
theorem dec_same (ns : List (Nat × Int)) (cs : List (Int × Int)) : decide (ns = ns ∧ cs = cs) = true := by simp
end K1
/-! Tests and their trees: the two readers tell the same. -/
namespace K36
open PySem
abbrev sE : Str := Str.ofString ""
abbrev W (ws : List Str) (i : Nat) : Str := ws.getD i sE
def isLet (w : Str) : Bool := match w.cps.toList with
  | [c] => decide (97 ≤ c) && decide (c ≤ 122)
  | _ => false
def isTgt (w : Str) : Bool := isLet w || decide (w = Str.ofString "END")
def isMk (w : Str) : Bool := decide (w = Str.ofString "=") || decide (w = Str.ofString "!=")
def isJt (w : Str) : Bool := decide (w = Str.ofString "and") || decide (w = Str.ofString "or")
def trip (a m b : Str) : Bool := isLet a && (isMk m && isTgt b)
abbrev Tri := Str × Str × Str
abbrev Quiz := Str × List Tri
def cmpIn : List Str → Option Tri
  | [a, m, b] => if trip a m b = true then some (m, a, b) else none
  | _ => none
def grp (ws : List Str) (i : Nat) : List Str := (ws.drop (4 * i)).take 3
def comps (ws : List Str) : List (Option Tri) := (List.range ((ws.length + 3) / 4)).map fun i => cmpIn (grp ws i)
def joints (ws : List Str) : List Str := ((List.range ((ws.length + 3) / 4)).filter fun i => decide (4 * i + 3 < ws.length)).map fun i => W ws (4 * i + 3)
def jointOf (ws : List Str) : Str := if 3 < ws.length then W ws 3 else Str.ofString "and"
def tstP (ws : List Str) : Option Quiz :=
  if isJt (jointOf ws) = false ∨ none ∈ comps ws ∨ joints ws ≠ List.replicate ((comps ws).length - 1) (jointOf ws) then none
  else if 1 ≤ (comps ws).length ∧ (comps ws).length ≤ 3 then some (jointOf ws, (comps ws).filterMap id) else none
def rd : Nat → List Str → Nat → Str → List Tri → Option Quiz × Nat
  | 0, _, pos, _, _ => (none, pos)
  | t + 1, ws, pos, j, f =>
    if trip (W ws pos) (W ws (pos + 1)) (W ws (pos + 2)) = true then
      if isJt (W ws (pos + 3)) = false ∨ (j ≠ sE ∧ j ≠ W ws (pos + 3)) ∨ t = 0 then (some (if j ≠ sE then j else Str.ofString "and", f ++ [(W ws (pos + 1), W ws pos, W ws (pos + 2))]), pos + 3)
      else rd t ws (pos + 4) (W ws (pos + 3)) (f ++ [(W ws (pos + 1), W ws pos, W ws (pos + 2))])
    else (none, pos + 3)
def tst (ws : List Str) : Option Quiz := if (rd 3 ws 0 sE []).2 = ws.length then (rd 3 ws 0 sE []).1 else none
theorem jt_ne {w : Str} (h : isJt w = true) : w ≠ sE := by
  intro e
  rw [e] at h
  revert h
  decide +kernel
theorem and_jt : isJt (Str.ofString "and") = true := by decide +kernel
theorem e_jt : isJt sE = false := by decide +kernel
theorem cmp_len {l : List Str} (h : cmpIn l ≠ none) : l.length = 3 := by
  unfold cmpIn at h
  split at h
  · rfl
  · exact absurd rfl h
theorem rd_pos (ws : List Str) : (rd 3 ws 0 sE []).1 ≠ none → (rd 3 ws 0 sE []).2 = 3 ∨ (rd 3 ws 0 sE []).2 = 7 ∨ (rd 3 ws 0 sE []).2 = 11 := by
  simp only [rd]
  split
  · split
    · simp
    · split
      · split
        · simp
        · split
          · simp
          · simp
      · simp
  · simp
theorem tstP_len {ws : List Str} (h : tstP ws ≠ none) : ws.length = 3 ∨ ws.length = 7 ∨ ws.length = 11 := by
  unfold tstP at h
  split at h
  · exact absurd rfl h
  · rename_i h1
    split at h
    · rename_i h2
      have hc : none ∉ comps ws := fun z => h1 (.inr (.inl z))
      have hl : (comps ws).length = (ws.length + 3) / 4 := by simp [comps]
      rw [hl] at h2
      generalize hm : (ws.length + 3) / 4 = m at *
      have hlast : cmpIn (grp ws (m - 1)) ≠ none := by
        intro z
        refine hc ?_
        unfold comps
        rw [List.mem_map]
        refine ⟨m - 1, List.mem_range.mpr (by omega), z⟩
      have h3 := cmp_len hlast
      unfold grp at h3
      rw [List.length_take, List.length_drop] at h3
      have hj : joints ws = List.replicate ((comps ws).length - 1) (jointOf ws) := Classical.byContradiction fun z => h1 (.inr (.inr z))
      have hj2 := congrArg List.length hj
      rw [List.length_replicate, hl] at hj2
      have h4 : ws.length ≠ 4 * m := by
        intro z
        have e : (joints ws).length = m := by
          unfold joints
          rw [hm, List.length_map, List.filter_eq_self.mpr, List.length_range]
          intro i hi
          have := List.mem_range.mp hi
          simp only [decide_eq_true_eq]
          omega
        omega
      omega
    · exact absurd rfl h
theorem tst_len {ws : List Str} (h : tst ws ≠ none) : ws.length = 3 ∨ ws.length = 7 ∨ ws.length = 11 := by
  unfold tst at h
  split at h
  · rename_i h1
    have := rd_pos ws h
    omega
  · exact absurd rfl h
theorem tst3 (a m b : Str) : tstP [a, m, b] = tst [a, m, b] := by
  have c : comps [a, m, b] = [cmpIn [a, m, b]] := by simp [comps, grp, List.range_succ]
  have j : joints [a, m, b] = [] := by simp [joints, List.range_succ]
  have jo : jointOf [a, m, b] = Str.ofString "and" := rfl
  unfold tstP tst
  rw [c, j, jo]
  cases h : trip a m b with
  | true =>
    have e : rd 3 [a, m, b] 0 sE [] = (some (Str.ofString "and", [(m, a, b)]), 3) := by
      simp only [rd]
      simp [h, e_jt]
    rw [e]
    simp [cmpIn, h, and_jt]
  | false =>
    have e : rd 3 [a, m, b] 0 sE [] = (none, 3) := by
      simp only [rd]
      simp [h]
    rw [e]
    simp [cmpIn, h, and_jt]
theorem tst7 (a m b j a1 m1 b1 : Str) : tstP [a, m, b, j, a1, m1, b1] = tst [a, m, b, j, a1, m1, b1] := by
  have c : comps [a, m, b, j, a1, m1, b1] = [cmpIn [a, m, b], cmpIn [a1, m1, b1]] := by simp [comps, grp, List.range_succ]
  have j' : joints [a, m, b, j, a1, m1, b1] = [j] := by simp [joints, List.range_succ]
  have jo : jointOf [a, m, b, j, a1, m1, b1] = j := rfl
  unfold tstP tst
  rw [c, j', jo]
  cases h : trip a m b with
  | false =>
    have e : rd 3 [a, m, b, j, a1, m1, b1] 0 sE [] = (none, 3) := by
      simp only [rd]
      simp [h]
    rw [e]
    simp [cmpIn, h]
  | true =>
    cases hj : isJt j with
    | false =>
      have e : rd 3 [a, m, b, j, a1, m1, b1] 0 sE [] = (some (Str.ofString "and", [(m, a, b)]), 3) := by
        simp only [rd]
        simp [h, hj]
      rw [e]
      simp
    | true =>
      have ne := jt_ne hj
      cases h1 : trip a1 m1 b1 with
      | false =>
        have e : rd 3 [a, m, b, j, a1, m1, b1] 0 sE [] = (none, 7) := by
          simp only [rd]
          simp [h, hj, h1]
        rw [e]
        simp [cmpIn, h, h1]
      | true =>
        have e : rd 3 [a, m, b, j, a1, m1, b1] 0 sE [] = (some (j, [(m, a, b), (m1, a1, b1)]), 7) := by
          simp only [rd]
          simp [h, hj, h1, e_jt, ne]
        rw [e]
        simp [cmpIn, h, h1]
theorem tst11 (a m b j a1 m1 b1 j1 a2 m2 b2 : Str) : tstP [a, m, b, j, a1, m1, b1, j1, a2, m2, b2] = tst [a, m, b, j, a1, m1, b1, j1, a2, m2, b2] := by
  have c : comps [a, m, b, j, a1, m1, b1, j1, a2, m2, b2] = [cmpIn [a, m, b], cmpIn [a1, m1, b1], cmpIn [a2, m2, b2]] := by simp [comps, grp, List.range_succ]
  have j' : joints [a, m, b, j, a1, m1, b1, j1, a2, m2, b2] = [j, j1] := by simp [joints, List.range_succ]
  have jo : jointOf [a, m, b, j, a1, m1, b1, j1, a2, m2, b2] = j := rfl
  unfold tstP tst
  rw [c, j', jo]
  cases h : trip a m b with
  | false =>
    have e : rd 3 [a, m, b, j, a1, m1, b1, j1, a2, m2, b2] 0 sE [] = (none, 3) := by
      simp only [rd]
      simp [h]
    rw [e]
    simp [cmpIn, h]
  | true =>
    cases hj : isJt j with
    | false =>
      have e : rd 3 [a, m, b, j, a1, m1, b1, j1, a2, m2, b2] 0 sE [] = (some (Str.ofString "and", [(m, a, b)]), 3) := by
        simp only [rd]
        simp [h, hj]
      rw [e]
      simp
    | true =>
      have ne := jt_ne hj
      cases h1 : trip a1 m1 b1 with
      | false =>
        have e : rd 3 [a, m, b, j, a1, m1, b1, j1, a2, m2, b2] 0 sE [] = (none, 7) := by
          simp only [rd]
          simp [h, hj, h1]
        rw [e]
        simp [cmpIn, h, h1]
      | true =>
        by_cases hq : isJt j1 = true ∧ j = j1
        · obtain ⟨q1, rfl⟩ := hq
          cases h2 : trip a2 m2 b2 with
          | false =>
            have e : rd 3 [a, m, b, j, a1, m1, b1, j, a2, m2, b2] 0 sE [] = (none, 11) := by
              simp only [rd]
              simp [h, hj, h1, h2]
            rw [e]
            simp [cmpIn, h, h1, h2]
          | true =>
            have e : rd 3 [a, m, b, j, a1, m1, b1, j, a2, m2, b2] 0 sE [] = (some (j, [(m, a, b), (m1, a1, b1), (m2, a2, b2)]), 11) := by
              simp only [rd]
              simp [h, hj, h1, h2, ne]
            rw [e]
            simp [cmpIn, h, h1, h2]
        · have hq2 : isJt j1 = false ∨ j ≠ j1 := by
            cases q : isJt j1 with
            | false => exact .inl rfl
            | true => exact .inr fun z => hq ⟨q, z⟩
          have e : rd 3 [a, m, b, j, a1, m1, b1, j1, a2, m2, b2] 0 sE [] = (some (j, [(m, a, b), (m1, a1, b1)]), 7) := by
            simp only [rd]
            rcases hq2 with q | q
            · simp [h, hj, h1, q, ne]
            · simp [h, hj, h1, q, ne]
          rw [e]
          have ne2 : j1 ≠ j := by
            rcases hq2 with q | q
            · intro z
              rw [z, hj] at q
              cases q
            · exact fun z => q z.symm
          simp [ne2]
theorem tst_eq (ws : List Str) : tstP ws = tst ws := by
  by_cases h : ws.length = 3 ∨ ws.length = 7 ∨ ws.length = 11
  · rcases h with h | h | h
    · match ws, h with
      | [a, m, b], _ => exact tst3 a m b
    · match ws, h with
      | [a, m, b, j, a1, m1, b1], _ => exact tst7 ..
    · match ws, h with
      | [a, m, b, j, a1, m1, b1, j1, a2, m2, b2], _ => exact tst11 ..
  · have e1 : tstP ws = none := by
      cases e : tstP ws with
      | none => rfl
      | some q => exact absurd (tstP_len (by rw [e]; simp)) h
    have e2 : tst ws = none := by
      cases e : tst ws with
      | none => rfl
      | some q => exact absurd (tst_len (by rw [e]; simp)) h
    rw [e1, e2]
end K36
/-! Words, texts and their bounds. -/
namespace K36
open PySem PySem.Spec L2 Z K1 TL
theorem let_ch {w : Str} (h : isLet w = true) : ∃ c, w = ch c ∧ 97 ≤ c ∧ c ≤ 122 := by
  unfold isLet at h
  split at h
  · rename_i c e
    simp only [Bool.and_eq_true, decide_eq_true_eq] at h
    exact ⟨c, ext_tl (by rw [show tl w = [c] from e]; rfl), h.1, h.2⟩
  · cases h
theorem ch_let (c : Nat) : isLet (ch c) = (decide (97 ≤ c) && decide (c ≤ 122)) := rfl
theorem let_no {w : Str} (h : w.length ≠ 1) : isLet w = false := by
  cases e : isLet w with
  | false => rfl
  | true =>
    obtain ⟨c, rfl, _⟩ := let_ch e
    exact absurd rfl h
theorem one_ch {w : Str} (h : w.length = 1) : ∃ c, w = ch c := by
  rw [len_tl] at h
  match e : tl w, h with
  | [c], _ => exact ⟨c, ext_tl (by rw [e]; rfl)⟩
theorem letter_mem {c : Nat} : decide (c ∈ (Str.ofString "abcdefghijklmnopqrstuvwxyz").cps.toList) = (decide (97 ≤ c) && decide (c ≤ 122)) := by
  by_cases h : 97 ≤ c ∧ c ≤ 122
  · rw [letter_in h.1 h.2, decide_eq_true h.1, decide_eq_true h.2]
    rfl
  · have e : (Str.ofString "abcdefghijklmnopqrstuvwxyz").cps.toList = (List.range 26).map (· + 97) := by decide +kernel
    have h2 : c ∉ (Str.ofString "abcdefghijklmnopqrstuvwxyz").cps.toList := by
      rw [e]
      intro z
      obtain ⟨i, hi, rfl⟩ := List.mem_map.mp z
      have := List.mem_range.mp hi
      exact h ⟨by omega, by omega⟩
    rw [decide_eq_false h2]
    symm
    rw [Bool.and_eq_false_iff]
    by_cases h3 : 97 ≤ c
    · exact .inr (decide_eq_false fun z => h ⟨h3, z⟩)
    · exact .inl (decide_eq_false h3)
/-! ### bounded texts -/
structure TxOk (n : Nat) (x : Str) : Prop where
  len : x.length ≤ n
  asc : ∀ c ∈ tl x, c < 128
def txB (n : Nat) (x : Str) : Bool := decide (x.length ≤ n) && (tl x).all fun c => decide (c < 128)
theorem txB_ok {n : Nat} {x : Str} (h : txB n x = true) : TxOk n x := by
  unfold txB at h
  simp only [Bool.and_eq_true, decide_eq_true_eq, List.all_eq_true] at h
  exact ⟨h.1, h.2⟩
theorem TxOk.mono {n m : Nat} {x : Str} (h : TxOk n x) (l : n ≤ m) : TxOk m x := ⟨Nat.le_trans h.len l, h.asc⟩
theorem TxOk.app {n m : Nat} {x y : Str} (h : TxOk n x) (k : TxOk m y) : TxOk (n + m) (x ++ y) := by
  refine ⟨?_, fun c hc => ?_⟩
  · have := h.len
    have := k.len
    rw [len_tl] at *
    rw [tl_append, List.length_append]
    omega
  · rw [tl_append] at hc
    rcases List.mem_append.mp hc with z | z
    · exact h.asc c z
    · exact k.asc c z
theorem TxOk.ch {c : Nat} (h : c < 128) : TxOk 1 (ch c) := ⟨Nat.le_refl _, fun d hd => by
  have : d = c := by simpa [K1.ch] using hd
  omega⟩
theorem TxOk.cut {n : Nat} {x : Str} (h : TxOk n x) (lo hi : Option Int) : TxOk n (cutS x lo hi) := by
  refine ⟨Nat.le_trans (cutS_length x lo hi) h.len, fun c hc => h.asc c ?_⟩
  exact List.mem_of_mem_drop (List.mem_of_mem_take hc)
theorem TxOk.small {n : Nat} {x : Str} (h : TxOk n x) : ∀ c ∈ tl x, c < 16 ^ 8 := fun c hc => Nat.lt_trans (h.asc c hc) (by decide)
theorem TxOk.strOk {n : Nat} {x : Str} (h : TxOk n x) : PyData.strOk x = true := by
  show x.cps.all (fun c => decide (c < 0x110000)) = true
  rw [← Array.all_toList, List.all_eq_true]
  intro c hc
  exact decide_eq_true (Nat.lt_trans (h.asc c hc) (by decide))
/-- the length of a joined text, and one -/
def jl (ws : List Str) : Nat := (ws.map (·.length)).sum + ws.length
theorem join_len : ∀ ws : List Str, ws ≠ [] → (Str.join sp1 ws).length + 1 = jl ws
  | [], h => absurd rfl h
  | [x], _ => by simp [Str.join, jl]
  | x :: y :: r, _ => by
    have e := join_len (y :: r) (by simp)
    have e1 : sp1.length = 1 := by decide +kernel
    show (x ++ sp1 ++ Str.join sp1 (y :: r)).length + 1 = jl (x :: y :: r)
    rw [len_tl, tl_append, tl_append, List.length_append, List.length_append, ← len_tl, ← len_tl, ← len_tl, e1]
    simp only [jl, List.map_cons, List.sum_cons, List.length_cons] at *
    omega
theorem join_mem : ∀ (sep : Str) (ws : List Str) (c : Nat), c ∈ tl (Str.join sep ws) → c ∈ tl sep ∨ ∃ w ∈ ws, c ∈ tl w
  | _, [], c, h => by
    have e : tl (Str.join sp1 []) = [] := rfl
    exact absurd h (by show c ∉ ([] : List Nat); simp)
  | sep, [x], c, h => .inr ⟨x, .head _, h⟩
  | sep, x :: y :: r, c, h => by
    have h : c ∈ tl (x ++ sep ++ Str.join sep (y :: r)) := h
    rw [tl_append, tl_append] at h
    rcases List.mem_append.mp h with h | h
    · rcases List.mem_append.mp h with h | h
      · exact .inr ⟨x, .head _, h⟩
      · exact .inl h
    · rcases join_mem sep (y :: r) c h with z | ⟨w, hw, z⟩
      · exact .inl z
      · exact .inr ⟨w, .tail _ hw, z⟩
theorem mem_join : ∀ (sep : Str) (ws : List Str) (w : Str) (c : Nat), w ∈ ws → c ∈ tl w → c ∈ tl (Str.join sep ws)
  | _, [], w, c, h, _ => by cases h
  | sep, [x], w, c, h, hc => by
    rw [List.mem_singleton.mp h] at hc
    exact hc
  | sep, x :: y :: r, w, c, h, hc => by
    show c ∈ tl (x ++ sep ++ Str.join sep (y :: r))
    rw [tl_append, tl_append]
    rcases List.mem_cons.mp h with rfl | h
    · exact List.mem_append_left _ (List.mem_append_left _ hc)
    · exact List.mem_append_right _ (mem_join sep (y :: r) w c h hc)
theorem len_mem : ∀ {ws : List Str} {w : Str}, w ∈ ws → w.length + 1 ≤ jl ws
  | x :: r, w, h => by
    simp only [jl, List.map_cons, List.sum_cons, List.length_cons]
    rcases List.mem_cons.mp h with rfl | h
    · omega
    · have := len_mem h
      unfold jl at this
      omega
abbrev spl (x : Str) : List Str := Txt.split x sp1
theorem spl_ne (x : Str) : spl x ≠ [] := by
  have h := (PyProof.Rows.fact_split x sp1).1
  intro e
  rw [show Txt.split x sp1 = [] from e] at h
  exact absurd h (by decide)
theorem spl_jl (x : Str) : jl (spl x) = x.length + 1 := by
  rw [← join_len _ (spl_ne x), StrLaws.join_split]
theorem spl_len (x : Str) : (spl x).length ≤ x.length + 1 := by
  have := spl_jl x
  unfold jl at this
  omega
theorem spl_ok {n : Nat} {x : Str} (h : TxOk n x) : ∀ w ∈ spl x, TxOk n w := fun w hw => by
  have e := StrLaws.join_split x sp1
  refine ⟨?_, fun c hc => h.asc c ?_⟩
  · have := len_mem hw
    rw [spl_jl] at this
    have := h.len
    omega
  · have := mem_join sp1 (spl x) w c hw hc
    rw [e] at this
    exact this
theorem parts_len (x : Str) (w : Nat) (cuts : List Nat) : (Builtin.Str.partsBetween x cuts w).length = cuts.length + 1 := by
  rw [StrLaws.partsBetween_eq]
  have h : ∀ (cuts : List Nat) (a : Nat), (StrLaws.partsFrom x w a cuts).length = cuts.length + 1 := by
    intro cuts
    induction cuts with
    | nil => intro a; rfl
    | cons c r ih => intro a; exact congrArg Nat.succ (ih _)
  exact h cuts 0
theorem count_sp {x : Str} (h : (spl x).length = 3) : Txt.count x sp1 = 2 := by
  unfold spl Txt.split at h
  split at h
  · cases h
  · split at h
    · cases h
    · rw [parts_len] at h
      unfold Txt.count
      omega
theorem join_ok {n m : Nat} {ws : List Str} (hw : ∀ w ∈ ws, TxOk n w) (hj : jl ws ≤ m + 1) : TxOk m (Txt.join sp1 ws) := by
  rw [join_eq]
  refine ⟨?_, fun c hc => ?_⟩
  · by_cases e : ws = []
    · rw [e]
      exact Nat.zero_le _
    · have := join_len ws e
      omega
  · rcases join_mem sp1 ws c hc with z | ⟨w, hm, z⟩
    · have e : tl sp1 = [32] := by decide +kernel
      rw [e] at z
      rw [List.mem_singleton.mp z]
      decide
    · exact (hw w hm).asc c z
theorem jl_erase : ∀ (ws : List Str) (k : Nat), jl (ws.eraseIdx k) ≤ jl ws
  | [], k => by simp
  | x :: r, 0 => by
    simp only [List.eraseIdx_cons_zero, jl, List.map_cons, List.sum_cons, List.length_cons]
    omega
  | x :: r, k + 1 => by
    have := jl_erase r k
    simp only [List.eraseIdx_cons_succ, jl, List.map_cons, List.sum_cons, List.length_cons] at *
    omega
theorem jl_set : ∀ (ws : List Str) (k : Nat) (y : Str), jl (ws.set k y) ≤ jl ws + y.length
  | [], k, y => by simp
  | x :: r, 0, y => by
    simp only [List.set_cons_zero, jl, List.map_cons, List.sum_cons, List.length_cons]
    omega
  | x :: r, k + 1, y => by
    have := jl_set r k y
    simp only [List.set_cons_succ, jl, List.map_cons, List.sum_cons, List.length_cons] at *
    omega
theorem jl_app (a b : List Str) : jl (a ++ b) = jl a + jl b := by
  simp only [jl, List.map_append, List.sum_append, List.length_append]
  omega
theorem jl_ins (ws : List Str) (k : Nat) (y : Str) : jl (ws.take k ++ [y] ++ ws.drop k) = jl ws + y.length + 1 := by
  have e : jl ws = jl (ws.take k) + jl (ws.drop k) := by
    rw [← jl_app, List.take_append_drop]
  rw [jl_app, jl_app, e]
  simp only [jl, List.map_cons, List.map_nil, List.sum_cons, List.sum_nil, List.length_cons, List.length_nil]
  omega
theorem cut_nat (xs : List V) {a b : Nat} : cutV xs (some (a : Int)) (some (b : Int)) = (xs.drop a).take (b - a) := by
  unfold cutV
  rw [HT.sIx_nat, HT.sIx_nat]
  by_cases ha : a ≤ xs.length
  · rw [Nat.min_eq_left ha]
    by_cases hb : b ≤ xs.length
    · rw [Nat.min_eq_left hb]
    · rw [Nat.min_eq_right (by omega), List.take_of_length_le (by rw [List.length_drop]; omega), List.take_of_length_le (by rw [List.length_drop]; omega)]
  · rw [Nat.min_eq_right (a := a) (by omega), List.drop_of_length_le (Nat.le_refl _), List.drop_of_length_le (by omega)]
    simp
end K36
/-! A test's words. -/
namespace K36
open PySem PySem.Spec L2 Z K1 TL
def tW (t : Tri) : Str := t.2.1 ++ sp1 ++ t.1 ++ sp1 ++ t.2.2
def said (q : Quiz) : Str := Txt.join (sp1 ++ q.1 ++ sp1) (q.2.map tW)
def tws (t : Tri) : List Str := [t.2.1, t.1, t.2.2]
def wds (q : Quiz) : List Str := match q.2 with
  | [] => []
  | t :: r => tws t ++ r.flatMap fun t => q.1 :: tws t
structure QOk (q : Quiz) : Prop where
  jt : isJt q.1 = true
  one : 1 ≤ q.2.length
  few : q.2.length ≤ 3
  tri : ∀ t ∈ q.2, trip t.2.1 t.1 t.2.2 = true
theorem QOk.cases {q : Quiz} (h : QOk q) : (∃ t, q.2 = [t]) ∨ (∃ t u, q.2 = [t, u]) ∨ ∃ t u v, q.2 = [t, u, v] := by
  obtain ⟨j, l⟩ := q
  have h1 := h.one
  have h2 := h.few
  match l, h1, h2 with
  | [t], _, _ => exact .inl ⟨t, rfl⟩
  | [t, u], _, _ => exact .inr (.inl ⟨t, u, rfl⟩)
  | [t, u, v], _, _ => exact .inr (.inr ⟨t, u, v, rfl⟩)
theorem said_join {q : Quiz} (h : QOk q) : said q = Txt.join sp1 (wds q) := by
  obtain ⟨j, l⟩ := q
  unfold said
  rw [join_eq, join_eq]
  apply ext_tl
  rcases h.cases with ⟨t, e⟩ | ⟨t, u, e⟩ | ⟨t, u, v, e⟩ <;> simp only at e <;> subst e <;> simp [wds, tws, tW, Str.join, tl_append, List.append_assoc]
def free (w : Str) : Prop := 32 ∉ tl w ∧ 59 ∉ tl w
theorem free_let {w : Str} (h : isLet w = true) : free w := by
  obtain ⟨c, rfl, h1, h2⟩ := let_ch h
  refine ⟨fun z => ?_, fun z => ?_⟩
  · have : 32 = c := by simpa [ch] using z
    omega
  · have : 59 = c := by simpa [ch] using z
    omega
theorem free_mk {w : Str} (h : isMk w = true) : free w := by
  unfold isMk at h
  simp only [Bool.or_eq_true, decide_eq_true_eq] at h
  rcases h with rfl | rfl <;> exact ⟨by decide +kernel, by decide +kernel⟩
theorem free_jt {w : Str} (h : isJt w = true) : free w := by
  unfold isJt at h
  simp only [Bool.or_eq_true, decide_eq_true_eq] at h
  rcases h with rfl | rfl <;> exact ⟨by decide +kernel, by decide +kernel⟩
theorem free_tgt {w : Str} (h : isTgt w = true) : free w := by
  unfold isTgt at h
  simp only [Bool.or_eq_true, decide_eq_true_eq] at h
  rcases h with h | rfl
  · exact free_let h
  · exact ⟨by decide +kernel, by decide +kernel⟩
theorem trip_parts {a m b : Str} (h : trip a m b = true) : isLet a = true ∧ isMk m = true ∧ isTgt b = true := by
  unfold trip at h
  simpa only [Bool.and_eq_true] using h
theorem tx_let {w : Str} (h : isLet w = true) : TxOk 1 w := by
  obtain ⟨c, rfl, h1, h2⟩ := let_ch h
  exact .ch (by omega)
theorem tx_mk {w : Str} (h : isMk w = true) : TxOk 2 w := by
  unfold isMk at h
  simp only [Bool.or_eq_true, decide_eq_true_eq] at h
  rcases h with rfl | rfl <;> exact txB_ok (by decide +kernel)
theorem tx_jt {w : Str} (h : isJt w = true) : TxOk 3 w := by
  unfold isJt at h
  simp only [Bool.or_eq_true, decide_eq_true_eq] at h
  rcases h with rfl | rfl <;> exact txB_ok (by decide +kernel)
theorem tx_tgt {w : Str} (h : isTgt w = true) : TxOk 3 w := by
  unfold isTgt at h
  simp only [Bool.or_eq_true, decide_eq_true_eq] at h
  rcases h with h | rfl
  · exact (tx_let h).mono (by decide)
  · exact txB_ok (by decide +kernel)
theorem wds_free {q : Quiz} (h : QOk q) : ∀ w ∈ wds q, free w := by
  obtain ⟨j, l⟩ := q
  have ft : ∀ t ∈ l, ∀ w ∈ tws t, free w := fun t ht w hw => by
    obtain ⟨h1, h2, h3⟩ := trip_parts (h.tri t ht)
    simp only [tws, List.mem_cons, List.not_mem_nil, or_false] at hw
    rcases hw with rfl | rfl | rfl
    · exact free_let h1
    · exact free_mk h2
    · exact free_tgt h3
  have fj := free_jt h.jt
  match l, ft with
  | [], _ => intro w hw; cases hw
  | t :: r, ft =>
    intro w hw
    have hw : w ∈ tws t ++ r.flatMap fun t => j :: tws t := hw
    rcases List.mem_append.mp hw with hw | hw
    · exact ft t (.head _) w hw
    · obtain ⟨u, hu, hw⟩ := List.mem_flatMap.mp hw
      rcases List.mem_cons.mp hw with rfl | hw
      · exact fj
      · exact ft u (.tail _ hu) w hw
theorem wds_ne {q : Quiz} (h : QOk q) : wds q ≠ [] := by
  obtain ⟨j, l⟩ := q
  rcases h.cases with ⟨t, e⟩ | ⟨t, u, e⟩ | ⟨t, u, v, e⟩ <;> simp only at e <;> subst e <;> simp [wds, tws]
theorem spl_said {q : Quiz} (h : QOk q) : spl (said q) = wds q := by
  rw [said_join h]
  exact TL.split_join (s := 32) (S := []) (by decide +kernel) (by decide +kernel) (wds_ne h) fun w hw => (wds_free h w hw).1
theorem said_ok {q : Quiz} (h : QOk q) : TxOk 43 (said q) := by
  obtain ⟨j, l⟩ := q
  have tj := tx_jt h.jt
  have sp : TxOk 1 sp1 := txB_ok (by decide +kernel)
  have tt : ∀ t ∈ l, TxOk 8 (tW t) := fun t ht => by
    obtain ⟨h1, h2, h3⟩ := trip_parts (h.tri t ht)
    exact ((((tx_let h1).app sp).app (tx_mk h2)).app sp).app (tx_tgt h3)
  have ts := (sp.app tj).app sp
  unfold said
  rw [join_eq]
  rcases h.cases with ⟨t, e⟩ | ⟨t, u, e⟩ | ⟨t, u, v, e⟩ <;> simp only at e <;> subst e
  · exact (tt t (.head _)).mono (by decide)
  · exact (((tt t (.head _)).app ts).app (tt u (.tail _ (.head _)))).mono (by decide)
  · exact (((tt t (.head _)).app ts).app (((tt u (.tail _ (.head _))).app ts).app (tt v (.tail _ (.tail _ (.head _)))))).mono (by decide)
theorem tst_wds {q : Quiz} (h : QOk q) (h1 : q.2.length = 1 → q.1 = Str.ofString "and") : tst (wds q) = some q := by
  obtain ⟨j, l⟩ := q
  have hj : isJt j = true := h.jt
  have ne := jt_ne hj
  rcases h.cases with ⟨t, e⟩ | ⟨t, u, e⟩ | ⟨t, u, v, e⟩ <;> simp only at e <;> subst e
  · have t1 := h.tri t (.head _)
    have ej : j = Str.ofString "and" := h1 rfl
    obtain ⟨m, a, b⟩ := t
    simp only at t1
    have e : rd 3 [a, m, b] 0 sE [] = (some (Str.ofString "and", [(m, a, b)]), 3) := by
      simp only [rd]
      simp [t1, e_jt]
    show tst [a, m, b] = _
    unfold tst
    rw [e, ej]
    rfl
  · have t1 := h.tri t (.head _)
    have t2 := h.tri u (.tail _ (.head _))
    obtain ⟨m, a, b⟩ := t
    obtain ⟨m1, a1, b1⟩ := u
    simp only at t1 t2
    have e : rd 3 [a, m, b, j, a1, m1, b1] 0 sE [] = (some (j, [(m, a, b), (m1, a1, b1)]), 7) := by
      simp only [rd]
      simp [t1, t2, hj, e_jt, ne]
    show tst [a, m, b, j, a1, m1, b1] = _
    unfold tst
    rw [e]
    rfl
  · have t1 := h.tri t (.head _)
    have t2 := h.tri u (.tail _ (.head _))
    have t3 := h.tri v (.tail _ (.tail _ (.head _)))
    obtain ⟨m, a, b⟩ := t
    obtain ⟨m1, a1, b1⟩ := u
    obtain ⟨m2, a2, b2⟩ := v
    simp only at t1 t2 t3
    have e : rd 3 [a, m, b, j, a1, m1, b1, j, a2, m2, b2] 0 sE [] = (some (j, [(m, a, b), (m1, a1, b1), (m2, a2, b2)]), 11) := by
      simp only [rd]
      simp [t1, t2, t3, hj, ne]
    show tst [a, m, b, j, a1, m1, b1, j, a2, m2, b2] = _
    unfold tst
    rw [e]
    rfl
theorem cmp_some {l : List Str} {t : Tri} (h : cmpIn l = some t) : trip t.2.1 t.1 t.2.2 = true := by
  unfold cmpIn at h
  split at h
  · split at h
    · cases h
      assumption
    · cases h
  · cases h
theorem tst_qok {ws : List Str} {q : Quiz} (h : tst ws = some q) : QOk q := by
  rw [← tst_eq] at h
  unfold tstP at h
  split at h
  · cases h
  · rename_i h1
    split at h
    · rename_i h2
      cases h
      have hc : none ∉ comps ws := fun z => h1 (.inr (.inl z))
      have hl : ((comps ws).filterMap id).length = (comps ws).length := by
        have : ∀ l : List (Option Tri), none ∉ l → (l.filterMap id).length = l.length := by
          intro l
          induction l with
          | nil => intro _; rfl
          | cons x r ih =>
            intro hn
            cases x with
            | none => exact absurd (.head _) hn
            | some y =>
              show (y :: r.filterMap id).length = _
              rw [List.length_cons, List.length_cons, ih fun z => hn (.tail _ z)]
        exact this _ hc
      refine ⟨?_, by rw [hl]; exact h2.1, by rw [hl]; exact h2.2, fun t ht => ?_⟩
      · cases e : isJt (jointOf ws) with
        | true => rfl
        | false => exact absurd (.inl e) h1
      · obtain ⟨o, ho, e⟩ := List.mem_filterMap.mp ht
        have e : o = some t := e
        rw [e] at ho
        unfold comps at ho
        obtain ⟨i, _, hi⟩ := List.mem_map.mp ho
        exact cmp_some hi
    · cases h
theorem ends_no {w : Str} (h : 59 ∉ tl w) : Txt.endswith w (Str.ofString ";") = false := by
  cases e : Txt.endswith w (Str.ofString ";") with
  | false => rfl
  | true =>
    exfalso
    unfold Txt.endswith at e
    simp only [Bool.and_eq_true] at e
    have e2 := e.2
    rw [StrLaws.subAt_eq] at e2
    have e3 := eq_of_beq e2
    have e4 : (Str.ofString ";").cps.toList = [59] := by decide +kernel
    rw [e4] at e3
    have : 59 ∈ ((w.cps.toList.drop (w.length - (Str.ofString ";").length)).take (Str.ofString ";").length) := by
      rw [e3]
      exact .head _
    exact h (List.mem_of_mem_drop (List.mem_of_mem_take this))
end K36
/-! Parts of stores: the law's own store, the promises. -/
namespace K6
open PySem PySem.Spec L2 Z K1
theorem ifT {c : Bool} {A B : Prop} (hc : c = true) (h : A) : if c = true then A else B := by
  rw [if_pos hc]
  exact h
theorem ifF {c : Bool} {A B : Prop} (hc : c = false) (h : B) : if c = true then A else B := by
  rw [hc, if_neg Bool.false_ne_true]
  exact h
theorem set_int {T : V → Prop} {x y : Int} (e : x = y) (h : T (.int y)) : T (.int x) := by
  rw [e]
  exact h
theorem ints_all : ∀ {L : List V}, (∀ x ∈ L, ∃ z : Int, x = .int z) → ∃ ns : List Int, L = ns.map V.int
  | [], _ => ⟨[], rfl⟩
  | x :: L, h => by
    obtain ⟨z, rfl⟩ := h x (.head _)
    obtain ⟨ns, e⟩ := ints_all (L := L) fun y hy => h y (.tail _ hy)
    exact ⟨z :: ns, by rw [e]; rfl⟩
/-- cells as a dict holds them: in any order, no place twice -/
structure DOk (cs : List (Int × Int)) : Prop where
  few : cs.length ≤ 9
  pl : ∀ p ∈ cs, 1 ≤ p.1 ∧ p.1 ≤ 999 ∧ 0 ≤ p.2 ∧ p.2 ≤ 999
  nd : (cs.map (·.1)).Nodup
def keyLe (p q : Int × Int) : Bool := decide (p.1 ≤ q.1)
def srt (cs : List (Int × Int)) : List (Int × Int) := cs.mergeSort keyLe
theorem srt_perm (cs : List (Int × Int)) : (srt cs).Perm cs := List.mergeSort_perm cs keyLe
theorem asc_of {ks : List Int} (h : ks.Pairwise (· ≤ ·)) (n : ks.Nodup) : ks.Pairwise (· < ·) := by
  refine (h.and n).imp fun {a b} e => ?_
  obtain ⟨e1, e2⟩ := e
  omega
theorem srt_le (cs : List (Int × Int)) : ((srt cs).map (·.1)).Pairwise (· ≤ ·) := by
  have h := List.pairwise_mergeSort (le := keyLe) (fun a b c h1 h2 => by
    unfold keyLe at *
    simp only [decide_eq_true_eq] at *
    omega) (fun a b => by
    unfold keyLe
    simp only [Bool.or_eq_true, decide_eq_true_eq]
    omega) cs
  rw [List.pairwise_map]
  refine h.imp fun {a b} e => ?_
  simpa [keyLe] using e
theorem srt_asc {cs : List (Int × Int)} (n : (cs.map (·.1)).Nodup) : ((srt cs).map (·.1)).Pairwise (· < ·) :=
  asc_of (srt_le cs) (((srt_perm cs).map _).nodup_iff.mpr n)
theorem srt_ok {cs : List (Int × Int)} (d : DOk cs) : COk (srt cs) := by
  refine ⟨?_, fun p hp => d.pl p ((srt_perm cs).mem_iff.mp hp), srt_asc d.nd⟩
  rw [(srt_perm cs).length_eq]
  have := d.few
  omega
/-- two ascending lists of the same numbers are one -/
theorem asc_uniq : ∀ {l m : List Int}, l.Pairwise (· < ·) → m.Pairwise (· < ·) → l.Perm m → l = m := by
  intro l m h1 h2 p
  exact List.Perm.eq_of_pairwise (le := (· < ·)) (fun a b _ _ h3 h4 => by omega) h1 h2 p
theorem pair_uniq {l m : List (Int × Int)} (h1 : (l.map (·.1)).Pairwise (· < ·)) (h2 : (m.map (·.1)).Pairwise (· < ·)) (p : l.Perm m) : l = m :=
  List.Perm.eq_of_pairwise (le := fun a b : Int × Int => a.1 < b.1) (fun a b _ _ h3 h4 => by omega) (List.pairwise_map.mp h1) (List.pairwise_map.mp h2) p
theorem srt_self {cs : List (Int × Int)} (h : (cs.map (·.1)).Pairwise (· < ·)) : srt cs = cs :=
  pair_uniq (srt_asc (h.imp fun e => by omega)) h (srt_perm cs)
def val (cs : List (Int × Int)) (k : Int) : Int := match cs.find? (fun p => decide (p.1 = k)) with
  | some p => p.2
  | none => 0
theorem val_of : ∀ {cs : List (Int × Int)} {p : Int × Int}, (cs.map (·.1)).Nodup → p ∈ cs → val cs p.1 = p.2
  | q :: cs, p, n, hp => by
    unfold val
    rw [List.map_cons, List.nodup_cons] at n
    rcases List.mem_cons.mp hp with rfl | hp
    · rw [List.find?_cons_of_pos (by simp)]
    · have ne : ¬ q.1 = p.1 := fun z => n.1 (by rw [z]; exact List.mem_map.mpr ⟨p, hp, rfl⟩)
      rw [List.find?_cons_of_neg (by simpa using ne)]
      exact val_of n.2 hp
/-- the law's store: a list of two dicts -/
def LS (H : Hp) (s : Addr) (ns : List (Nat × Int)) (cs : List (Int × Int)) : Prop := ∃ d0 d1 : Addr, H s = some (.lst [.ref d0, .ref d1]) ∧ H d0 = some (.dK (kN ns)) ∧ H d1 = some (.dK (kC cs))
theorem LS.same {H H' : Hp} {s : Addr} {ns : List (Nat × Int)} {cs : List (Int × Int)} (e : Same H H') (h : LS H s ns cs) : LS H' s ns cs := by
  obtain ⟨d0, d1, h1, h2, h3⟩ := h
  exact ⟨d0, d1, e _ _ h1, e _ _ h2, e _ _ h3⟩
theorem LS.chg {j : Addr} {H H' : Hp} {s : Addr} {ns : List (Nat × Int)} {cs : List (Int × Int)} (e : Chg j H H') (hj : JugAt H j) (n : s ≠ j) (h : LS H s ns cs) : LS H' s ns cs := by
  obtain ⟨d0, d1, h1, h2, h3⟩ := h
  exact ⟨d0, d1, e _ _ h1 n, e _ _ h2 (hj.neL h2 fun l z => nomatch z), e _ _ h3 (hj.neL h3 fun l z => nomatch z)⟩
section
variable (K : PySem.W.Frag) (C : Addr)
def q_need_store : Sp := fun vs H Q _ => ∃ (x : Addr) (ns : List (Nat × Int)) (cs : List (Int × Int)), vs = [.ref x] ∧ St K C H x ns cs ∧ Q .non H
def q_need_cells : Sp := fun vs H Q _ => ∃ (a x : Addr) (ks : List Int) (ns : List (Nat × Int)) (cs : List (Int × Int)), vs = [.ref a, .ref x] ∧ SqT K H a (ks.map V.int) ∧ St K C H x ns cs ∧ ks.length ≤ 400 ∧ ks.Pairwise (· < ·) ∧ (∀ k ∈ ks, k ∈ cs.map (·.1)) ∧ ∀ H', Same H H' → Q .non H'
def pick (ks : List Int) (b : Bool) (cs : List (Int × Int)) : List (Int × Int) := cs.filter fun p => decide (decide (p.1 ∈ ks) = b)
def q_part (b0 : Option Bool) : Sp := fun vs H Q _ => ∃ (x a : Addr) (ks : List Int) (ns : List (Nat × Int)) (cs : List (Int × Int)) (b : Bool), vs = (match b0 with | none => [.ref x, .ref a, .bl b] | some _ => [.ref x, .ref a]) ∧ (∀ c, b0 = some c → b = c) ∧ SqT K H a (ks.map V.int) ∧ St K C H x ns cs ∧ ks.length ≤ 400 ∧ (b0 ≠ none → ks.Pairwise (· < ·) ∧ ∀ k ∈ ks, k ∈ cs.map (·.1)) ∧
  ∀ H' y, Same H H' → H y = none → St K C H' y ns (pick ks b cs) → Q (.ref y) H'
def q_laid : Sp := fun vs H Q _ => ∃ (x y : Addr) (ns : List (Nat × Int)) (as bs : List (Int × Int)), vs = [.ref x, .ref y] ∧ St K C H x ns as ∧ St K C H y ns bs ∧ as.length + bs.length ≤ 400 ∧ (∀ p ∈ as, p.1 ∉ bs.map (·.1)) ∧
  ∀ H' z, Same H H' → H z = none → St K C H' z ns (srt (as ++ bs)) → Q (.ref z) H'
def q_take : Sp := fun vs H Q _ => ∃ (j : Addr) (m : Int), vs = [.ref j, .int m] ∧ JugAt H j ∧ 1 ≤ m ∧ m ≤ 1000000 ∧ ∀ (H' : Hp) (k : Int), Chg j H H' → JugAt H' j → 0 ≤ k → k < m → Q (.int k) H'
def q_places : Sp := fun vs H Q _ => ∃ (j : Addr) (m : Int), vs = [.ref j, .int m] ∧ JugAt H j ∧ 1 ≤ m ∧ m ≤ 12 ∧ ∀ (H' : Hp) (p : Addr) (ps : List Int), Chg j H H' → JugAt H' j → H p = none → H' p = some (.lst (ps.map V.int)) → (ps.length : Int) = m → (∀ i ∈ ps, 1 ≤ i ∧ i ≤ 999) → Q (.ref p) H'
def q_store : Sp := fun vs H Q _ => ∃ (j l : Addr) (ls : List Nat), vs = [.ref j, .ref l, .int 7] ∧ JugAt H j ∧ H l = some (.lst (ls.map fun c => V.str (ch c))) ∧ l ≠ j ∧ 1 ≤ ls.length ∧ ls.length ≤ 4 ∧ (∀ c ∈ ls, 97 ≤ c ∧ c ≤ 122) ∧ ls.Pairwise (· < ·) ∧
  ∀ (H' : Hp) (s : Addr) (ns : List (Nat × Int)) (cs : List (Int × Int)), Chg j H H' → JugAt H' j → H s = none → LS H' s ns cs → NOk ns → DOk cs → Q (.ref s) H'
def q_text : Sp := fun vs H Q _ => ∃ (s : Addr) (ns : List (Nat × Int)) (cs : List (Int × Int)), vs = [.ref s] ∧ LS H s ns cs ∧ NOk ns ∧ DOk cs ∧ ∀ H', Same H H' → Q (.str (stTxt ns (srt cs))) H'
def q_made : Sp := fun vs H Q _ => ∃ (s : Addr) (ns : List (Nat × Int)) (cs : List (Int × Int)), vs = [.ref s] ∧ LS H s ns cs ∧ NOk ns ∧ DOk cs ∧ ∀ H' x, Same H H' → H x = none → St K C H' x ns (srt cs) → Q (.ref x) H'
def q_lpart : Sp := fun vs H Q _ => ∃ (s l : Addr) (ks : List Int) (ns : List (Nat × Int)) (cs : List (Int × Int)), vs = [.ref s, .ref l] ∧ LS H s ns cs ∧ H l = some (.lst (ks.map V.int)) ∧ DOk cs ∧ ks.length ≤ 9 ∧ ks.Nodup ∧ (∀ k ∈ ks, k ∈ cs.map (·.1)) ∧
  ∀ H' p, Same H H' → H p = none → LS H' p ns (ks.map fun k => (k, val cs k)) → Q (.ref p) H'
def q_part_right : Sp := fun vs H Q _ => ∃ (x s : Addr) (ns : List (Nat × Int)) (cs : List (Int × Int)), vs = [.ref x, .ref s] ∧ St K C H x ns (srt cs) ∧ LS H s ns cs ∧ NOk ns ∧ DOk cs ∧ ∀ H', Same H H' → Q (.bl true) H'
end
end K6
/-! Walks. -/
namespace K6
open PySem PySem.Spec L2 Z K1
theorem yesI {σ : L2.St} {H : Hp} {A B : Hp → Prop} (h : A H) : tYes σ H fun b H3 => if b = true then A H3 else B H3 := by
  show if true = true then A H else B H
  rw [if_pos rfl]
  exact h
theorem cr_setLW {X : Cx} {K : PySem.W.Frag} {w : World} (hK : X.K = K) (hw : X.w = w) (hc : X.calm = true) : CallR X (.type "set") (rSetL K w) := hK ▸ hw ▸ cr_setL hc
theorem cr_sortedSetW {X : Cx} {w : World} (hw : X.w = w) (hc : X.calm = true) : CallR X (.builtin "sorted") (rSortedSet w) := hw ▸ cr_sortedSet hc
theorem ix_listK {X : Cx} {K : PySem.W.Frag} (h : X.K = K) : IxR X (rIxL K) := h ▸ ix_list
theorem op_eqDK {X : Cx} {K : PySem.W.Frag} (h : X.K = K) (hu : X.A.units + 64 < cLine) : OpR X (compareOp .Eq) (rEqD K) := h ▸ op_eqD hu
theorem op_neDK {X : Cx} {K : PySem.W.Frag} (h : X.K = K) (hu : X.A.units + 64 < cLine) : OpR X (compareOp .NotEq) (rNeD K) := h ▸ op_neD hu
/-- a comprehension that makes nothing but its list -/
theorem lc_pure {J : It} {n : Nat} {g : TG} {tt : TT} {te : TE} {vs : List Nat} {σ : L2.St} {H1 : Hp} {D : Addr} {Qd : Hp → Prop} (Xs : Nat → V) (c : Nat → Bool) (F : Nat → V) (hD : H1 D = none) (hn : n ≤ 10000)
    (go : ∀ i H, i < n → Same H1 H → J.go i H) (stop : ∀ H, Same H1 H → J.stop n H) (yl : ∀ i H x H', i < n → Same H1 H → J.yld i H x H' → H' = H ∧ x = Xs i)
    (hs : ∀ i H' (R1 : Hp → Prop) (R2 : V → Hp → Prop), i < n → Same H1 H' → (∀ H'', Same H' H'' → c i = false → R1 H'') → (∀ H'', Same H' H'' → c i = true → R2 (F i) H'') →
      g (Xs i) (wipe σ vs) H' fun σ2 H2 => wipe σ2 vs = wipe σ vs ∧ tt σ2 H2 fun b H3 => if b = true then te σ2 H3 R2 else R1 H3)
    (hd : ∀ H, Same H1 H → H D = some (.lst (((List.range n).filter c).map F)) → Qd H) :
    ∃ W : Nat → Nat → Hp → Prop, (∃ m, W 0 m (upd H1 D (.lst []))) ∧ ∀ i m H, W i m H →
      (J.stop i H ∧ Qd H) ∨ (J.go i H ∧ ∃ Nx : Hp → Prop, (∀ H', Nx H' → ∃ m', m' < m ∧ W (i + 1) m' H') ∧ ∀ x H', J.yld i H x H' → g x (wipe σ vs) H' fun σ2 H2 => wipe σ2 vs = wipe σ vs ∧ tt σ2 H2 fun b H3 =>
        if b = true then te σ2 H3 fun y H4 => ∃ acc, H4 D = some (.lst acc) ∧ acc.length < sizeLine ∧ Nx (upd H4 D (.lst (acc ++ [y]))) else Nx H3) := by
  refine lc_it (n := n) (fun i H => Same H1 H ∧ H D = some (.lst (((List.range i).filter c).map F))) ⟨same_new hD, upd_same⟩ (fun i H hi h => go i H hi h.1) (fun H h => stop H h.1) (fun i x H H2 hi h y => ?_) (fun H h => hd H h.1 h.2)
  obtain ⟨sm, hk⟩ := h
  obtain ⟨rfl, rfl⟩ := yl i H x H2 hi sm y
  refine hs i H2 _ _ hi sm (fun H3 s3 hc => ⟨sm.trans s3, ?_⟩) (fun H3 s3 hc => ⟨_, s3 _ _ hk, ?_, ?_, ?_⟩)
  · rw [s3 _ _ hk, List.range_succ, List.filter_append]
    simp [hc]
  · rw [List.length_map]
    have := List.length_filter_le c (List.range i)
    rw [List.length_range] at this
    exact Nat.lt_of_lt_of_le (show _ < 20000 by omega) (sl_le (by decide))
  · intro b o e
    rw [upd_ne (ne_of_none e hD)]
    exact s3 _ _ (sm _ _ e)
  · rw [upd_same, List.range_succ, List.filter_append, List.map_append]
    simp [hc]
/-- over a list that stays, by an expression -/
theorem lcL {α : Type} {K : PySem.W.Frag} {te0 : TE} {g : TG} {tt : TT} {te : TE} {vs : List Nat} {σ : L2.St} {H : Hp} {Q : VK} (ls : List α) (wd : α → V) (c : α → Bool) (F : α → V) (hz : ls.length ≤ 10000)
    (hte : ∀ R : VK, (∀ l H1, Same H H1 → SqL K H1 l (ls.map wd) → R (.ref l) H1) → te0 σ H R)
    (hs : ∀ x H' (R1 : Hp → Prop) (R2 : V → Hp → Prop), x ∈ ls → Same H H' → (∀ H'', Same H' H'' → c x = false → R1 H'') → (∀ H'', Same H' H'' → c x = true → R2 (F x) H'') →
      g (wd x) (wipe σ vs) H' fun σ2 H2 => wipe σ2 vs = wipe σ vs ∧ tt σ2 H2 fun b H3 => if b = true then te σ2 H3 R2 else R1 H3)
    (hd : ∀ H' D, Same H H' → H D = none → H' D = some (.lst ((ls.filter c).map F)) → Q (.ref D) H') : tLc (iList K te0) g tt te vs σ H Q := by
  refine hte _ fun l H1 s1 hl => ⟨l, rfl, ⟨_, hl⟩, fun D hD => ?_⟩
  by_cases h0 : ls = []
  · subst h0
    refine lc_pure (n := 0) (fun _ => V.non) (fun _ => true) (fun _ => V.non) hD (by omega) (fun i H' hi => by omega) (fun H' sm => ⟨_, SqL_same sm hl, Nat.le_refl _⟩) (fun i H' x H2 hi => by omega) (fun i _ _ _ hi => by omega) (fun H' sm hk => ?_)
    exact hd H' D (s1.trans sm) (none_of s1 hD) hk
  · obtain ⟨a0, l0, e0⟩ := List.exists_cons_of_ne_nil h0
    haveI : Inhabited α := ⟨a0⟩
    have at_ : ∀ i, i < ls.length → ls[i]? = some (ls.getD i default) := fun i hi => by
      rw [List.getD_eq_getElem?_getD, List.getElem?_eq_getElem hi]; rfl
    have ex : (List.range ls.length).map (fun i => ls.getD i default) = ls := by
      apply List.ext_getElem?
      intro i
      rw [List.getElem?_map]
      by_cases hi : i < ls.length
      · rw [List.getElem?_range hi, at_ i hi]; rfl
      · rw [List.getElem?_eq_none (by simpa using hi), List.getElem?_eq_none (by omega)]; rfl
    refine lc_pure (n := ls.length) (fun i => wd (ls.getD i default)) (fun i => c (ls.getD i default)) (fun i => F (ls.getD i default)) hD hz
      (fun i H' hi sm => ⟨ls.map wd, wd (ls.getD i default), SqL_same sm hl, by rw [List.getElem?_map, at_ i hi]; rfl⟩) (fun H' sm => ⟨ls.map wd, SqL_same sm hl, by simp⟩) (fun i H' x H2 hi sm y => ?_)
      (fun i H' R1 R2 hi sm h1 h2 => hs _ H' R1 R2 (List.mem_of_getElem? (at_ i hi)) (s1.trans sm) h1 h2) (fun H' sm hk => ?_)
    · obtain ⟨e1, y⟩ := y
      have y2 := y _ (SqL_same sm hl)
      rw [List.getElem?_map, at_ i hi] at y2
      exact ⟨e1, (Option.some.inj y2).symm⟩
    · refine hd H' D (s1.trans sm) (none_of s1 hD) ?_
      rw [hk]
      congr 2
      conv => rhs; rw [← ex]
      rw [List.filter_map, List.map_map]
      rfl
/-- over a tuple -/
theorem lcT {α : Type} {K : PySem.W.Frag} {te0 : TE} {g : TG} {tt : TT} {te : TE} {vs : List Nat} {σ : L2.St} {H : Hp} {Q : VK} (ls : List α) (wd : α → V) (c : α → Bool) (F : α → V) (hz : ls.length ≤ 10000)
    (hte : ∀ R : VK, (∀ l H1, Same H H1 → SqT K H1 l (ls.map wd) → R (.ref l) H1) → te0 σ H R)
    (hs : ∀ x H' (R1 : Hp → Prop) (R2 : V → Hp → Prop), x ∈ ls → Same H H' → (∀ H'', Same H' H'' → c x = false → R1 H'') → (∀ H'', Same H' H'' → c x = true → R2 (F x) H'') →
      g (wd x) (wipe σ vs) H' fun σ2 H2 => wipe σ2 vs = wipe σ vs ∧ tt σ2 H2 fun b H3 => if b = true then te σ2 H3 R2 else R1 H3)
    (hd : ∀ H' D, Same H H' → H D = none → H' D = some (.lst ((ls.filter c).map F)) → Q (.ref D) H') : tLc (iTup K te0) g tt te vs σ H Q := by
  refine hte _ fun l H1 s1 hl => ⟨l, rfl, ⟨_, hl⟩, fun D hD => ?_⟩
  by_cases h0 : ls = []
  · subst h0
    refine lc_pure (n := 0) (fun _ => V.non) (fun _ => true) (fun _ => V.non) hD (by omega) (fun i H' hi => by omega) (fun H' sm => ⟨_, SqT.imm (.of sm) hl, Nat.le_refl _⟩) (fun i H' x H2 hi => by omega) (fun i _ _ _ hi => by omega) (fun H' sm hk => ?_)
    exact hd H' D (s1.trans sm) (none_of s1 hD) hk
  · obtain ⟨a0, l0, e0⟩ := List.exists_cons_of_ne_nil h0
    haveI : Inhabited α := ⟨a0⟩
    have at_ : ∀ i, i < ls.length → ls[i]? = some (ls.getD i default) := fun i hi => by
      rw [List.getD_eq_getElem?_getD, List.getElem?_eq_getElem hi]; rfl
    have ex : (List.range ls.length).map (fun i => ls.getD i default) = ls := by
      apply List.ext_getElem?
      intro i
      rw [List.getElem?_map]
      by_cases hi : i < ls.length
      · rw [List.getElem?_range hi, at_ i hi]; rfl
      · rw [List.getElem?_eq_none (by simpa using hi), List.getElem?_eq_none (by omega)]; rfl
    refine lc_pure (n := ls.length) (fun i => wd (ls.getD i default)) (fun i => c (ls.getD i default)) (fun i => F (ls.getD i default)) hD hz
      (fun i H' hi sm => ⟨ls.map wd, wd (ls.getD i default), SqT.imm (.of sm) hl, by rw [List.getElem?_map, at_ i hi]; rfl⟩) (fun H' sm => ⟨ls.map wd, SqT.imm (.of sm) hl, by simp⟩) (fun i H' x H2 hi sm y => ?_)
      (fun i H' R1 R2 hi sm h1 h2 => hs _ H' R1 R2 (List.mem_of_getElem? (at_ i hi)) (s1.trans sm) h1 h2) (fun H' sm hk => ?_)
    · obtain ⟨e1, y⟩ := y
      have y2 := y _ (SqT.imm (.of sm) hl)
      rw [List.getElem?_map, at_ i hi] at y2
      exact ⟨e1, (Option.some.inj y2).symm⟩
    · refine hd H' D (s1.trans sm) (none_of s1 hD) ?_
      rw [hk]
      congr 2
      conv => rhs; rw [← ex]
      rw [List.filter_map, List.map_map]
      rfl
theorem lcF6 {K : PySem.W.Frag} {a0 a1 a3 a4 a5 : Option V} {H : Hp} {Q : VK} {w : Str} {cs : List Nat} {p : Addr} (hp : H p = some (.lst (cs.map cS))) (hw : w.cps.size ≤ 100)
    (hd : ∀ H' D, Same H H' → H D = none → H' D = some (.lst ((w.cps.toList.filter fun c => !decide (c ∈ cs)).map cS)) → Q (.ref D) H') :
    tLc (iStr (tC (.str w))) (gName 5) (tTest (tOp (rIn K true) (tVar 5) (tVar 2))) (tVar 5) [5] [a0, a1, some (.ref p), a3, a4, a5] H Q := by
  refine ⟨w, rfl, fun D hD => ?_⟩
  refine lc_it (n := w.cps.size) (fun i H' => Same H H' ∧ H' D = some (.lst (((w.cps.toList.take i).filter fun c => !decide (c ∈ cs)).map cS))) ⟨same_new hD, upd_same⟩ (fun i H' hi _ => hi) (fun H' _ => Nat.le_refl _) (fun i x H' H2 hi h y => ?_) (fun H' h => ?_)
  · obtain ⟨sm, hk⟩ := h
    obtain ⟨rfl, c, hc, rfl⟩ := y
    have hc2 : w.cps.toList[i]? = some c := by rw [Array.getElem?_toList]; exact hc
    refine ⟨rfl, _, rfl, _, rfl, p, _, rfl, .inl (.inl (.inl (sm _ _ hp))), rfl, flat_ch cs, _, rfl, ?_⟩
    show if (!inV (cS c) (cs.map cS)) = true then _ else _
    rw [inV_ch]
    by_cases hm : c ∈ cs
    · rw [decide_eq_true hm]
      refine iteF ⟨sm, ?_⟩
      rw [hk, List.take_add_one, hc2, List.filter_append]
      simp [hm]
    · rw [decide_eq_false hm]
      refine iteT ⟨_, rfl, _, hk, ?_, fun b o e => ?_, ?_⟩
      · rw [List.length_map]
        refine small1000 ?_
        have h1 := List.length_filter_le (fun c => !decide (c ∈ cs)) (w.cps.toList.take i)
        rw [List.length_take] at h1
        omega
      · rw [upd_ne (ne_of_none e hD)]
        exact sm _ _ e
      · rw [upd_same, List.take_add_one, hc2, List.filter_append, List.map_append]
        simp [hm]
        rfl
  · refine hd H' D h.1 hD ?_
    have := h.2
    rw [← Array.length_toList, List.take_length] at this
    exact this

/-- over a list: each turn makes a new pair -/
theorem lcN {α : Type} {K : PySem.W.Frag} {te0 : TE} {g : TG} {te : TE} {vs : List Nat} {σ : L2.St} {H : Hp} {Q : VK} (ls : List α) (wd : α → V) (emb : α → V × V) (hz : ls.length ≤ 10000)
    (hte : ∀ R : VK, (∀ l H1, Same H H1 → SqL K H1 l (ls.map wd) → R (.ref l) H1) → te0 σ H R)
    (hs : ∀ x H' (R : V → Hp → Prop), x ∈ ls → Same H H' → (∀ H'' b, Same H' H'' → H'' b = some (.tup [(emb x).1, (emb x).2]) → R (.ref b) H'') →
      g (wd x) (wipe σ vs) H' fun σ2 H2 => wipe σ2 vs = wipe σ vs ∧ te σ2 H2 R)
    (hd : ∀ H' D rs, Same H H' → H D = none → H' D = some (.lst (rs.map V.ref)) → Paired (fun b (p : V × V) => SqT K H' b [p.1, p.2]) rs (ls.map emb) → Q (.ref D) H') : tLc (iList K te0) g tYes te vs σ H Q := by
  refine hte _ fun l H1 s1 hl => ⟨l, rfl, ⟨_, hl⟩, fun D hD => ?_⟩
  refine lc_it (n := ls.length) (fun i H' => Same H1 H' ∧ ∃ rs, H' D = some (.lst (rs.map V.ref)) ∧ Paired (fun b (p : V × V) => SqT K H' b [p.1, p.2]) rs ((ls.take i).map emb)) ⟨same_new hD, [], upd_same, .nil⟩
    (fun i H' hi h => ⟨ls.map wd, (ls.map wd)[i]'(by simpa using hi), SqL_same h.1 hl, List.getElem?_eq_getElem _⟩) (fun H' h => ⟨ls.map wd, SqL_same h.1 hl, by simp⟩) (fun i v H' H2 hi h y => ?_) (fun H' h => ?_)
  · obtain ⟨sm, rs, hk, hp⟩ := h
    obtain ⟨rfl, y⟩ := y
    obtain ⟨x, ex, rfl⟩ := map_at (y _ (SqL_same sm hl))
    have key := hs x H2 (fun y H4 => ∃ acc, H4 D = some (.lst acc) ∧ acc.length < sizeLine ∧ (Same H1 (upd H4 D (.lst (acc ++ [y]))) ∧ ∃ rs, upd H4 D (.lst (acc ++ [y])) D = some (.lst (rs.map V.ref)) ∧ Paired (fun b (p : V × V) => SqT K (upd H4 D (.lst (acc ++ [y]))) b [p.1, p.2]) rs ((ls.take (i + 1)).map emb))) (List.mem_of_getElem? ex) (s1.trans sm) (fun H3 b s3 hb => ⟨_, s3 _ _ hk, ?_, ?_⟩)
    · exact key
    · rw [List.length_map, Paired.len hp, List.length_map, List.length_take]
      exact Nat.lt_of_lt_of_le (show _ < 20000 by omega) (sl_le (by decide))
    · have im : Imm H3 (upd H3 D (.lst (rs.map V.ref ++ [V.ref b]))) := Chg.imm Chg.upd (s3 _ _ hk) trivial
      refine ⟨fun a o e => ?_, rs ++ [b], by rw [upd_same, List.map_append]; rfl, ?_⟩
      · rw [upd_ne (ne_of_none e hD)]
        exact s3 _ _ (sm _ _ e)
      · rw [List.take_add_one, ex, List.map_append]
        exact Paired.snoc (F := fun b (p : V × V) => SqT K _ b [p.1, p.2]) (x := b) (y := emb x) (.inl (.inl (im.1 _ _ hb))) (Paired.imm ((Imm.of s3).trans im) hp)
  · obtain ⟨sm, rs, hk, hp⟩ := h
    rw [List.take_length] at hp
    exact hd H' D rs (s1.trans sm) (none_of s1 hD) hk hp
/-- over the keys of a dict -/
theorem lcD {α : Type} {td : TE} {g : TG} {te : TE} {vs : List Nat} {σ : L2.St} {H : Hp} {Q : VK} {d : Addr} (ls : List α) (ky : α → Key) (vl F : α → V) (hz : ls.length ≤ 10000) (hH : H d = some (.dK (ls.map fun x => (ky x, vl x))))
    (hte : ∀ (od : Obj) (R : VK), R (.ref d) (upd H d (.frz od (.dK (ls.map fun x => (ky x, vl x))))) → td σ (upd H d (.frz od (.dK (ls.map fun x => (ky x, vl x))))) R)
    (hs : ∀ (od : Obj) x H' (R : V → Hp → Prop), x ∈ ls → Same (upd H d (.frz od (.dK (ls.map fun x => (ky x, vl x))))) H' → (∀ H'', Same H' H'' → R (F x) H'') →
      g (kV (ky x)) (wipe σ vs) H' fun σ2 H2 => wipe σ2 vs = wipe σ vs ∧ te σ2 H2 R)
    (hd : ∀ H' D, Same H H' → H D = none → H' D = some (.lst (ls.map F)) → Q (.ref D) H') : tLockE (tLc (iKeys td) g tYes te vs) σ H Q := by
  refine ⟨d, _, hH, trivial, fun od => ?_⟩
  have eL : upd H d (.frz od (.dK (ls.map fun x => (ky x, vl x)))) d = some (.frz od (.dK (ls.map fun x => (ky x, vl x)))) := upd_same
  have hs1 := hs od
  refine hte od _ ⟨d, od, rfl, .inl ⟨_, eL, fun D hD => ?_⟩⟩
  generalize hHL : upd H d (.frz od (.dK (ls.map fun x => (ky x, vl x)))) = HL at *
  have nD : D ≠ d := fun z => by
    rw [z, eL] at hD
    cases hD
  have hD0 : H D = none := by
    rw [← hHL, upd_ne nD] at hD
    exact hD
  have at_ : ∀ i, i < ls.length → ∃ x, ls[i]? = some x := fun i hi => ⟨_, List.getElem?_eq_getElem hi⟩
  refine lc_it (n := ls.length) (fun i H' => Same HL H' ∧ H' D = some (.lst ((ls.take i).map F))) ⟨same_new hD, upd_same⟩
    (fun i H' hi h => ⟨h.1 _ _ eL, by rw [List.length_map]; exact hi⟩) (fun H' h => ⟨h.1 _ _ eL, by rw [List.length_map]; exact Nat.le_refl _⟩) (fun i v H' H2 hi h y => ?_) (fun H' h => ?_)
  · obtain ⟨sm, hk⟩ := h
    obtain ⟨rfl, k0, v0, e0, rfl⟩ := y
    obtain ⟨x, ex⟩ := at_ i hi
    rw [List.getElem?_map, ex] at e0
    cases e0
    refine hs1 x H2 (fun y H4 => ∃ acc, H4 D = some (.lst acc) ∧ acc.length < sizeLine ∧ (Same HL (upd H4 D (.lst (acc ++ [y]))) ∧ upd H4 D (.lst (acc ++ [y])) D = some (.lst ((ls.take (i + 1)).map F)))) (List.mem_of_getElem? ex) sm (fun H3 s3 => ⟨_, s3 _ _ hk, ?_, ?_⟩)
    · rw [List.length_map, List.length_take]
      exact Nat.lt_of_lt_of_le (show _ < 20000 by omega) (sl_le (by decide))
    · refine ⟨fun a o e => ?_, by rw [upd_same, List.take_add_one, ex, List.map_append]; rfl⟩
      rw [upd_ne (ne_of_none e hD)]
      exact s3 _ _ (sm _ _ e)
  · obtain ⟨sm, hk⟩ := h
    rw [List.take_length] at hk
    refine ⟨sm _ _ eL, hd _ D (fun b o e => ?_) hD0 ?_⟩
    · by_cases hb : b = d
      · rw [hb, hH] at e
        cases e
        rw [hb, upd_same]
      · rw [upd_ne hb]
        refine sm _ _ ?_
        rw [← hHL, upd_ne hb]
        exact e
    · rw [upd_ne nD]
      exact hk
end K6
/-! Tests and their trees: things in the heap, promises. -/
namespace K36
open PySem PySem.Spec L2 Z K1 TL
/-! ### what is no text -/
def NotStr (K : PySem.W.Frag) (H : Hp) (v : V) : Prop := v = .non ∨ (∃ b, v = .bl b) ∨ (∃ i, v = .int i) ∨ (∃ a xs, v = .ref a ∧ SqT K H a xs) ∨ (∃ a xs, v = .ref a ∧ H a = some (.lst xs)) ∨ ∃ a kvs, v = .ref a ∧ H a = some (.dK kvs)
theorem NotStr.same {K : PySem.W.Frag} {H H' : Hp} {v : V} (e : Same H H') (h : NotStr K H v) : NotStr K H' v := by
  rcases h with h | h | h | ⟨a, xs, h1, h2⟩ | ⟨a, xs, h1, h2⟩ | ⟨a, xs, h1, h2⟩
  · exact .inl h
  · exact .inr (.inl h)
  · exact .inr (.inr (.inl h))
  · exact .inr (.inr (.inr (.inl ⟨a, xs, h1, SqT.imm (.of e) h2⟩)))
  · exact .inr (.inr (.inr (.inr (.inl ⟨a, xs, h1, e _ _ h2⟩))))
  · exact .inr (.inr (.inr (.inr (.inr ⟨a, xs, h1, e _ _ h2⟩))))
/-- isinstance(v, str) of what is none -/
theorem not_str {K : PySem.W.Frag} {H : Hp} {v : V} (h : NotStr K H v) : ∃ c, TyX K H v c ∧ PySem.W.kitOne K c (.type "str") = some false := by
  rcases h with rfl | ⟨b, rfl⟩ | ⟨i, rfl⟩ | ⟨a, xs, rfl, hs⟩ | ⟨a, xs, rfl, hs⟩ | ⟨a, xs, rfl, hs⟩
  · exact ⟨_, .base .non, kit_ty (r := false) (by decide +kernel)⟩
  · exact ⟨_, .base (.bl b), kit_ty (r := false) (by decide +kernel)⟩
  · exact ⟨_, .base (.int i), kit_ty (r := false) (by decide +kernel)⟩
  · exact ⟨_, SqT.ty hs, kit_ty (r := false) (by decide +kernel)⟩
  · exact ⟨_, .base (.lst hs), kit_ty (r := false) (by decide +kernel)⟩
  · exact ⟨_, .base (.dK hs), kit_ty (r := false) (by decide +kernel)⟩
/-- what can be shown -/
def ShOk (d : PyData) : Prop := d.showable = true ∧ d.depth ≤ 60 ∧ d.shown.length ≤ 200000
def Shown (K : PySem.W.Frag) (H : Hp) (v : V) : Prop := ∃ d, ShOk d ∧ ∀ H', Same H H' → Sh K H' v d
/-- no test -/
def NoTest (K : PySem.W.Frag) (H : Hp) (v : V) : Prop := (∃ x, v = .str x ∧ TxOk 12000 x ∧ tst (spl x) = none) ∨ NotStr K H v
theorem NoTest.same {K : PySem.W.Frag} {H H' : Hp} {v : V} (e : Same H H') (h : NoTest K H v) : NoTest K H' v := h.imp id (NotStr.same e)
theorem Same.trans2 {H H1 H2 : Hp} (a : Same H H1) (b : Same H1 H2) : Same H H2 := fun c o e => b c o (a c o e)
theorem Shown.same {K : PySem.W.Frag} {H H' : Hp} {v : V} (e : Same H H') (h : Shown K H v) : Shown K H' v := by
  obtain ⟨d, h1, h2⟩ := h
  exact ⟨d, h1, fun H2 s => h2 H2 (Same.trans2 e s)⟩
/-! ### a test in the heap -/
abbrev triV (t : Tri) : List V := [.str t.1, .str t.2.1, .str t.2.2]
def Trs (K : PySem.W.Frag) (H : Hp) (rs : List Addr) (ts : List Tri) : Prop := Paired (fun r (t : Tri) => SqT K H r (triV t)) rs ts
theorem Trs.imm {K : PySem.W.Frag} {H H' : Hp} (e : Imm H H') : ∀ {rs : List Addr} {ts : List Tri}, Trs K H rs ts → Trs K H' rs ts
  | _, _, .nil => .nil
  | _, _, .cons h t => .cons (SqT.imm e h) (Trs.imm e t)
def QAt (K : PySem.W.Frag) (H : Hp) (v : V) (q : Quiz) : Prop := ∃ a b rs, v = .ref a ∧ SqT K H a [.str q.1, .ref b] ∧ SqT K H b (rs.map V.ref) ∧ Trs K H rs q.2
theorem QAt.imm {K : PySem.W.Frag} {H H' : Hp} {v : V} {q : Quiz} (e : Imm H H') (h : QAt K H v q) : QAt K H' v q := by
  obtain ⟨a, b, rs, h1, h2, h3, h4⟩ := h
  exact ⟨a, b, rs, h1, SqT.imm e h2, SqT.imm e h3, Trs.imm e h4⟩
def tD (t : Tri) : PyData := .tuple [.str t.1, .str t.2.1, .str t.2.2]
def qD (q : Quiz) : PyData := .tuple [.str q.1, .tuple (q.2.map tD)]
theorem trs_dp {K : PySem.W.Frag} {H : Hp} : ∀ {rs : List Addr} {ts : List Tri}, Trs K H rs ts → DpAll K H (rs.map V.ref) (ts.map tD)
  | [], [], _ => .nil
  | _ :: _, _ :: _, .cons h t => .cons (.tup h (.cons (.str _) (.cons (.str _) (.cons (.str _) .nil)))) (trs_dp t)
theorem QAt.dp {K : PySem.W.Frag} {H : Hp} {v : V} {q : Quiz} (h : QAt K H v q) : Dp K H v (qD q) := by
  obtain ⟨a, b, rs, rfl, h2, h3, h4⟩ := h
  exact .tup h2 (.cons (.str _) (.cons (.tup h3 (trs_dp h4)) .nil))
theorem fit_q {q : Quiz} (h : QOk q) : Fit (qD q) 700 3 := by
  have fs : ∀ {x : Str}, TxOk 3 x → Fit (.str x) 32 0 := fun k => fit_str (n := 3) k.small k.len
  refine fit_le (fit_tup (k := 324) (m := 2) fun d hd => ?_) (show (324 + 2) * 2 + 3 ≤ 700 by decide) (by decide)
  simp only [List.mem_cons, List.not_mem_nil, or_false] at hd
  rcases hd with rfl | rfl
  · exact fit_le (fs (tx_jt h.jt)) (by decide) (by decide)
  · have f := fit_tup (k := 105) (m := 1) (ds := q.2.map tD) fun d hd => by
      obtain ⟨t, ht, rfl⟩ := List.mem_map.mp hd
      obtain ⟨h1, h2, h3⟩ := trip_parts (h.tri t ht)
      refine fit_le (fit_tup (k := 32) (m := 0) fun d hd => ?_) (show (32 + 2) * 3 + 3 ≤ 105 by decide) (by decide)
      simp only [List.mem_cons, List.not_mem_nil, or_false] at hd
      rcases hd with rfl | rfl | rfl
      · exact fs ((tx_mk h2).mono (by decide))
      · exact fs ((tx_let h1).mono (by decide))
      · exact fs (tx_tgt h3)
    have := h.few
    rw [List.length_map] at f
    refine fit_le f ?_ (by decide)
    omega
theorem QAt.sh {K : PySem.W.Frag} {H : Hp} {v : V} {q : Quiz} (h : QAt K H v q) (k : QOk q) : Sh K H v (qD q) := .of h.dp (fit_q k).nod
/-- a list of words that are read, and the place of the next -/
structure RdAt (K : PySem.W.Frag) (H : Hp) (r l : Addr) (ws : List Str) (pos : Nat) : Prop where
  rd : H r = some (.lst [.ref l, .int (pos : Int), .int 0])
  wd : H l = some (.lst (ws.map V.str))
  ne : l ≠ r
def SeqV (K : PySem.W.Frag) (H : Hp) (j : Addr) (v : V) (xs : List V) : Prop := (∃ l, v = .ref l ∧ l ≠ j ∧ SqL K H l xs) ∨ (∃ l, v = .ref l ∧ SqT K H l xs) ∨ ∃ z : Str, v = .str z ∧ z.length ≤ 1000 ∧ xs = z.cps.toList.map fun c => V.str (ch c)
section
variable (K : PySem.W.Frag) (C : Addr)
def p_never : Sp := fun _ _ _ _ => False
def p_is_letter : Sp := fun vs H Q _ => ∃ w : Str, vs = [.str w] ∧ w.length ≤ 20000 ∧ Q (.bl (isLet w)) H
def p_is_target : Sp := fun vs H Q _ => ∃ w : Str, vs = [.str w] ∧ w.length ≤ 20000 ∧ Q (.bl (isTgt w)) H
def p_comparison_in : Sp := fun vs H Q _ => ∃ (l : Addr) (ws : List Str), vs = [.ref l] ∧ SqL K H l (ws.map V.str) ∧ (∀ w ∈ ws, w.length ≤ 20000) ∧ ∀ H', Same H H' → (cmpIn ws = none → Q .non H') ∧ ∀ t p, cmpIn ws = some t → H p = none → H' p = some (.tup (triV t)) → Q (.ref p) H'
def Told (o : Option Quiz) (H : Hp) (Q : VK) : Prop := (o = none → ∀ H', Same H H' → Q .non H') ∧ ∀ q, o = some q → ∀ H' u, Same H H' → QAt K H' u q → Q u H'
def p_test_in : Sp := fun vs H Q _ => ∃ (l : Addr) (ws : List Str), vs = [.ref l] ∧ SqL K H l (ws.map V.str) ∧ (∀ w ∈ ws, TxOk 12000 w) ∧ 1 ≤ ws.length ∧ ws.length ≤ 12001 ∧ Told K (tst ws) H Q
def p_test_or_none : Sp := fun vs H Q _ => ∃ v, vs = [v] ∧ ((∃ x, v = .str x ∧ TxOk 12000 x ∧ Told K (tst (spl x)) H Q) ∨ (NotStr K H v ∧ Q .non H))
def p_is_test : Sp := fun vs H Q _ => ∃ v, vs = [v] ∧ ((∃ x, v = .str x ∧ TxOk 12000 x ∧ ∀ H', Same H H' → Q (.bl (tst (spl x)).isSome) H') ∨ (NotStr K H v ∧ Q (.bl false) H))
def p_test_tree : Sp := fun vs H Q E => ∃ v, vs = [v] ∧ ((∃ x q, v = .str x ∧ TxOk 12000 x ∧ tst (spl x) = some q ∧ ∀ H' u, Same H H' → QAt K H' u q → Q u H') ∨ (NoTest K H v ∧ ∀ H', Same H H' → Bad C "given" v H' E))
def p_words_in : Sp := fun vs H Q _ => ∃ q : Quiz, vs = [.str (said q)] ∧ QOk q ∧ ∀ H' l, Same H H' → H l = none → H' l = some (.lst ((wds q).map V.str)) → Q (.ref l) H'
def p_is_program0 : Sp := fun vs H Q _ => ∃ q : Quiz, vs = [.str (said q)] ∧ QOk q ∧ 2 ≤ q.2.length ∧ ∀ H', Same H H' → Q .non H'
def p_is_program : Sp := fun vs H Q _ => ∃ q : Quiz, vs = [.str (said q)] ∧ QOk q ∧ 2 ≤ q.2.length ∧ ∀ H', Same H H' → Q (.bl false) H'
/-- none, or a pair with 3 behind -/
def Three (H : Hp) (Q : VK) : Prop := ∀ H', Same H H' → Q .non H' ∧ ∀ t d, H' t = some (.tup [.ref d, .int 3]) → Q (.ref t) H'
def p_read_statement : Sp := fun vs H Q _ => ∃ (l : Addr) (a m b j : Str) (rest : List Str), vs = [.ref l, .int 0, .int 0] ∧ H l = some (.lst ((a :: m :: b :: j :: rest).map V.str)) ∧ isLet a = true ∧ isMk m = true ∧ isTgt b = true ∧ isJt j = true ∧ Three H Q
def p_read : Sp := p_read_statement
def p_deed_in : Sp := fun vs H Q _ => ∃ (l : Addr) (a m : Str) (rest : List Str), vs = [.ref l] ∧ SqL K H l ((a :: m :: rest).map V.str) ∧ isLet a = true ∧ isMk m = true ∧
  ((rest = [] ∧ Q .non H) ∨ (∃ b, rest = [b] ∧ isTgt b = true ∧ ∀ H', Same H H' → (m ≠ Str.ofString "=" → Q .non H') ∧ (m = Str.ofString "=" → ∀ t xs, H' t = some (.tup xs) → Q (.ref t) H')) ∨ (∃ b c, rest = [b, c] ∧ isTgt b = true ∧ isJt c = true ∧ m ≠ Str.ofString "=" ∧ ∀ H', Same H H' → Q .non H'))
def p_pick : Sp := fun vs H Q _ => ∃ (j : Addr) (v : V) (xs : List V), vs = [.ref j, v] ∧ JugAt H j ∧ SeqV K H j v xs ∧ xs ≠ [] ∧ xs.length ≤ 1000 ∧ ∀ (H' : Hp) (x : V), Chg j H H' → JugAt H' j → x ∈ xs → Q x H'
def p_quiz : Sp := fun vs H Q _ => ∃ (j : Addr) (z : Str), vs = [.ref j, .str z] ∧ JugAt H j ∧ 1 ≤ z.length ∧ z.length ≤ 100 ∧ (∀ c ∈ tl z, 97 ≤ c ∧ c ≤ 122) ∧ ∀ H' u q, Chg j H H' → JugAt H' j → QAt K H' u q → QOk q → (q.2.length = 1 → q.1 = Str.ofString "and") → Q u H'
def p_quiz_said : Sp := fun vs H Q _ => ∃ (u : V) (q : Quiz), vs = [u] ∧ QAt K H u q ∧ QOk q ∧ ∀ H', Same H H' → Q (.str (said q)) H'
def p_ahead : Sp := fun vs H Q _ => ∃ (r l : Addr) (ws : List Str) (pos : Nat), vs = [.ref r] ∧ RdAt K H r l ws pos ∧ Q (.str (W ws pos)) H
def p_next : Sp := fun vs H Q _ => ∃ (r l : Addr) (ws : List Str) (pos : Nat), vs = [.ref r] ∧ RdAt K H r l ws pos ∧ ∀ H', Chg r H H' → RdAt K H' r l ws (pos + 1) → Q (.str (W ws pos)) H'
def p_read_quiz : Sp := fun vs H Q _ => ∃ (r l : Addr) (ws : List Str), vs = [.ref r] ∧ RdAt K H r l ws 0 ∧ (∀ w ∈ ws, TxOk 12000 w) ∧ ∀ H', Chg r H H' → RdAt K H' r l ws (rd 3 ws 0 sE []).2 → ((rd 3 ws 0 sE []).1 = none → Q .non H') ∧ ∀ q u, (rd 3 ws 0 sE []).1 = some q → QAt K H' u q → Q u H'
def p_bent : Sp := fun vs H Q _ => ∃ (j : Addr) (x : Str) (n : Nat), vs = [.ref j, .str x] ∧ JugAt H j ∧ TxOk n x ∧ n ≤ 1000 ∧ ∀ H' y, Chg j H H' → JugAt H' j → TxOk (2 * n + 20) y → Q (.str y) H'
def p_odd : Sp := fun vs H Q _ => ∃ j, vs = [.ref j] ∧ JugAt H j ∧ ∀ H' v, Chg j H H' → JugAt H' j → NoTest K H' v → Shown K H' v → Q v H'
def p_refused : Sp := fun vs H Q _ => ∃ v, vs = [v] ∧ NoTest K H v ∧ Shown K H v ∧ ∀ H', Same H H' → Q (.bl true) H'
def p_quiz_read : Sp := fun vs H Q _ => ∃ x, vs = [.str x] ∧ TxOk 12000 x ∧ Told K (tst (spl x)) H Q
def p_judged : Sp := fun vs H Q _ => ∃ x, vs = [.str x] ∧ TxOk 12000 x ∧ ∀ H', Same H H' → Q (.bl true) H'
end
theorem shown_str {K : PySem.W.Frag} {H : Hp} {x : Str} {n : Nat} (h : TxOk n x) (hn : n ≤ 12000) : Shown K H (.str x) := by
  have f := fit_str (n := n) h.small h.len
  exact ⟨.str x, ⟨f.ok, by have := f.dep; omega, by have := f.len; omega⟩, fun H' _ => .of (.str x) rfl⟩
theorem eqV_str (a b : Str) : eqV (.str a) (.str b) = decide (a = b) := by
  show (a == b) = _
  rw [Bool.eq_iff_iff, beq_iff_eq, decide_eq_true_eq]
theorem inV_str (x : Str) : ∀ ws : List Str, inV (.str x) (ws.map V.str) = decide (x ∈ ws)
  | [] => by simp [inV]
  | a :: t => by
    have ih := inV_str x t
    unfold inV at ih ⊢
    rw [List.map_cons, List.any_cons, ih, eqV_str, Bool.eq_iff_iff, Bool.or_eq_true, decide_eq_true_eq, decide_eq_true_eq, decide_eq_true_eq, List.mem_cons]
    exact ⟨fun h => h.imp Eq.symm id, fun h => h.imp Eq.symm id⟩
theorem flat_str (ws : List Str) : (ws.map V.str).all flatV = true := by
  rw [List.all_map, List.all_eq_true]
  intro c _
  rfl
theorem in_mk (m : Str) : inV (.str m) [.str (Str.ofString "="), .str (Str.ofString "!=")] = isMk m := by
  have e := inV_str m [Str.ofString "=", Str.ofString "!="]
  refine Eq.trans e ?_
  unfold isMk
  rw [Bool.eq_iff_iff, Bool.or_eq_true, decide_eq_true_eq, decide_eq_true_eq, decide_eq_true_eq]
  simp
theorem in_jt (m : Str) : inV (.str m) [.str (Str.ofString "and"), .str (Str.ofString "or")] = isJt m := by
  have e := inV_str m [Str.ofString "and", Str.ofString "or"]
  refine Eq.trans e ?_
  unfold isJt
  rw [Bool.eq_iff_iff, Bool.or_eq_true, decide_eq_true_eq, decide_eq_true_eq, decide_eq_true_eq]
  simp
theorem dec_st (a b : Str) : decide (V.str a = V.str b) = decide (a = b) := decide_eq_decide.mpr ⟨fun e => V.str.inj e, fun e => congrArg V.str e⟩
theorem seq_post {t u : TS} {D : Ends} {σ : L2.St} {H : Hp} (P : L2.St → Hp → Prop) (h1 : ∀ R : L2.St → Hp → Prop, (∀ σ' H', P σ' H' → R σ' H') → t { D with nx := R } σ H) (h2 : ∀ σ' H', P σ' H' → u D σ' H') : tSeq t u D σ H := h1 (u D) h2
theorem mk_of {x : V} (h : x ∈ [V.str (Str.ofString "="), V.str (Str.ofString "!=")]) : ∃ m, x = .str m ∧ isMk m = true := by
  simp only [List.mem_cons, List.not_mem_nil, or_false] at h
  rcases h with rfl | rfl <;> exact ⟨_, rfl, by decide +kernel⟩
theorem ch_of {z : Str} {x : V} (hz : ∀ c ∈ tl z, 97 ≤ c ∧ c ≤ 122) (h : x ∈ z.cps.toList.map fun c => V.str (ch c)) : ∃ a, x = .str a ∧ isLet a = true := by
  obtain ⟨c, hc, rfl⟩ := List.mem_map.mp h
  obtain ⟨h1, h2⟩ := hz c hc
  exact ⟨_, rfl, by rw [ch_let, decide_eq_true h1, decide_eq_true h2]; rfl⟩
theorem tgt_of {z : Str} {x : V} (hz : ∀ c ∈ tl z, 97 ≤ c ∧ c ≤ 122) (h : x ∈ (z.cps.toList.map fun c => V.str (ch c)) ++ [V.str (Str.ofString "END"), V.str (Str.ofString "END")]) : ∃ a, x = .str a ∧ isTgt a = true := by
  rcases List.mem_append.mp h with h | h
  · obtain ⟨a, rfl, ha⟩ := ch_of hz h
    exact ⟨a, rfl, by unfold isTgt; rw [ha]; rfl⟩
  · simp only [List.mem_cons, List.not_mem_nil, or_false] at h
    rcases h with rfl | rfl <;> exact ⟨_, rfl, by decide +kernel⟩
theorem Trs.snoc {K : PySem.W.Frag} {H : Hp} {rs : List Addr} {ts : List Tri} {r : Addr} {t : Tri} (h : Trs K H rs ts) (k : SqT K H r (triV t)) : Trs K H (rs ++ [r]) (ts ++ [t]) := Paired.snoc (F := fun r (t : Tri) => SqT K H r (triV t)) k h
theorem RdAt.same {K : PySem.W.Frag} {H H' : Hp} {r l : Addr} {ws : List Str} {pos : Nat} (e : Same H H') (h : RdAt K H r l ws pos) : RdAt K H' r l ws pos := ⟨e _ _ h.rd, e _ _ h.wd, h.ne⟩
theorem W_ok {ws : List Str} (h : ∀ w ∈ ws, TxOk 12000 w) (i : Nat) : TxOk 12000 (W ws i) := by
  show TxOk 12000 (ws.getD i sE)
  rw [List.getD_eq_getElem?_getD]
  cases e : ws[i]? with
  | none => exact txB_ok (by decide +kernel)
  | some w => exact h w (List.mem_of_getElem? e)
theorem rd_no {t : Nat} {ws : List Str} {pos : Nat} {j : Str} {f : List Tri} (h : trip (W ws pos) (W ws (pos + 1)) (W ws (pos + 2)) = false) : rd (t + 1) ws pos j f = (none, pos + 3) := by
  unfold rd
  rw [if_neg (by rw [h]; simp)]
theorem rd_end {t : Nat} {ws : List Str} {pos : Nat} {j : Str} {f : List Tri} (h : trip (W ws pos) (W ws (pos + 1)) (W ws (pos + 2)) = true) (k : isJt (W ws (pos + 3)) = false ∨ (j ≠ sE ∧ j ≠ W ws (pos + 3)) ∨ t = 0) : rd (t + 1) ws pos j f = (some (if j ≠ sE then j else Str.ofString "and", f ++ [(W ws (pos + 1), W ws pos, W ws (pos + 2))]), pos + 3) := by
  unfold rd
  rw [if_pos h, if_pos k]
theorem rd_go {t : Nat} {ws : List Str} {pos : Nat} {j : Str} {f : List Tri} (h : trip (W ws pos) (W ws (pos + 1)) (W ws (pos + 2)) = true) (k : ¬ (isJt (W ws (pos + 3)) = false ∨ (j ≠ sE ∧ j ≠ W ws (pos + 3)) ∨ t = 0)) : rd (t + 1) ws pos j f = rd t ws (pos + 4) (W ws (pos + 3)) (f ++ [(W ws (pos + 1), W ws pos, W ws (pos + 2))]) := by
  conv => lhs; unfold rd
  rw [if_pos h, if_neg k]
theorem sp_len : (Str.ofString " ").length = 1 := by decide +kernel
theorem zip_1 {α β : Type} {as : List α} {bs : List β} (f : α → V) (h : as.length = bs.length) : (as.zip bs).map (fun p => f p.1) = as.map f := by
  conv => rhs; rw [← List.map_fst_zip (l₁ := as) (l₂ := bs) (by omega)]
  rw [List.map_map]
  rfl
theorem zip_2 {α β : Type} {as : List α} {bs : List β} (f : β → V) (h : as.length = bs.length) : ((as.zip bs).filter fun _ => true).map (fun p => f p.2) = bs.map f := by
  rw [List.filter_eq_self.mpr (fun _ _ => rfl)]
  conv => rhs; rw [← List.map_snd_zip (l₁ := as) (l₂ := bs) (by omega)]
  rw [List.map_map]
  rfl
theorem Trs.mem {K : PySem.W.Frag} {H : Hp} : ∀ {rs : List Addr} {ts : List Tri} {p : Addr × Tri}, Trs K H rs ts → p ∈ rs.zip ts → SqT K H p.1 (triV p.2) ∧ p.2 ∈ ts
  | r :: rs, t :: ts, p, .cons h k, hp => by
    rw [List.zip_cons_cons] at hp
    rcases List.mem_cons.mp hp with rfl | hp
    · exact ⟨h, .head _⟩
    · obtain ⟨a, b⟩ := Trs.mem (rs := rs) (ts := ts) k hp
      exact ⟨a, .tail _ b⟩
theorem trip_1 {a m b : Str} (h : isLet a = false) : trip a m b = false := by unfold trip; rw [h]; rfl
theorem trip_2 {a m b : Str} (h : isMk m = false) : trip a m b = false := by unfold trip; rw [h]; cases isLet a <;> rfl
theorem trip_3 {a m b : Str} (h : isTgt b = false) : trip a m b = false := by unfold trip; rw [h]; cases isLet a <;> cases isMk m <;> rfl
theorem trip_t {a m b : Str} (h1 : isLet a = true) (h2 : isMk m = true) (h3 : isTgt b = true) : trip a m b = true := by unfold trip; rw [h1, h2, h3]; rfl
theorem in_two (x a b : Str) : inV (.str x) [.str a, .str b] = (decide (x = a) || decide (x = b)) := by
  have e := inV_str x [a, b]
  refine Eq.trans e ?_
  rw [Bool.eq_iff_iff, Bool.or_eq_true, decide_eq_true_eq, decide_eq_true_eq, decide_eq_true_eq]
  simp
theorem call_len_seqK {X : Cx} {K : PySem.W.Frag} (h : X.K = K) : CallR X (.builtin "len") (fun xs H Q => ∃ p ys, xs = [.ref p] ∧ (SqL K H p ys ∨ SqT K H p ys) ∧ Q (.int ys.length) H) := h ▸ call_len_seq
theorem sl_listK {X : Cx} {K : PySem.W.Frag} (h : X.K = K) : SlR X (rSlL K) := h ▸ sl_list
theorem fits_nat {i : Int} (h : 0 ≤ i) (k : i ≤ 1000000) : Builtin.Range.rangeFitsLong i = true := by
  unfold Builtin.Range.rangeFitsLong
  rw [Bool.and_eq_true, decide_eq_true_eq, decide_eq_true_eq]
  have e : (2 : Int) ^ 63 = 9223372036854775808 := by decide
  rw [e]
  omega
theorem rg4 {n : Nat} (h : n ≤ 100000) : RgC 0 (n : Int) 4 ((n + 3) / 4) := by
  have e : Builtin.Range.rangeSize 0 (n : Int) 4 = (((n + 3) / 4 : Nat) : Int) := by
    unfold Builtin.Range.rangeSize
    simp only [show (4 : Int) > 0 by decide, if_true]
    split <;> omega
  refine ⟨by decide, by decide, ?_, e⟩
  unfold Builtin.Range.small
  rw [e, if_pos (by decide : (4 : Int) > 0), fits_nat (Int.le_refl 0) (by decide), fits_nat (i := (n : Int)) (by omega) (by omega), fits_nat (i := 4) (by decide) (by decide), fits_nat (i := (((n + 3) / 4 : Nat) : Int)) (by omega) (by omega), fits_nat (i := (n : Int) + (4 - 1)) (by omega) (by omega)]
  simp
def CmpAt (K : PySem.W.Frag) (H : Hp) (v : V) (o : Option Tri) : Prop := match o with
  | none => v = .non
  | some t => ∃ b, v = .ref b ∧ SqT K H b (triV t)
theorem CmpAt.imm {K : PySem.W.Frag} {H H' : Hp} {v : V} {o : Option Tri} (e : Imm H H') (h : CmpAt K H v o) : CmpAt K H' v o := by
  cases o with
  | none => exact h
  | some t =>
    obtain ⟨b, h1, h2⟩ := h
    exact ⟨b, h1, SqT.imm e h2⟩
def CmpAll (K : PySem.W.Frag) (H : Hp) (vs : List V) (os : List (Option Tri)) : Prop := Paired (CmpAt K H) vs os
theorem CmpAll.imm {K : PySem.W.Frag} {H H' : Hp} (e : Imm H H') : ∀ {vs : List V} {os : List (Option Tri)}, CmpAll K H vs os → CmpAll K H' vs os
  | _, _, .nil => .nil
  | _, _, .cons h t => .cons (h.imm e) (CmpAll.imm e t)
def cmpD : Option Tri → PyData
  | none => .none
  | some t => tD t
theorem cmp_dp {K : PySem.W.Frag} {H : Hp} : ∀ {vs : List V} {os : List (Option Tri)}, CmpAll K H vs os → DpAll K H vs (os.map cmpD)
  | [], [], _ => .nil
  | _ :: _, none :: _, .cons h t => by
    rw [show _ = V.non from h]
    exact .cons .non (cmp_dp t)
  | _ :: _, some x :: _, .cons h t => by
    obtain ⟨b, rfl, hb⟩ := h
    exact .cons (.tup hb (.cons (.str _) (.cons (.str _) (.cons (.str _) .nil)))) (cmp_dp t)
theorem cmp_any : ∀ os : List (Option Tri), (os.map cmpD).any (fun z => PyData.eqv z .none) = decide (none ∈ os)
  | [] => rfl
  | none :: t => by
    rw [List.map_cons, List.any_cons]
    have : PyData.eqv (cmpD none) .none = true := by simp [cmpD, PyData.eqv]
    rw [this]
    simp
  | some x :: t => by
    rw [List.map_cons, List.any_cons, cmp_any t]
    have : PyData.eqv (cmpD (some x)) .none = false := by simp [cmpD, tD, PyData.eqv]
    rw [this]
    simp
theorem cmp_refs {K : PySem.W.Frag} {H : Hp} : ∀ {vs : List V} {os : List (Option Tri)}, CmpAll K H vs os → none ∉ os → ∃ rs : List Addr, vs = rs.map V.ref ∧ Trs K H rs (os.filterMap id)
  | [], [], _, _ => ⟨[], rfl, .nil⟩
  | _ :: _, none :: _, .cons h t, n => absurd (.head _) n
  | _ :: _, some x :: os, .cons h t, n => by
    obtain ⟨b, rfl, hb⟩ := h
    obtain ⟨rs, rfl, ht⟩ := cmp_refs t fun z => n (.tail _ z)
    exact ⟨b :: rs, rfl, .cons hb ht⟩
theorem cmp_shaped : ∀ {os : List (Option Tri)}, (∀ t, some t ∈ os → trip t.2.1 t.1 t.2.2 = true) → SeqAt.shaped (.list (os.map cmpD)) = true := by
  intro os h
  have h1 : ∀ os : List (Option Tri), (∀ t, some t ∈ os → trip t.2.1 t.1 t.2.2 = true) → PyData.canLayAll0 (os.map cmpD) = true ∧ PyData.depthAll (os.map cmpD) ≤ 3 := by
    intro os
    induction os with
    | nil => exact fun _ => ⟨rfl, by simp [PyData.depthAll]⟩
    | cons x r ih =>
      intro h
      obtain ⟨i1, i2⟩ := ih fun t ht => h t (.tail _ ht)
      cases x with
      | none => exact ⟨by simp [PyData.canLayAll0, cmpD, PyData.canLay0, i1], by simp [PyData.depthAll, cmpD, PyData.depth]; exact i2⟩
      | some t =>
        obtain ⟨l1, l2, l3⟩ := trip_parts (h t (.head _))
        exact ⟨by simp [PyData.canLayAll0, cmpD, tD, PyData.canLay0, i1, (tx_let l1).strOk, (tx_mk l2).strOk, (tx_tgt l3).strOk], by simp [PyData.depthAll, cmpD, tD, PyData.depth]; omega⟩
  obtain ⟨a, b⟩ := h1 os h
  unfold SeqAt.shaped
  rw [Bool.and_eq_true, decide_eq_true_eq]
  refine ⟨by simpa [PyData.canLay0] using a, ?_⟩
  simp only [PyData.depth]
  omega
theorem eqv_strs (l m : List Str) : PyData.eqv (.list (l.map PyData.str)) (.list (m.map PyData.str)) = decide (l = m) := by
  refine Eq.trans (by simp only [PyData.eqv]) (eqv_all (dat := PyData.str) (fun a b => ?_) l m)
  simp only [PyData.eqv]
  rw [Bool.eq_iff_iff, beq_iff_eq, decide_eq_true_eq]
theorem comps_mem {ws : List Str} {t : Tri} (h : some t ∈ comps ws) : trip t.2.1 t.1 t.2.2 = true := by
  unfold comps at h
  obtain ⟨i, _, hi⟩ := List.mem_map.mp h
  exact cmp_some hi
theorem comps_len (ws : List Str) : (comps ws).length = (ws.length + 3) / 4 := by simp [comps]
theorem grp_cut (ws : List Str) (i : Nat) : cutV (ws.map V.str) (some (0 + (i : Int) * 4)) (some (0 + (i : Int) * 4 + 3)) = (grp ws i).map V.str := by
  rw [show (0 : Int) + (i : Int) * 4 = ((4 * i : Nat) : Int) by omega, show ((4 * i : Nat) : Int) + 3 = ((4 * i + 3 : Nat) : Int) by omega, cut_nat]
  unfold grp
  rw [List.map_take, List.map_drop]
  congr 1
  omega
theorem let_ne {a b : Str} (h : isLet a = true) (k : b.length ≠ 1) : a ≠ b := fun e => by
  obtain ⟨c, rfl, _⟩ := let_ch h
  rw [← e] at k
  exact k rfl
theorem tgt_ne {b : Str} (h : isTgt b = true) : b ≠ Str.ofString "new" := fun e => by
  rw [e] at h
  revert h
  decide +kernel
theorem wds_two {q : Quiz} (h : QOk q) (h2 : 2 ≤ q.2.length) : ∃ a m b rest, wds q = a :: m :: b :: q.1 :: rest ∧ isLet a = true ∧ isMk m = true ∧ isTgt b = true ∧ wds q ≠ [] ∧ (wds q).length ≠ 3 := by
  obtain ⟨j, l⟩ := q
  rcases h.cases with ⟨t, e⟩ | ⟨t, u, e⟩ | ⟨t, u, v, e⟩ <;> simp only at e <;> subst e
  · exact absurd h2 (by simp)
  · obtain ⟨l1, l2, l3⟩ := trip_parts (h.tri t (.head _))
    exact ⟨t.2.1, t.1, t.2.2, [u.2.1, u.1, u.2.2], rfl, l1, l2, l3, by simp [wds, tws], by simp [wds, tws]⟩
  · obtain ⟨l1, l2, l3⟩ := trip_parts (h.tri t (.head _))
    exact ⟨t.2.1, t.1, t.2.2, [u.2.1, u.1, u.2.2, j, v.2.1, v.1, v.2.2], rfl, l1, l2, l3, by simp [wds, tws], by simp [wds, tws]⟩
theorem wds_len {q : Quiz} (h : QOk q) : (wds q).length ≤ 11 := by
  obtain ⟨j, l⟩ := q
  rcases h.cases with ⟨t, e⟩ | ⟨t, u, e⟩ | ⟨t, u, v, e⟩ <;> simp only at e <;> subst e <;> simp [wds, tws]
theorem dec_lst (l m : List Str) : (l.map V.str = m.map V.str) ↔ l = m := by
  constructor
  · intro h
    have := congrArg (List.map fun v => match v with | V.str x => x | _ => sE) h
    rw [List.map_map, List.map_map] at this
    simpa [Function.comp_def] using this
  · exact fun h => by rw [h]
theorem op_isntB {X : Cx} : OpR X (compareOp .IsNot) (fun x y H Q => ∃ c d, x = .bl c ∧ y = .bl d ∧ Q (.bl (c != d)) H) := by
  intro pins s σ H x y v u Q I rx ry h
  obtain ⟨c, d, rfl, rfl, q⟩ := h
  cases rx
  cases ry
  exact PyProof.Rows.isnot_bool ⟨.bl _, H, I, rfl, q⟩
/-! ### what a test shows -/
def Asc (x : Str) : Prop := ∀ c ∈ tl x, c < 128
theorem asc_by {x : Str} (h : ((tl x).all fun c => decide (c < 128)) = true) : Asc x := fun c hc => by
  have := List.all_eq_true.mp h c hc
  simpa using this
theorem Asc.app {x y : Str} (h : Asc x) (k : Asc y) : Asc (x ++ y) := fun c hc => by
  rw [tl_append] at hc
  rcases List.mem_append.mp hc with z | z
  · exact h c z
  · exact k c z
theorem Asc.ok {x : Str} (h : Asc x) : PyData.strOk x = true := (TxOk.mk (n := x.length) (Nat.le_refl _) h).strOk
theorem rep_let : ∀ i : Fin 26, ((tl (reprText (ch (97 + i.val)))).all fun c => decide (c < 128)) = true := by decide +kernel
theorem asc_let {w : Str} (h : isLet w = true) : Asc (PyData.shown (.str w)) := by
  obtain ⟨c, rfl, h1, h2⟩ := let_ch h
  have := rep_let ⟨c - 97, by omega⟩
  simp only at this
  rw [show 97 + (c - 97) = c by omega] at this
  exact asc_by (by simpa only [PyData.shown] using this)
theorem asc_mk {w : Str} (h : isMk w = true) : Asc (PyData.shown (.str w)) := by
  unfold isMk at h
  simp only [Bool.or_eq_true, decide_eq_true_eq] at h
  rcases h with rfl | rfl <;> exact asc_by (by decide +kernel)
theorem asc_jt {w : Str} (h : isJt w = true) : Asc (PyData.shown (.str w)) := by
  unfold isJt at h
  simp only [Bool.or_eq_true, decide_eq_true_eq] at h
  rcases h with rfl | rfl <;> exact asc_by (by decide +kernel)
theorem asc_tgt {w : Str} (h : isTgt w = true) : Asc (PyData.shown (.str w)) := by
  unfold isTgt at h
  simp only [Bool.or_eq_true, decide_eq_true_eq] at h
  rcases h with h | rfl
  · exact asc_let h
  · exact asc_by (by decide +kernel)
theorem shown_all : ∀ ds : List PyData, PyData.shownAll ds = ds.map PyData.shown
  | [] => by simp [PyData.shownAll]
  | d :: t => by simp only [PyData.shownAll, List.map_cons, shown_all t]
theorem asc_tup {ds : List PyData} (h : ∀ d ∈ ds, Asc d.shown) : Asc (PyData.shown (.tuple ds)) := by
  have e : PyData.shown (.tuple ds) = tupleText (ds.map PyData.shown) := by
    simp only [PyData.shown, shown_all]
  rw [e]
  unfold tupleText
  refine ((asc_by (by decide +kernel)).app (fun c hc => ?_)).app ?_
  · rcases join_mem _ _ c hc with z | ⟨w, hw, z⟩
    · have : Asc (Str.ofString ", ") := asc_by (by decide +kernel)
      exact this c z
    · obtain ⟨d, hd, rfl⟩ := List.mem_map.mp hw
      exact h d hd c z
  · split <;> exact asc_by (by decide +kernel)
theorem asc_q {q : Quiz} (h : QOk q) : Asc (qD q).shown := asc_tup fun d hd => by
  simp only [List.mem_cons, List.not_mem_nil, or_false] at hd
  rcases hd with rfl | rfl
  · exact asc_jt h.jt
  · refine asc_tup fun d hd => ?_
    obtain ⟨t, ht, rfl⟩ := List.mem_map.mp hd
    obtain ⟨l1, l2, l3⟩ := trip_parts (h.tri t ht)
    refine asc_tup fun d hd => ?_
    simp only [List.mem_cons, List.not_mem_nil, or_false] at hd
    rcases hd with rfl | rfl | rfl
    · exact asc_mk l2
    · exact asc_let l1
    · exact asc_tgt l3
theorem shows_q {K : PySem.W.Frag} {H : Hp} {u : V} {q : Quiz} {Q : VK} (h : QAt K H u q) (ok : QOk q) (k : Q (.str (qD q).shown) H) : rShow K [u] H Q := by
  have f := fit_q ok
  exact ⟨u, qD q, rfl, h.sh ok, f.ok, Nat.le_trans f.dep (by decide), sl_le (Nat.le_trans f.len (by decide)), k⟩
theorem sg_of {x : V} (h : x ∈ [V.str (Str.ofString "x"), V.str (Str.ofString "xy"), V.str (Str.ofString "abz"), V.str (Str.ofString "ndor")]) : ∃ z, x = .str z ∧ 1 ≤ z.length ∧ z.length ≤ 100 ∧ ∀ c ∈ tl z, 97 ≤ c ∧ c ≤ 122 := by
  simp only [List.mem_cons, List.not_mem_nil, or_false] at h
  rcases h with rfl | rfl | rfl | rfl <;> exact ⟨_, rfl, by decide +kernel, by decide +kernel, by decide +kernel⟩
theorem tx_of {n : Nat} {x : V} {ws : List Str} (hw : (ws.all fun w => txB n w) = true) (h : x ∈ ws.map V.str) : ∃ w, x = .str w ∧ TxOk n w := by
  obtain ⟨w, hm, rfl⟩ := List.mem_map.mp h
  exact ⟨w, rfl, txB_ok (List.all_eq_true.mp hw w hm)⟩
theorem eq_bls (a b : Bool) : PyData.eqv (.list [.bool a, .bool b]) (.list [.bool a, .bool b]) = true := by cases a <;> cases b <;> decide +kernel
theorem shape_bls (a b : Bool) : SeqAt.shaped (.list [.bool a, .bool b]) = true := by cases a <;> cases b <;> decide +kernel
theorem said_cnt {q : Quiz} (h : QOk q) (k : 2 < Txt.count (said q) (Str.ofString " ")) : 2 ≤ q.2.length := by
  have h1 := h.one
  by_cases e : q.2.length = 1
  · exfalso
    obtain ⟨j, l⟩ := q
    rcases h.cases with ⟨t, e⟩ | ⟨t, u, e'⟩ | ⟨t, u, v, e'⟩
    · simp only at e
      subst e
      have : Txt.count (said (j, [t])) sp1 = 2 := count_sp (by rw [spl_said h]; rfl)
      have k : 2 < Txt.count (said (j, [t])) sp1 := k
      omega
    · simp only at e'
      subst e'
      simp at e
    · simp only at e'
      subst e'
      simp at e
  · omega
theorem sign_of {z : Str} {x : V} (hz : ((tl z).all fun c => decide (c < 128)) = true) (h : x ∈ z.cps.toList.map fun c => V.str (ch c)) : ∃ c, x = .str (ch c) ∧ TxOk 1 (ch c) := by
  obtain ⟨c, hc, rfl⟩ := List.mem_map.mp h
  have := List.all_eq_true.mp hz c hc
  exact ⟨c, rfl, .ch (by simpa using this)⟩
theorem rep_ok {n : Nat} {w : Str} (h : TxOk n w) : TxOk n (Txt.replace w (Str.ofString ";") (Str.ofString "")) := by
  have e1 : Str.ofString ";" = ⟨#[59]⟩ := by decide +kernel
  have e2 : (Str.ofString "").length = 0 := by decide +kernel
  refine ⟨?_, fun c hc => h.asc c ?_⟩
  · have := TK.replace_len w (Str.ofString ";") (Str.ofString "")
    rw [e2] at this
    have := h.len
    omega
  · rw [e1, StrLaws.replace_one] at hc
    rcases join_mem _ _ c hc with z | ⟨p, hp, z⟩
    · have e3 : tl (Str.ofString "") = [] := by decide +kernel
      rw [e3] at z
      cases z
    · have e4 := StrLaws.join_split w ⟨#[59]⟩
      have := mem_join ⟨#[59]⟩ _ p c hp z
      rw [e4] at this
      exact this
theorem sum_jl (ws : List Str) : (ws.map (·.length)).sum + ws.length * (Str.ofString " ").length = jl ws := by
  rw [sp_len, Nat.mul_one]
  rfl
theorem all_mem {P : Str → Prop} {ws : List Str} {y : Str} (h : ∀ w ∈ ws, P w) (k : P y) {vs : List Str} (hs : ∀ w ∈ vs, w ∈ ws ∨ w = y) : ∀ w ∈ vs, P w := fun w hw => by
  rcases hs w hw with z | rfl
  · exact h w z
  · exact k
theorem map_erase {α β : Type} (f : α → β) : ∀ (l : List α) (k : Nat), (l.map f).eraseIdx k = (l.eraseIdx k).map f
  | [], k => by simp
  | x :: r, 0 => rfl
  | x :: r, k + 1 => by
    rw [List.map_cons, List.eraseIdx_cons_succ, List.eraseIdx_cons_succ, List.map_cons, map_erase f r k]
end K36
/-! Trees of programs: words, texts, sizes. -/
namespace K34
open PySem PySem.Spec L2 Z K1 TL K36
inductive Deed where
  | copy (a b : Str)
  | next (a b : Str)
  | tie (a b : Str)
  | new (a : Str)
  | drop (a : Str)
inductive Tw where
  | act (d : Deed)
  | ifs (q : Quiz) (a b : List Tw)
  | whi (q : Quiz) (a : List Tw)
abbrev s_ (s : String) : Str := Str.ofString s
def DOk : Deed → Prop
  | .copy a b => isLet a = true ∧ isTgt b = true
  | .next a b => isLet a = true ∧ isLet b = true
  | .tie a b => isLet a = true ∧ isTgt b = true
  | .new a => isLet a = true
  | .drop a => isLet a = true
def QQ (q : Quiz) : Prop := QOk q ∧ (q.2.length = 1 → q.1 = s_ "and")
def OkS : Nat → Tw → Prop
  | 0, .act d => DOk d
  | 0, _ => False
  | _ + 1, .act d => DOk d
  | n + 1, .ifs q a b => QQ q ∧ (∀ t ∈ a, OkS n t) ∧ ∀ t ∈ b, OkS n t
  | n + 1, .whi q a => QQ q ∧ ∀ t ∈ a, OkS n t
def OkP (n : Nat) (ts : List Tw) : Prop := ∀ t ∈ ts, OkS n t
theorem ok_act {n : Nat} {d : Deed} (h : OkS n (.act d)) : DOk d := by
  cases n <;> exact h
theorem act_ok {n : Nat} {d : Deed} (h : DOk d) : OkS n (.act d) := by
  cases n <;> exact h
/-- what holds of acts, and of the others if it holds of their parts, holds of all -/
theorem tw_ind {P : Tw → Prop} (ha : ∀ d, DOk d → P (.act d)) (hi : ∀ q a b, QQ q → (∀ t ∈ a, P t) → (∀ t ∈ b, P t) → P (.ifs q a b)) (hw : ∀ q a, QQ q → (∀ t ∈ a, P t) → P (.whi q a)) : ∀ n t, OkS n t → P t
  | 0, .act d, h => ha d h
  | 0, .ifs _ _ _, h => h.elim
  | 0, .whi _ _, h => h.elim
  | n + 1, .act d, h => ha d h
  | n + 1, .ifs q a b, h => hi q a b h.1 (fun t ht => tw_ind ha hi hw n t (h.2.1 t ht)) fun t ht => tw_ind ha hi hw n t (h.2.2 t ht)
  | n + 1, .whi q a, h => hw q a h.1 fun t ht => tw_ind ha hi hw n t (h.2 t ht)
/-! ### how many statements -/
mutual
def cntS : Tw → Nat
  | .act _ => 1
  | .ifs _ a b => 1 + cntP a + cntP b
  | .whi _ a => 1 + cntP a
def cntP : List Tw → Nat
  | [] => 0
  | t :: r => cntS t + cntP r
end
theorem cnt_pos : ∀ t, 1 ≤ cntS t
  | .act _ => by simp [cntS]
  | .ifs _ _ _ => by simp [cntS]; omega
  | .whi _ _ => by simp [cntS]
theorem cnt_len : ∀ ts : List Tw, ts.length ≤ cntP ts
  | [] => Nat.zero_le _
  | t :: r => by
    have := cnt_len r
    have := cnt_pos t
    simp only [cntP, List.length_cons]
    omega
theorem cnt_app : ∀ a b : List Tw, cntP (a ++ b) = cntP a + cntP b
  | [], b => by simp [cntP]
  | t :: r, b => by
    rw [List.cons_append]
    simp only [cntP, cnt_app r b]
    omega
/-! ### texts, words with their semicolons, words -/
def txD : Deed → Str
  | .copy a b => a ++ s_ " = " ++ b
  | .next a b => a ++ s_ " = next " ++ b
  | .tie a b => s_ "next " ++ a ++ s_ " = " ++ b
  | .new a => a ++ s_ " = new"
  | .drop a => s_ "drop " ++ a
def tokD : Deed → List Str
  | .copy a b => [a, s_ "=", b]
  | .next a b => [a, s_ "=", s_ "next", b]
  | .tie a b => [s_ "next", a, s_ "=", b]
  | .new a => [a, s_ "=", s_ "new"]
  | .drop a => [s_ "drop", a]
def semi (ws : List Str) : List Str := ws.dropLast ++ [ws.getLastD sE ++ s_ ";"]
mutual
def txS (u : Bool) : Tw → Str
  | .act d => txD d
  | .ifs q a [] => s_ "if " ++ said q ++ s_ " { " ++ txP u a ++ s_ " }" ++ (if u = true then s_ " else { none }" else sE)
  | .ifs q a (t :: r) => s_ "if " ++ said q ++ s_ " { " ++ txP u a ++ s_ " }" ++ (s_ " else { " ++ txP u (t :: r) ++ s_ " }")
  | .whi q a => s_ "while " ++ said q ++ s_ " { " ++ txP u a ++ s_ " }"
def txP (u : Bool) : List Tw → Str
  | [] => s_ "none"
  | [t] => txS u t
  | t :: t2 :: r => txS u t ++ s_ "; " ++ txP u (t2 :: r)
end
mutual
def gS (u : Bool) : Tw → List Str
  | .act d => tokD d
  | .ifs q a [] => s_ "if" :: (wds q ++ (s_ "{" :: (gP u a ++ (s_ "}" :: (if u = true then [s_ "else", s_ "{", s_ "none", s_ "}"] else [])))))
  | .ifs q a (t :: r) => s_ "if" :: (wds q ++ (s_ "{" :: (gP u a ++ (s_ "}" :: s_ "else" :: s_ "{" :: (gP u (t :: r) ++ [s_ "}"])))))
  | .whi q a => s_ "while" :: (wds q ++ (s_ "{" :: (gP u a ++ [s_ "}"])))
def gP (u : Bool) : List Tw → List Str
  | [] => [s_ "none"]
  | [t] => gS u t
  | t :: t2 :: r => semi (gS u t) ++ gP u (t2 :: r)
end
mutual
def tokS (u : Bool) : Tw → List Str
  | .act d => tokD d
  | .ifs q a [] => s_ "if" :: (wds q ++ (s_ "{" :: (tokP u a ++ (s_ "}" :: (if u = true then [s_ "else", s_ "{", s_ "none", s_ "}"] else [])))))
  | .ifs q a (t :: r) => s_ "if" :: (wds q ++ (s_ "{" :: (tokP u a ++ (s_ "}" :: s_ "else" :: s_ "{" :: (tokP u (t :: r) ++ [s_ "}"])))))
  | .whi q a => s_ "while" :: (wds q ++ (s_ "{" :: (tokP u a ++ [s_ "}"])))
def tokP (u : Bool) : List Tw → List Str
  | [] => [s_ "none"]
  | [t] => tokS u t
  | t :: t2 :: r => tokS u t ++ (s_ ";" :: tokP u (t2 :: r))
end
/-! ### data -/
def dD : Deed → PyData
  | .copy a b => .tuple [.str (s_ "copy"), .str a, .str b]
  | .next a b => .tuple [.str (s_ "next"), .str a, .str b]
  | .tie a b => .tuple [.str (s_ "tie"), .str a, .str b]
  | .new a => .tuple [.str (s_ "new"), .str a]
  | .drop a => .tuple [.str (s_ "drop"), .str a]
mutual
def dS : Tw → PyData
  | .act d => dD d
  | .ifs q a b => .tuple [.str (s_ "if"), qD q, .tuple (dL a), .tuple (dL b)]
  | .whi q a => .tuple [.str (s_ "while"), qD q, .tuple (dL a)]
def dL : List Tw → List PyData
  | [] => []
  | t :: r => dS t :: dL r
end
theorem dL_map : ∀ ts, dL ts = ts.map dS
  | [] => by simp [dL]
  | t :: r => by simp only [dL, List.map_cons, dL_map r]
end K34
/-! Trees of programs: their texts are their words, their words are bounded. -/
namespace K34
open PySem PySem.Spec L2 Z K1 TL K36
theorem jn_cons {x : Str} : ∀ {b : List Str}, b ≠ [] → Str.join sp1 (x :: b) = x ++ sp1 ++ Str.join sp1 b
  | [], h => absurd rfl h
  | _ :: _, _ => rfl
theorem jn_app : ∀ {a b : List Str}, a ≠ [] → b ≠ [] → Str.join sp1 (a ++ b) = Str.join sp1 a ++ sp1 ++ Str.join sp1 b
  | [], _, h, _ => absurd rfl h
  | [x], b, _, hb => by
    rw [List.singleton_append, jn_cons hb]
    rfl
  | x :: y :: r, b, _, hb => by
    rw [List.cons_append, jn_cons (by simp), jn_cons (x := x) (b := y :: r) (by simp), jn_app (a := y :: r) (by simp) hb]
    simp only [Str.append_assoc]
theorem last_of : ∀ {ws : List Str}, ws ≠ [] → ∃ i w, ws = i ++ [w]
  | [], h => absurd rfl h
  | [x], _ => ⟨[], x, rfl⟩
  | x :: y :: r, _ => by
    obtain ⟨i, w, e⟩ := last_of (ws := y :: r) (by simp)
    exact ⟨x :: i, w, by rw [e]; rfl⟩
theorem semi_of (i : List Str) (w : Str) : semi (i ++ [w]) = i ++ [w ++ s_ ";"] := by
  unfold semi
  rw [List.dropLast_concat, List.getLastD_concat]
theorem jn_semi {ws : List Str} (h : ws ≠ []) : Str.join sp1 (semi ws) = Str.join sp1 ws ++ s_ ";" := by
  obtain ⟨i, w, rfl⟩ := last_of h
  rw [semi_of]
  cases i with
  | nil => rfl
  | cons x r =>
    rw [jn_app (a := x :: r) (by simp) (by simp), jn_app (a := x :: r) (b := [w]) (by simp) (by simp)]
    simp only [Str.append_assoc, Str.join]
def cs (w : Str) : List Str := if Txt.endswith w (s_ ";") = true then [cutS w none (some (-1)), s_ ";"] else [w]
def ungl (ws : List Str) : List Str := ws.flatMap cs
theorem cs_clean {w : Str} (h : 59 ∉ tl w) : cs w = [w] := by
  unfold cs
  rw [ends_no h]
  rfl
theorem cut_semi (w : Str) : cutS (w ++ s_ ";") none (some (-1)) = w := by
  apply ext_tl
  have e : tl (w ++ s_ ";") = tl w ++ [59] := by rw [tl_append]; rfl
  have l : (w ++ s_ ";").length = w.length + 1 := by rw [len_tl, e, List.length_append, ← len_tl]; rfl
  show ((tl (w ++ s_ ";")).drop (HT.sIx (w ++ s_ ";").length 0 none)).take (HT.sIx (w ++ s_ ";").length (w ++ s_ ";").length (some (-1)) - HT.sIx (w ++ s_ ";").length 0 none) = tl w
  rw [e, l]
  show ((tl w ++ [59]).drop 0).take ((-1 + ((w.length + 1 : Nat) : Int)).toNat - 0) = tl w
  rw [List.drop_zero, show (-1 + ((w.length + 1 : Nat) : Int)).toNat - 0 = w.length by omega, len_tl, List.take_left']
  rfl
theorem ends_yes (w : Str) : Txt.endswith (w ++ s_ ";") (s_ ";") = true := by
  have e : tl (w ++ s_ ";") = tl w ++ [59] := by rw [tl_append]; rfl
  have l : (w ++ s_ ";").length = w.length + 1 := by rw [len_tl, e, List.length_append, ← len_tl]; rfl
  have l1 : (s_ ";").length = 1 := by decide +kernel
  unfold Txt.endswith
  rw [l, l1, StrLaws.subAt_eq, l1]
  show (decide (0 + 1 ≤ w.length + 1) && (((tl (w ++ s_ ";")).drop (w.length + 1 - 1)).take 1 == tl (s_ ";"))) = true
  rw [e, show w.length + 1 - 1 = (tl w).length by rw [← len_tl]; omega, List.drop_left']
  · simp
    decide +kernel
  · rfl
theorem cs_semi (w : Str) : cs (w ++ s_ ";") = [w, s_ ";"] := by
  unfold cs
  rw [ends_yes, if_pos rfl, cut_semi]
theorem ungl_clean {ws : List Str} (h : ∀ w ∈ ws, 59 ∉ tl w) : ungl ws = ws := by
  induction ws with
  | nil => rfl
  | cons w r ih =>
    show cs w ++ ungl r = w :: r
    rw [cs_clean (h w (.head _)), ih fun v hv => h v (.tail _ hv)]
    rfl
theorem ungl_app (a b : List Str) : ungl (a ++ b) = ungl a ++ ungl b := List.flatMap_append
theorem ungl_cons {w : Str} {r : List Str} (h : 59 ∉ tl w) : ungl (w :: r) = w :: ungl r := by
  show cs w ++ ungl r = _
  rw [cs_clean h]
  rfl
theorem ungl_len : ∀ ws : List Str, (ungl ws).length ≤ 2 * ws.length
  | [] => Nat.le_refl _
  | w :: r => by
    have := ungl_len r
    have e : ungl (w :: r) = cs w ++ ungl r := rfl
    have : (cs w).length ≤ 2 := by unfold cs; split <;> simp
    rw [e, List.length_append, List.length_cons]
    omega
structure GS (g tk : List Str) (x : Str) : Prop where
  jn : Str.join sp1 g = x
  un : ungl g = tk
  last : ∃ i w, g = i ++ [w] ∧ 59 ∉ tl w
  fr : ∀ w ∈ g, 32 ∉ tl w
theorem GS.ne {g tk : List Str} {x : Str} (h : GS g tk x) : g ≠ [] := by
  obtain ⟨i, w, rfl, _⟩ := h.last
  simp
theorem GS.us {g tk : List Str} {x : Str} (h : GS g tk x) : ungl (semi g) = tk ++ [s_ ";"] := by
  obtain ⟨i, w, rfl, hw⟩ := h.last
  rw [semi_of, ungl_app, ← h.un, ungl_app]
  show ungl i ++ (cs (w ++ s_ ";") ++ []) = ungl i ++ (cs w ++ []) ++ [s_ ";"]
  rw [cs_semi, cs_clean hw]
  simp
theorem GS.fs {g tk : List Str} {x : Str} (h : GS g tk x) : ∀ w ∈ semi g, 32 ∉ tl w := by
  obtain ⟨i, w, rfl, hw⟩ := h.last
  rw [semi_of]
  intro v hv
  rcases List.mem_append.mp hv with hv | hv
  · exact h.fr v (List.mem_append_left _ hv)
  · rw [List.mem_singleton.mp hv, tl_append]
    intro z
    rcases List.mem_append.mp z with z | z
    · exact h.fr w (List.mem_append_right _ (.head _)) z
    · revert z
      decide +kernel
theorem gp_of (u : Bool) : ∀ ts : List Tw, (∀ t ∈ ts, GS (gS u t) (tokS u t) (txS u t)) → GS (gP u ts) (tokP u ts) (txP u ts)
  | [], _ => by
    simp only [gP, tokP, txP]
    exact ⟨rfl, ungl_clean (by decide +kernel), ⟨[], _, rfl, by decide +kernel⟩, by decide +kernel⟩
  | [t], h => by
    simp only [gP, tokP, txP]
    exact h t (.head _)
  | t :: t2 :: r, h => by
    have h1 := h t (.head _)
    have h2 := gp_of u (t2 :: r) fun t ht => h t (.tail _ ht)
    have e : txP u (t :: t2 :: r) = txS u t ++ s_ "; " ++ txP u (t2 :: r) := by simp only [txP]
    have e1 : gP u (t :: t2 :: r) = semi (gS u t) ++ gP u (t2 :: r) := by simp only [gP]
    have e2 : tokP u (t :: t2 :: r) = tokS u t ++ (s_ ";" :: tokP u (t2 :: r)) := by simp only [tokP]
    have ns : semi (gS u t) ≠ [] := by unfold semi; simp
    rw [e, e1, e2]
    refine ⟨?_, ?_, ?_, fun w hw => ?_⟩
    · rw [jn_app ns h2.ne, jn_semi h1.ne, h1.jn, h2.jn, show s_ "; " = s_ ";" ++ sp1 from by decide +kernel]
      simp only [Str.append_assoc]
    · rw [ungl_app, h1.us, h2.un]
      simp
    · obtain ⟨i, w, ei, hw⟩ := h2.last
      exact ⟨semi (gS u t) ++ i, w, by rw [ei, List.append_assoc], hw⟩
    · rcases List.mem_append.mp hw with z | z
      · exact h1.fs w z
      · exact h2.fr w z
theorem gs_all (u : Bool) : ∀ n t, OkS n t → GS (gS u t) (tokS u t) (txS u t) := by
  have fl : ∀ {w : Str}, isLet w = true → free w := free_let
  have ft : ∀ {w : Str}, isTgt w = true → free w := free_tgt
  have kk : ∀ {ws : List Str} {x : Str}, Str.join sp1 ws = x → ws ≠ [] → (∀ w ∈ ws, free w) → GS ws ws x := fun e ne f => by
    obtain ⟨i, w, rfl⟩ := last_of ne
    exact ⟨e, ungl_clean fun w hw => (f w hw).2, ⟨i, w, rfl, (f w (List.mem_append_right _ (.head _))).2⟩, fun w hw => (f w hw).1⟩
  have c1 : s_ " = " = sp1 ++ s_ "=" ++ sp1 := by decide +kernel
  have c2 : s_ " = next " = sp1 ++ s_ "=" ++ sp1 ++ s_ "next" ++ sp1 := by decide +kernel
  have c3 : s_ "next " = s_ "next" ++ sp1 := by decide +kernel
  have c4 : s_ " = new" = sp1 ++ s_ "=" ++ sp1 ++ s_ "new" := by decide +kernel
  have c5 : s_ "drop " = s_ "drop" ++ sp1 := by decide +kernel
  have c6 : s_ "if " = s_ "if" ++ sp1 := by decide +kernel
  have c7 : s_ "while " = s_ "while" ++ sp1 := by decide +kernel
  have c8 : s_ " { " = sp1 ++ s_ "{" ++ sp1 := by decide +kernel
  have c9 : s_ " }" = sp1 ++ s_ "}" := by decide +kernel
  have c10 : s_ " else { none }" = sp1 ++ s_ "else" ++ sp1 ++ s_ "{" ++ sp1 ++ s_ "none" ++ sp1 ++ s_ "}" := by decide +kernel
  have c11 : s_ " else { " = sp1 ++ s_ "else" ++ sp1 ++ s_ "{" ++ sp1 := by decide +kernel
  have f1 : free (s_ "=") := ⟨by decide +kernel, by decide +kernel⟩
  have f2 : free (s_ "next") := ⟨by decide +kernel, by decide +kernel⟩
  have f3 : free (s_ "new") := ⟨by decide +kernel, by decide +kernel⟩
  have f4 : free (s_ "drop") := ⟨by decide +kernel, by decide +kernel⟩
  have f5 : free (s_ "if") := ⟨by decide +kernel, by decide +kernel⟩
  have f6 : free (s_ "while") := ⟨by decide +kernel, by decide +kernel⟩
  have f7 : free (s_ "{") := ⟨by decide +kernel, by decide +kernel⟩
  have f8 : free (s_ "}") := ⟨by decide +kernel, by decide +kernel⟩
  have f9 : free (s_ "else") := ⟨by decide +kernel, by decide +kernel⟩
  have f10 : free (s_ "none") := ⟨by decide +kernel, by decide +kernel⟩
  have sq : ∀ {q : Quiz}, QOk q → Str.join sp1 (wds q) = said q := fun h => by rw [said_join h, join_eq]
  refine tw_ind (fun d hd => ?_) (fun q a b okk ha hb => ?_) (fun q a okk ha => ?_)
  · simp only [gS, tokS, txS]
    cases d with
    | copy a b =>
      refine kk ?_ (by simp [tokD]) fun w hw => ?_
      · simp only [tokD, txD, Str.join, c1, Str.append_assoc]
      · simp only [tokD, List.mem_cons, List.not_mem_nil, or_false] at hw
        rcases hw with rfl | rfl | rfl
        · exact fl hd.1
        · exact f1
        · exact ft hd.2
    | next a b =>
      refine kk ?_ (by simp [tokD]) fun w hw => ?_
      · simp only [tokD, txD, Str.join, c2, Str.append_assoc]
      · simp only [tokD, List.mem_cons, List.not_mem_nil, or_false] at hw
        rcases hw with rfl | rfl | rfl | rfl
        · exact fl hd.1
        · exact f1
        · exact f2
        · exact fl hd.2
    | tie a b =>
      refine kk ?_ (by simp [tokD]) fun w hw => ?_
      · simp only [tokD, txD, Str.join, c1, c3, Str.append_assoc]
      · simp only [tokD, List.mem_cons, List.not_mem_nil, or_false] at hw
        rcases hw with rfl | rfl | rfl | rfl
        · exact f2
        · exact fl hd.1
        · exact f1
        · exact ft hd.2
    | new a =>
      refine kk ?_ (by simp [tokD]) fun w hw => ?_
      · simp only [tokD, txD, Str.join, c4, Str.append_assoc]
      · simp only [tokD, List.mem_cons, List.not_mem_nil, or_false] at hw
        rcases hw with rfl | rfl | rfl
        · exact fl hd
        · exact f1
        · exact f3
    | drop a =>
      refine kk ?_ (by simp [tokD]) fun w hw => ?_
      · simp only [tokD, txD, Str.join, c5, Str.append_assoc]
      · simp only [tokD, List.mem_cons, List.not_mem_nil, or_false] at hw
        rcases hw with rfl | rfl
        · exact f4
        · exact fl hd
  · have ok := okk.1
    have hA := gp_of u a ha
    have wq := wds_ne ok
    have fq := wds_free ok
    have uq : ungl (wds q) = wds q := ungl_clean fun w hw => (fq w hw).2
    cases b with
    | nil =>
      simp only [gS, tokS, txS]
      cases u with
      | false =>
        simp only [Bool.false_eq_true, if_false]
        refine ⟨?_, ?_, ⟨s_ "if" :: (wds q ++ (s_ "{" :: gP false a)), s_ "}", by simp, f8.2⟩, fun w hw => ?_⟩
        · rw [jn_cons (by simp), jn_app wq (by simp), jn_cons (by simp), jn_app hA.ne (by simp), sq ok, hA.jn, c6, c8, c9]
          simp only [Str.join, Str.append_assoc, Str.append_empty, show sE = Str.empty from by decide +kernel]
        · rw [ungl_cons f5.2, ungl_app, uq, ungl_cons f7.2, ungl_app, hA.un, ungl_cons f8.2]
          rfl
        · simp only [List.mem_cons, List.mem_append, List.not_mem_nil, or_false] at hw
          rcases hw with rfl | z | rfl | z | rfl
          · exact f5.1
          · exact (fq w z).1
          · exact f7.1
          · exact hA.fr w z
          · exact f8.1
      | true =>
        simp only [if_true]
        refine ⟨?_, ?_, ⟨s_ "if" :: (wds q ++ (s_ "{" :: (gP true a ++ [s_ "}", s_ "else", s_ "{", s_ "none"]))), s_ "}", by simp, f8.2⟩, fun w hw => ?_⟩
        · rw [jn_cons (by simp), jn_app wq (by simp), jn_cons (by simp), jn_app hA.ne (by simp), sq ok, hA.jn, c6, c8, c9, c10]
          simp only [Str.join, Str.append_assoc]
        · rw [ungl_cons f5.2, ungl_app, uq, ungl_cons f7.2, ungl_app, hA.un, ungl_cons f8.2, ungl_cons f9.2, ungl_cons f7.2, ungl_cons f10.2, ungl_cons f8.2]
          rfl
        · simp only [List.mem_cons, List.mem_append, List.not_mem_nil, or_false] at hw
          rcases hw with rfl | z | rfl | z | rfl | rfl | rfl | rfl | rfl
          · exact f5.1
          · exact (fq w z).1
          · exact f7.1
          · exact hA.fr w z
          · exact f8.1
          · exact f9.1
          · exact f7.1
          · exact f10.1
          · exact f8.1
    | cons t r =>
      have hB := gp_of u (t :: r) hb
      simp only [gS, tokS, txS]
      refine ⟨?_, ?_, ⟨s_ "if" :: (wds q ++ (s_ "{" :: (gP u a ++ (s_ "}" :: s_ "else" :: s_ "{" :: gP u (t :: r))))), s_ "}", by simp, f8.2⟩, fun w hw => ?_⟩
      · rw [jn_cons (by simp), jn_app wq (by simp), jn_cons (by simp), jn_app hA.ne (by simp), jn_cons (by simp), jn_cons (by simp), jn_cons (by simp), jn_app hB.ne (by simp), sq ok, hA.jn, hB.jn, c6, c8, c9, c11]
        simp only [Str.join, Str.append_assoc]
      · rw [ungl_cons f5.2, ungl_app, uq, ungl_cons f7.2, ungl_app, hA.un, ungl_cons f8.2, ungl_cons f9.2, ungl_cons f7.2, ungl_app, hB.un, ungl_cons f8.2]
        rfl
      · simp only [List.mem_cons, List.mem_append, List.not_mem_nil, or_false] at hw
        rcases hw with rfl | z | rfl | z | rfl | rfl | rfl | z | rfl
        · exact f5.1
        · exact (fq w z).1
        · exact f7.1
        · exact hA.fr w z
        · exact f8.1
        · exact f9.1
        · exact f7.1
        · exact hB.fr w z
        · exact f8.1
  · have ok := okk.1
    have hA := gp_of u a ha
    have wq := wds_ne ok
    have fq := wds_free ok
    have uq : ungl (wds q) = wds q := ungl_clean fun w hw => (fq w hw).2
    simp only [gS, tokS, txS]
    refine ⟨?_, ?_, ⟨s_ "while" :: (wds q ++ (s_ "{" :: gP u a)), s_ "}", by simp, f8.2⟩, fun w hw => ?_⟩
    · rw [jn_cons (by simp), jn_app wq (by simp), jn_cons (by simp), jn_app hA.ne (by simp), sq ok, hA.jn, c7, c8, c9]
      simp only [Str.join, Str.append_assoc]
    · rw [ungl_cons f6.2, ungl_app, uq, ungl_cons f7.2, ungl_app, hA.un, ungl_cons f8.2]
      rfl
    · simp only [List.mem_cons, List.mem_append, List.not_mem_nil, or_false] at hw
      rcases hw with rfl | z | rfl | z | rfl
      · exact f6.1
      · exact (fq w z).1
      · exact f7.1
      · exact hA.fr w z
      · exact f8.1
theorem gp_all {u : Bool} {n : Nat} {ts : List Tw} (h : OkP n ts) : GS (gP u ts) (tokP u ts) (txP u ts) := gp_of u ts fun t ht => gs_all u n t (h t ht)
theorem spl_tx {u : Bool} {n : Nat} {ts : List Tw} (h : OkP n ts) : Txt.split (txP u ts) (s_ " ") = gP u ts := by
  have g := gp_all (u := u) h
  have e : txP u ts = Txt.join sp1 (gP u ts) := by rw [join_eq, g.jn]
  rw [e]
  exact TL.split_join (s := 32) (S := []) (by decide +kernel) (by decide +kernel) g.ne g.fr
end K34
/-! Trees of programs: how long their texts, how deep and long what they show; trees in the heap. -/
namespace K34
open PySem PySem.Spec L2 Z K1 TL K36
theorem s_ok (s : String) (n : Nat) (h : txB n (s_ s) = true) : TxOk n (s_ s) := txB_ok h
theorem tx_list (u : Bool) : ∀ ts : List Tw, (∀ t ∈ ts, TxOk (80 * cntS t - 2) (txS u t)) → TxOk (80 * cntP ts + 4) (txP u ts) ∧ (ts ≠ [] → TxOk (80 * cntP ts - 2) (txP u ts))
  | [], _ => ⟨by simp only [txP, cntP]; exact txB_ok (by decide +kernel), fun h => absurd rfl h⟩
  | [t], h => by
    have := h t (.head _)
    simp only [txP, cntP]
    exact ⟨this.mono (by omega), fun _ => this.mono (by omega)⟩
  | t :: t2 :: r, h => by
    have h1 := h t (.head _)
    have h2 := (tx_list u (t2 :: r) fun t ht => h t (.tail _ ht)).2 (by simp)
    have e : txP u (t :: t2 :: r) = txS u t ++ s_ "; " ++ txP u (t2 :: r) := by simp only [txP]
    have p1 := cnt_pos t
    have p2 := cnt_pos t2
    have e2 : cntP (t :: t2 :: r) = cntS t + cntP (t2 :: r) := by simp only [cntP]
    have e3 : cntS t2 ≤ cntP (t2 :: r) := by simp only [cntP]; omega
    rw [e, e2]
    have k := (h1.app (s_ok "; " 2 (by decide +kernel))).app h2
    exact ⟨k.mono (by omega), fun _ => k.mono (by omega)⟩
theorem tx_all (u : Bool) : ∀ n t, OkS n t → TxOk (80 * cntS t - 2) (txS u t) := by
  refine tw_ind (fun d hd => ?_) (fun q a b okk ha hb => ?_) (fun q a okk ha => ?_)
  · simp only [txS, cntS]
    cases d with
    | copy a b => exact (((tx_let hd.1).app (s_ok " = " 3 (by decide +kernel))).app (tx_tgt hd.2)).mono (by decide)
    | next a b => exact (((tx_let hd.1).app (s_ok " = next " 8 (by decide +kernel))).app (tx_let hd.2)).mono (by decide)
    | tie a b => exact ((((s_ok "next " 5 (by decide +kernel)).app (tx_let hd.1)).app (s_ok " = " 3 (by decide +kernel))).app (tx_tgt hd.2)).mono (by decide)
    | new a => exact ((tx_let hd).app (s_ok " = new" 6 (by decide +kernel))).mono (by decide)
    | drop a => exact ((s_ok "drop " 5 (by decide +kernel)).app (tx_let hd)).mono (by decide)
  · have hA := (tx_list u a ha).1
    have hB := (tx_list u b hb).1
    have q1 := said_ok okk.1
    have k := (((s_ok "if " 3 (by decide +kernel)).app q1).app (s_ok " { " 3 (by decide +kernel))).app hA |>.app (s_ok " }" 2 (by decide +kernel))
    cases b with
    | nil =>
      simp only [txS, cntS, cntP]
      cases u with
      | false => exact (k.app (s_ok "" 0 (by decide +kernel))).mono (by omega)
      | true => exact (k.app (s_ok " else { none }" 14 (by decide +kernel))).mono (by omega)
    | cons t r =>
      simp only [txS]
      have e : cntS (.ifs q a (t :: r)) = 1 + cntP a + cntP (t :: r) := by simp only [cntS]
      rw [e]
      exact (k.app (((s_ok " else { " 8 (by decide +kernel)).app hB).app (s_ok " }" 2 (by decide +kernel)))).mono (by omega)
  · have hA := (tx_list u a ha).1
    have q1 := said_ok okk.1
    simp only [txS, cntS]
    exact ((((s_ok "while " 6 (by decide +kernel)).app q1).app (s_ok " { " 3 (by decide +kernel))).app hA |>.app (s_ok " }" 2 (by decide +kernel))).mono (by omega)
theorem tx_prog {u : Bool} {n : Nat} {ts : List Tw} (h : OkP n ts) : TxOk (80 * cntP ts + 4) (txP u ts) := (tx_list u ts fun t ht => tx_all u n t (h t ht)).1
/-! ### data -/
mutual
def noL : PyData → Bool
  | .list _ => false
  | .dict _ => false
  | .tuple ds => noLA ds
  | .none => true
  | .bool _ => true
  | .int _ => true
  | .str _ => true
def noLA : List PyData → Bool
  | [] => true
  | d :: ds => noL d && noLA ds
end
mutual
theorem Dp.imm {K : PySem.W.Frag} {H H' : Hp} (e : Imm H H') : ∀ (d : PyData) (v : V), noL d = true → Dp K H v d → Dp K H' v d
  | .none, _, _, h => by cases h; exact .non
  | .bool b, _, _, h => by cases h; exact .bl b
  | .int i, _, _, h => by cases h; exact .int i
  | .str x, _, _, h => by cases h; exact .str x
  | .list _, _, n, _ => by simp [noL] at n
  | .dict _, _, n, _ => by simp [noL] at n
  | .tuple ds, v, n, h => by
    cases h with
    | tup a b => exact .tup (SqT.imm e a) (DpAll.imm e ds _ (by simpa only [noL] using n) b)
theorem DpAll.imm {K : PySem.W.Frag} {H H' : Hp} (e : Imm H H') : ∀ (ds : List PyData) (vs : List V), noLA ds = true → DpAll K H vs ds → DpAll K H' vs ds
  | [], _, _, h => by cases h; exact .nil
  | d :: ds, _, n, h => by
    simp only [noLA, Bool.and_eq_true] at n
    cases h with
    | cons a b => exact .cons (Dp.imm e d _ n.1 a) (DpAll.imm e ds _ n.2 b)
end
structure DG (d : PyData) (n m : Nat) : Prop where
  fit : Fit d n m
  lay : d.canLay0 = true
  asc : Asc d.shown
  nl : noL d = true
structure DL (ds : List PyData) (n m : Nat) : Prop where
  sum : ((PyData.shownAll ds).map (·.length)).sum + 2 * ds.length ≤ n
  len : (PyData.shownAll ds).length = ds.length
  ok : PyData.showableAll ds = true
  nod : PyData.hasDictAll ds = false
  dep : PyData.depthAll ds ≤ m
  lay : PyData.canLayAll0 ds = true
  asc : ∀ d ∈ ds, Asc d.shown
  nl : noLA ds = true
theorem dl_nil {m : Nat} : DL [] 0 m := ⟨by simp [PyData.shownAll], rfl, rfl, rfl, by simp [PyData.depthAll], rfl, fun d h => (by cases h), rfl⟩
theorem dl_cons {d : PyData} {ds : List PyData} {a b m : Nat} (h : DG d a m) (t : DL ds b m) : DL (d :: ds) (a + 2 + b) m := by
  have q1 := h.fit.len
  have q2 := h.fit.dep
  have t1 := t.sum
  have t2 := t.dep
  refine ⟨?_, ?_, ?_, ?_, ?_, ?_, fun x hx => ?_, ?_⟩
  · simp only [PyData.shownAll, List.map_cons, List.sum_cons, List.length_cons]
    omega
  · simp only [PyData.shownAll, List.length_cons, t.len]
  · simp only [PyData.showableAll, h.fit.ok, t.ok, Bool.and_true]
  · simp only [PyData.hasDictAll, h.fit.nod, t.nod, Bool.or_false]
  · simp only [PyData.depthAll]
    omega
  · simp only [PyData.canLayAll0, h.lay, t.lay, Bool.and_true]
  · rcases List.mem_cons.mp hx with rfl | hx
    · exact h.asc
    · exact t.asc x hx
  · simp only [noLA, h.nl, t.nl, Bool.and_true]
theorem DL.mono {ds : List PyData} {n m n' m' : Nat} (h : DL ds n m) (a : n ≤ n') (b : m ≤ m') : DL ds n' m' := ⟨Nat.le_trans h.sum a, h.len, h.ok, h.nod, Nat.le_trans h.dep b, h.lay, h.asc, h.nl⟩
theorem DG.mono {d : PyData} {n m n' m' : Nat} (h : DG d n m) (a : n ≤ n') (b : m ≤ m') : DG d n' m' := ⟨fit_le h.fit a b, h.lay, h.asc, h.nl⟩
theorem dg_tup {ds : List PyData} {n m : Nat} (h : DL ds n m) : DG (.tuple ds) (n + 3) (m + 1) := by
  have l := tup_len (PyData.shownAll ds)
  have h1 := h.sum
  have h2 := h.dep
  rw [h.len] at l
  refine ⟨⟨?_, ?_, ?_, ?_⟩, ?_, asc_tup h.asc, ?_⟩
  · simp only [PyData.shown]
    omega
  · simp only [PyData.showable, h.ok]
  · simp only [PyData.hasDict, h.nod]
  · simp only [PyData.depth]
    omega
  · simp only [PyData.canLay0, h.lay]
  · simp only [noL, h.nl]
theorem dg_str {x : Str} {k : Nat} (h : TxOk k x) (a : Asc (PyData.shown (.str x))) : DG (.str x) (10 * k + 2) 0 := ⟨fit_str (n := k) h.small h.len, h.strOk, a, rfl⟩
theorem dg_let {w : Str} (h : isLet w = true) : DG (.str w) 32 0 := (dg_str (tx_let h) (asc_let h)).mono (by decide) (by decide)
theorem dg_tgt {w : Str} (h : isTgt w = true) : DG (.str w) 32 0 := (dg_str (tx_tgt h) (asc_tgt h)).mono (by decide) (by decide)
theorem dg_wd (s : String) (h : txB 5 (s_ s) = true) (a : ((tl (PyData.shown (.str (s_ s)))).all fun c => decide (c < 128)) = true) : DG (.str (s_ s)) 52 0 := (dg_str (txB_ok h) (asc_by a)).mono (by decide) (by decide)
theorem dg_q {q : Quiz} (h : QOk q) : DG (qD q) 700 3 := by
  have tri : ∀ t, trip t.2.1 t.1 t.2.2 = true → (tD t).canLay0 = true ∧ noL (tD t) = true := fun t ht => by
    obtain ⟨l1, l2, l3⟩ := trip_parts ht
    exact ⟨by simp [tD, PyData.canLay0, PyData.canLayAll0, (tx_let l1).strOk, (tx_mk l2).strOk, (tx_tgt l3).strOk], by simp [tD, noL, noLA]⟩
  have all : ∀ l : List Tri, (∀ t ∈ l, trip t.2.1 t.1 t.2.2 = true) → PyData.canLayAll0 (l.map tD) = true ∧ noLA (l.map tD) = true := by
    intro l
    induction l with
    | nil => exact fun _ => ⟨rfl, rfl⟩
    | cons t r ih =>
      intro k
      obtain ⟨a, b⟩ := ih fun x hx => k x (.tail _ hx)
      obtain ⟨c, d⟩ := tri t (k t (.head _))
      exact ⟨by simp only [List.map_cons, PyData.canLayAll0, a, c, Bool.and_true], by simp only [List.map_cons, noLA, b, d, Bool.and_true]⟩
  obtain ⟨a, b⟩ := all q.2 h.tri
  refine ⟨fit_q h, ?_, asc_q h, ?_⟩
  · simp only [qD, PyData.canLay0, PyData.canLayAll0, a, (tx_jt h.jt).strOk, Bool.and_true]
  · simp only [qD, noL, noLA, b, Bool.and_true]
theorem dg_act {d : Deed} (h : DOk d) : DG (dD d) 200 1 := by
  cases d with
  | copy a b => exact (dg_tup (dl_cons (dg_wd "copy" (by decide +kernel) (by decide +kernel)) (dl_cons ((dg_let h.1).mono (Nat.le_refl _) (by decide)) (dl_cons ((dg_tgt h.2).mono (Nat.le_refl _) (by decide)) dl_nil)))).mono (by decide) (by decide)
  | next a b => exact (dg_tup (dl_cons (dg_wd "next" (by decide +kernel) (by decide +kernel)) (dl_cons ((dg_let h.1).mono (Nat.le_refl _) (by decide)) (dl_cons ((dg_let h.2).mono (Nat.le_refl _) (by decide)) dl_nil)))).mono (by decide) (by decide)
  | tie a b => exact (dg_tup (dl_cons (dg_wd "tie" (by decide +kernel) (by decide +kernel)) (dl_cons ((dg_let h.1).mono (Nat.le_refl _) (by decide)) (dl_cons ((dg_tgt h.2).mono (Nat.le_refl _) (by decide)) dl_nil)))).mono (by decide) (by decide)
  | new a => exact (dg_tup (dl_cons (dg_wd "new" (by decide +kernel) (by decide +kernel)) (dl_cons ((dg_let (show isLet a = true from h)).mono (Nat.le_refl _) (by decide)) dl_nil))).mono (by decide) (by decide)
  | drop a => exact (dg_tup (dl_cons (dg_wd "drop" (by decide +kernel) (by decide +kernel)) (dl_cons ((dg_let (show isLet a = true from h)).mono (Nat.le_refl _) (by decide)) dl_nil))).mono (by decide) (by decide)
theorem dl_map {n m : Nat} : ∀ ts : List Tw, (∀ t ∈ ts, DG (dS t) (900 * cntS t - 2) m) → DL (dL ts) (900 * cntP ts) m
  | [], _ => by simp only [dL, cntP]; exact dl_nil
  | t :: r, h => by
    have h1 := h t (.head _)
    have p := cnt_pos t
    simp only [dL, cntP]
    exact (dl_cons h1 (dl_map (n := n) r fun t ht => h t (.tail _ ht))).mono (by omega) (Nat.le_refl _)
theorem dg_all : ∀ n t, OkS n t → DG (dS t) (900 * cntS t - 2) (4 + 2 * n)
  | 0, .act d, h => by
    simp only [dS, cntS]
    exact (dg_act h).mono (by decide) (by decide)
  | 0, .ifs _ _ _, h => h.elim
  | 0, .whi _ _, h => h.elim
  | n + 1, .act d, h => by
    simp only [dS, cntS]
    exact (dg_act h).mono (by decide) (by omega)
  | n + 1, .ifs q a b, h => by
    have hA := dg_tup (dl_map (n := n) a fun t ht => dg_all n t (h.2.1 t ht))
    have hB := dg_tup (dl_map (n := n) b fun t ht => dg_all n t (h.2.2 t ht))
    simp only [dS, cntS]
    exact (dg_tup (dl_cons ((dg_wd "if" (by decide +kernel) (by decide +kernel)).mono (Nat.le_refl _) (Nat.zero_le (4 + 2 * n + 1))) (dl_cons ((dg_q h.1.1).mono (Nat.le_refl _) (by omega)) (dl_cons hA (dl_cons hB dl_nil))))).mono (by omega) (by omega)
  | n + 1, .whi q a, h => by
    have hA := dg_tup (dl_map (n := n) a fun t ht => dg_all n t (h.2 t ht))
    simp only [dS, cntS]
    exact (dg_tup (dl_cons ((dg_wd "while" (by decide +kernel) (by decide +kernel)).mono (Nat.le_refl _) (Nat.zero_le (4 + 2 * n + 1))) (dl_cons ((dg_q h.1.1).mono (Nat.le_refl _) (by omega)) (dl_cons hA dl_nil)))).mono (by omega) (by omega)
theorem dg_prog {n : Nat} {ts : List Tw} (h : OkP n ts) : DG (.tuple (dL ts)) (900 * cntP ts + 3) (5 + 2 * n) := (dg_tup (dl_map (n := n) ts fun t ht => dg_all n t (h t ht))).mono (Nat.le_refl _) (by omega)
theorem DG.shaped {d : PyData} {n m : Nat} (h : DG d n m) (k : m ≤ 50) : SeqAt.shaped d = true := by
  unfold SeqAt.shaped
  rw [h.lay]
  have := h.fit.dep
  simp only [Bool.true_and, decide_eq_true_eq]
  omega
/-! ### trees in the heap -/
section
variable {K : PySem.W.Frag} {H H' : Hp} {v : V}
theorem dp_tup {ds : List PyData} (h : Dp K H v (.tuple ds)) : ∃ a xs, v = .ref a ∧ SqT K H a xs ∧ DpAll K H xs ds := by
  cases h with
  | tup a b => exact ⟨_, _, rfl, a, b⟩
theorem dp_str {x : Str} (h : Dp K H v (.str x)) : v = .str x := by
  cases h
  rfl
theorem da_cons {vs : List V} {d : PyData} {ds : List PyData} (h : DpAll K H vs (d :: ds)) : ∃ x r, vs = x :: r ∧ Dp K H x d ∧ DpAll K H r ds := by
  cases h with
  | cons a b => exact ⟨_, _, rfl, a, b⟩
theorem da_nil {vs : List V} (h : DpAll K H vs []) : vs = [] := by
  cases h
  rfl
theorem da_len : ∀ {ds : List PyData} {vs : List V}, DpAll K H vs ds → vs.length = ds.length
  | [], _, h => by rw [da_nil h]; rfl
  | d :: ds, _, h => by
    obtain ⟨x, r, rfl, _, t⟩ := da_cons h
    rw [List.length_cons, List.length_cons, da_len t]
theorem dp_one {d : PyData} {x : V} (h : Dp K H v (.tuple [d])) : ∃ a x, v = .ref a ∧ SqT K H a [x] ∧ Dp K H x d := by
  obtain ⟨a, xs, rfl, s, t⟩ := dp_tup h
  obtain ⟨x, r, rfl, h1, t⟩ := da_cons t
  rw [da_nil t] at s
  exact ⟨a, x, rfl, s, h1⟩
theorem dp_two {d e : PyData} (h : Dp K H v (.tuple [d, e])) : ∃ a x y, v = .ref a ∧ SqT K H a [x, y] ∧ Dp K H x d ∧ Dp K H y e := by
  obtain ⟨a, xs, rfl, s, t⟩ := dp_tup h
  obtain ⟨x, r, rfl, h1, t⟩ := da_cons t
  obtain ⟨y, r, rfl, h2, t⟩ := da_cons t
  rw [da_nil t] at s
  exact ⟨a, x, y, rfl, s, h1, h2⟩
theorem dp_three {d e f : PyData} (h : Dp K H v (.tuple [d, e, f])) : ∃ a x y z, v = .ref a ∧ SqT K H a [x, y, z] ∧ Dp K H x d ∧ Dp K H y e ∧ Dp K H z f := by
  obtain ⟨a, xs, rfl, s, t⟩ := dp_tup h
  obtain ⟨x, r, rfl, h1, t⟩ := da_cons t
  obtain ⟨y, r, rfl, h2, t⟩ := da_cons t
  obtain ⟨z, r, rfl, h3, t⟩ := da_cons t
  rw [da_nil t] at s
  exact ⟨a, x, y, z, rfl, s, h1, h2, h3⟩
theorem dp_four {d e f g : PyData} (h : Dp K H v (.tuple [d, e, f, g])) : ∃ a x y z u, v = .ref a ∧ SqT K H a [x, y, z, u] ∧ Dp K H x d ∧ Dp K H y e ∧ Dp K H z f ∧ Dp K H u g := by
  obtain ⟨a, xs, rfl, s, t⟩ := dp_tup h
  obtain ⟨x, r, rfl, h1, t⟩ := da_cons t
  obtain ⟨y, r, rfl, h2, t⟩ := da_cons t
  obtain ⟨z, r, rfl, h3, t⟩ := da_cons t
  obtain ⟨u, r, rfl, h4, t⟩ := da_cons t
  rw [da_nil t] at s
  exact ⟨a, x, y, z, u, rfl, s, h1, h2, h3, h4⟩
theorem da_at : ∀ {ts : List Tw} {vs : List V} {i : Nat} {x : V}, DpAll K H vs (dL ts) → vs[i]? = some x → ∃ t, ts[i]? = some t ∧ Dp K H x (dS t)
  | [], _, i, x, h, e => by
    simp only [dL] at h
    rw [da_nil h] at e
    simp at e
  | t :: r, _, i, x, h, e => by
    simp only [dL] at h
    obtain ⟨y, vs, rfl, h1, h2⟩ := da_cons h
    cases i with
    | zero =>
      simp at e
      subst e
      exact ⟨t, rfl, h1⟩
    | succ i => exact da_at (ts := r) (i := i) h2 (by simpa using e)
theorem da_dL_len {ts : List Tw} {vs : List V} (h : DpAll K H vs (dL ts)) : vs.length = ts.length := by
  rw [da_len h, dL_map, List.length_map]
theorem da_snoc : ∀ {ds : List PyData} {vs : List V} {x : V} {d : PyData}, DpAll K H vs ds → Dp K H x d → DpAll K H (vs ++ [x]) (ds ++ [d])
  | [], _, x, d, h, k => by rw [da_nil h]; exact .cons k .nil
  | e :: ds, _, x, d, h, k => by
    obtain ⟨y, r, rfl, h1, h2⟩ := da_cons h
    exact .cons h1 (da_snoc h2 k)
theorem da_app : ∀ {ds es : List PyData} {vs us : List V}, DpAll K H vs ds → DpAll K H us es → DpAll K H (vs ++ us) (ds ++ es)
  | [], es, _, us, h, k => by rw [da_nil h]; exact k
  | e :: ds, es, _, us, h, k => by
    obtain ⟨y, r, rfl, h1, h2⟩ := da_cons h
    exact .cons h1 (da_app h2 k)
theorem dL_app (a b : List Tw) : dL (a ++ b) = dL a ++ dL b := by rw [dL_map, dL_map, dL_map, List.map_append]
/-- a statement, a list of them -/
def SAt (K : PySem.W.Frag) (H : Hp) (v : V) (t : Tw) : Prop := Dp K H v (dS t)
def PAt (K : PySem.W.Frag) (H : Hp) (v : V) (ts : List Tw) : Prop := Dp K H v (.tuple (dL ts))
theorem SAt.imm {t : Tw} {n : Nat} (ok : OkS n t) (e : Imm H H') (h : SAt K H v t) : SAt K H' v t := Dp.imm e _ _ (dg_all n t ok).nl h
theorem PAt.imm {ts : List Tw} {n : Nat} (ok : OkP n ts) (e : Imm H H') (h : PAt K H v ts) : PAt K H' v ts := Dp.imm e _ _ (dg_prog ok).nl h
theorem da_imm {vs : List V} {ts : List Tw} {n : Nat} (ok : OkP n ts) (e : Imm H H') (h : DpAll K H vs (dL ts)) : DpAll K H' vs (dL ts) := DpAll.imm e _ _ (dl_map (n := n) ts fun t ht => dg_all n t (ok t ht)).nl h
theorem q_of {q : Quiz} (h : Dp K H v (qD q)) : QAt K H v q := by
  obtain ⟨a, x, y, rfl, s, h1, h2⟩ := dp_two h
  obtain ⟨b, ys, rfl, s2, h3⟩ := dp_tup h2
  have go : ∀ {l : List Tri} {ys : List V}, DpAll K H ys (l.map tD) → ∃ rs : List Addr, ys = rs.map V.ref ∧ Trs K H rs l := by
    intro l
    induction l with
    | nil => exact fun h => ⟨[], da_nil h, .nil⟩
    | cons t r ih =>
      intro ys h
      obtain ⟨z, zs, rfl, k1, k2⟩ := da_cons h
      obtain ⟨c, x1, x2, x3, rfl, s3, e1, e2, e3⟩ := dp_three k1
      obtain ⟨rs, rfl, k3⟩ := ih k2
      rw [dp_str e1, dp_str e2, dp_str e3] at s3
      exact ⟨c :: rs, rfl, .cons s3 k3⟩
  obtain ⟨rs, rfl, k⟩ := go h3
  rw [dp_str h1] at s
  exact ⟨a, b, rs, rfl, s, s2, k⟩
theorem PAt.sh {ts : List Tw} {n : Nat} (ok : OkP n ts) (h : PAt K H v ts) : Sh K H v (.tuple (dL ts)) := .of h (dg_prog ok).fit.nod
theorem ok_mono : ∀ {n : Nat} {t : Tw}, OkS n t → OkS (n + 1) t
  | 0, .act _, h => h
  | n + 1, .act _, h => h
  | 0, .ifs _ _ _, h => h.elim
  | 0, .whi _ _, h => h.elim
  | n + 1, .ifs _ _ _, h => ⟨h.1, fun t ht => ok_mono (h.2.1 t ht), fun t ht => ok_mono (h.2.2 t ht)⟩
  | n + 1, .whi _ _, h => ⟨h.1, fun t ht => ok_mono (h.2 t ht)⟩
theorem ok_le {n m : Nat} {t : Tw} (h : OkS n t) (k : n ≤ m) : OkS m t := by
  induction m with
  | zero => rwa [show n = 0 by omega] at h
  | succ m ih =>
    by_cases e : n = m + 1
    · rwa [e] at h
    · exact ok_mono (ih (by omega))
theorem eqv_prog {n : Nat} {ts : List Tw} (ok : OkP n ts) : PyData.eqv (.tuple (dL ts)) (.tuple (dL ts)) = true := PySem.SeqAt.eqv_refl _ (dg_prog ok).lay
theorem eqv_emp (ts : List Tw) : PyData.eqv (.tuple (dL ts)) (.tuple []) = decide (ts = []) := by
  cases ts with
  | nil => simp [dL, PyData.eqv, PyData.eqvAll]
  | cons t r => simp [dL, PyData.eqv, PyData.eqvAll]
theorem shaped_emp : SeqAt.shaped (.tuple []) = true := by decide +kernel
theorem shows_p {n : Nat} {ts : List Tw} {Q : VK} (h : PAt K H v ts) (ok : OkP n ts) (nn : n ≤ 4) (c : cntP ts ≤ 60) (k : Q (.str (PyData.shown (.tuple (dL ts)))) H) : rShow K [v] H Q := by
  have f := (dg_prog ok).fit
  have := f.len
  have := f.dep
  exact ⟨v, _, rfl, h.sh ok, f.ok, by omega, sl_le (by omega), k⟩
end
end K34
/-! Trees of programs: promises. -/
namespace K34
open PySem PySem.Spec L2 Z K1 TL K36
/-! ### a deed of two to four words -/
def deedIn : List Str → Option Deed
  | [a, b] => if a = s_ "drop" ∧ isLet b = true then some (.drop b) else none
  | [a, m, b] => if isLet a = true ∧ m = s_ "=" then (if b = s_ "new" then some (.new a) else if isTgt b = true then some (.copy a b) else none) else none
  | [a, m, x, b] => if isLet a = true ∧ m = s_ "=" ∧ x = s_ "next" ∧ isLet b = true then some (.next a b) else if a = s_ "next" ∧ isLet m = true ∧ x = s_ "=" ∧ isTgt b = true then some (.tie m b) else none
  | _ => none
theorem let_wd (s : String) (h : (s_ s).length ≠ 1) : isLet (s_ s) = false := let_no h
theorem ln_drop {a : Str} (h : isLet a = true) : a ≠ s_ "drop" := let_ne h (by decide +kernel)
theorem ln_next {a : Str} (h : isLet a = true) : a ≠ s_ "next" := let_ne h (by decide +kernel)
theorem lt_next : isLet (s_ "next") = false := let_no (by decide +kernel)
theorem lt_drop : isLet (s_ "drop") = false := let_no (by decide +kernel)
theorem tg_next : isTgt (s_ "next") = false := by decide +kernel
theorem ne_nn : s_ "next" ≠ s_ "new" := by decide +kernel
theorem ne_nd : s_ "next" ≠ s_ "drop" := by decide +kernel
theorem deed_tok {d : Deed} (h : DOk d) {m : Nat} (h2 : 2 ≤ m) (hm : m ≤ (tokD d).length) : deedIn ((tokD d).take m) = if m = (tokD d).length then some d else none := by
  cases d with
  | drop a =>
    have : m = 2 := by simp [tokD] at hm; omega
    subst this
    have h : isLet a = true := h
    simp [tokD, deedIn, h]
  | new a =>
    have h : isLet a = true := h
    have : m = 2 ∨ m = 3 := by simp [tokD] at hm; omega
    rcases this with rfl | rfl
    · simp [tokD, deedIn, ln_drop h]
    · simp [tokD, deedIn, h]
  | copy a b =>
    have : m = 2 ∨ m = 3 := by simp [tokD] at hm; omega
    rcases this with rfl | rfl
    · simp [tokD, deedIn, ln_drop h.1]
    · simp [tokD, deedIn, h.1, h.2, tgt_ne h.2]
  | next a b =>
    have : m = 2 ∨ m = 3 ∨ m = 4 := by simp [tokD] at hm; omega
    rcases this with rfl | rfl | rfl
    · simp [tokD, deedIn, ln_drop h.1]
    · simp [tokD, deedIn, h.1, tg_next, ne_nn]
    · simp [tokD, deedIn, h.1, h.2]
  | tie a b =>
    have : m = 2 ∨ m = 3 ∨ m = 4 := by simp [tokD] at hm; omega
    rcases this with rfl | rfl | rfl
    · simp [tokD, deedIn, ne_nd]
    · simp [tokD, deedIn, lt_next]
    · simp [tokD, deedIn, lt_next, h.1, h.2]
theorem deed_ok {ws : List Str} {d : Deed} (h : deedIn ws = some d) : DOk d := by
  unfold deedIn at h
  split at h
  · split at h
    · rename_i k
      cases h
      exact k.2
    · cases h
  · split at h
    · rename_i k
      split at h
      · cases h
        exact k.1
      · split at h
        · rename_i k2
          cases h
          exact ⟨k.1, k2⟩
        · cases h
    · cases h
  · split at h
    · rename_i k
      cases h
      exact ⟨k.1, k.2.2.2⟩
    · split at h
      · rename_i k
        cases h
        exact ⟨k.2.1, k.2.2.2⟩
      · cases h
  · cases h
theorem tok_len (d : Deed) : 2 ≤ (tokD d).length ∧ (tokD d).length ≤ 4 := by cases d <;> simp [tokD]
/-! ### words at a place -/
theorem dr_app {W a b : List Str} {p : Nat} (h : W.drop p = a ++ b) : W.drop (p + a.length) = b := by
  rw [← List.drop_drop, h, List.drop_left]
theorem dr_one {W b : List Str} {p : Nat} {x : Str} (h : W.drop p = x :: b) : W.drop (p + 1) = b := dr_app (a := [x]) h
theorem dr_at {W b : List Str} {p : Nat} {x : Str} (h : W.drop p = x :: b) : W[p]? = some x := by
  have : (W.drop p)[0]? = some x := by rw [h]; rfl
  rwa [List.getElem?_drop, Nat.add_zero] at this
theorem dr_lt {W b : List Str} {p : Nat} {x : Str} (h : W.drop p = x :: b) : p < W.length := by
  have := dr_at h
  exact (List.getElem?_eq_some_iff.mp this).1
theorem cut_at (W : List Str) (p k : Nat) : cutV (W.map V.str) (some (p : Int)) (some ((p : Int) + (k : Int))) = ((W.drop p).take k).map V.str := by
  rw [show (p : Int) + (k : Int) = ((p + k : Nat) : Int) by omega, cut_nat, show p + k - p = k by omega, List.map_take, List.map_drop]
theorem cut_one (W : List Str) (p : Nat) : cutV (W.map V.str) (some (p : Int)) (some ((p : Int) + 1)) = ((W.drop p).take 1).map V.str := cut_at W p 1
/-- what follows a statement, what follows statements -/
def End1 (r : List Str) : Prop := r = [] ∨ ∃ x s, r = x :: s ∧ (x = s_ ";" ∨ x = s_ "}")
def End2 (r : List Str) : Prop := r = [] ∨ ∃ s, r = s_ "}" :: s
theorem End2.one {r : List Str} (h : End2 r) : End1 r := h.imp id fun ⟨s, e⟩ => ⟨_, s, e, .inr rfl⟩
section
variable (K : PySem.W.Frag)
def p_pre (p : Nat → Sp) : Nat → Sp
  | 0 => p_never
  | n + 1 => p n
def p_let : Sp := fun vs H Q _ => ∃ v, vs = [v] ∧ ((∃ w : Str, v = .str w ∧ w.length ≤ 20000 ∧ Q (.bl (isLet w)) H) ∨ ∃ a xs, v = .ref a ∧ SqT K H a xs ∧ Q (.bl false) H)
def p_tuple_of : Sp := fun vs H Q _ => ∃ (a : Addr) (xs : List V) (n : Nat), vs = [.ref a, .int (n : Int)] ∧ SqT K H a xs ∧ Q (.bl (decide (xs.length = n))) H
def isAct : Tw → Bool
  | .act _ => true
  | _ => false
def p_is_deed : Sp := fun vs H Q _ => ∃ (v : V) (t : Tw) (n : Nat), vs = [v] ∧ SAt K H v t ∧ OkS n t ∧ ∀ H', Same H H' → Q (.bl (isAct t)) H'
def p_deed : Sp := fun vs H Q _ => ∃ (l : Addr) (ws : List Str), vs = [.ref l] ∧ SqL K H l (ws.map V.str) ∧ 2 ≤ ws.length ∧ ws.length ≤ 4 ∧ (∀ w ∈ ws, TxOk 12000 w) ∧ ∀ H', Same H H' → (deedIn ws = none → Q .non H') ∧ ∀ d a, deedIn ws = some d → Dp K H' (.ref a) (dD d) → Q (.ref a) H'
def p_words : Sp := fun vs H Q _ => ∃ x : Str, vs = [.str x] ∧ TxOk 12000 x ∧ ∀ H' l, Same H H' → H l = none → H' l = some (.lst ((ungl (spl x)).map V.str)) → Q (.ref l) H'
structure Wd (H : Hp) (l : Addr) (W : List Str) : Prop where
  at_ : H l = some (.lst (W.map V.str))
  ok : ∀ w ∈ W, TxOk 12000 w
  len : W.length ≤ 24002
def Got (d : PyData) (H : Hp) (pos : Nat) (Q : VK) : Prop := ∀ H' v r, Same H H' → SqT K H' v [r, .int (pos : Int)] → Dp K H' r d → Q (.ref v) H'
def p_read (n : Nat) : Sp := fun vs H Q _ => ∃ (l : Addr) (W : List Str) (pos : Nat) (u : Bool) (ts : List Tw) (rest : List Str), vs = [.ref l, .int (pos : Int), .int (4 - (n : Int))] ∧ n ≤ 4 ∧ Wd H l W ∧ W.drop pos = tokP u ts ++ rest ∧ OkP n ts ∧ End2 rest ∧ Got K (.tuple (dL ts)) H (pos + (tokP u ts).length) Q
def p_read_statement (n : Nat) : Sp := fun vs H Q _ => ∃ (l : Addr) (W : List Str) (pos : Nat) (u : Bool) (t : Tw) (rest : List Str), vs = [.ref l, .int (pos : Int), .int (4 - (n : Int))] ∧ n ≤ 4 ∧ Wd H l W ∧ W.drop pos = tokS u t ++ rest ∧ OkS n t ∧ End1 rest ∧ Got K (dS t) H (pos + (tokS u t).length) Q
def p_read_branching (n : Nat) : Sp := fun vs H Q _ => ∃ (l : Addr) (W : List Str) (pos : Nat) (u : Bool) (t : Tw) (rest : List Str), vs = [.ref l, .int (pos : Int), .int (4 - (n : Int))] ∧ n ≤ 4 ∧ Wd H l W ∧ W.drop pos = tokS u t ++ rest ∧ OkS n t ∧ isAct t = false ∧ End1 rest ∧ Got K (dS t) H (pos + (tokS u t).length) Q
/-- the depth is the one outside the braces -/
def p_read_braces (n : Nat) : Sp := fun vs H Q _ => ∃ (l : Addr) (W : List Str) (pos : Nat) (u : Bool) (ts : List Tw) (rest : List Str), vs = [.ref l, .int (pos : Int), .int (3 - (n : Int))] ∧ n ≤ 3 ∧ Wd H l W ∧ W.drop pos = s_ "{" :: (tokP u ts ++ s_ "}" :: rest) ∧ OkP n ts ∧ Got K (.tuple (dL ts)) H (pos + (tokP u ts).length + 2) Q
def p_por : Sp := fun vs H Q _ => ∃ (u : Bool) (ts : List Tw), vs = [.str (txP u ts)] ∧ OkP 4 ts ∧ cntP ts ≤ 30 ∧ ∀ H' r, Same H H' → PAt K H' (.ref r) ts → Q (.ref r) H'
def p_isp : Sp := fun vs H Q _ => ∃ (u : Bool) (ts : List Tw), vs = [.str (txP u ts)] ∧ OkP 4 ts ∧ cntP ts ≤ 30 ∧ ∀ H', Same H H' → Q (.bl true) H'
def p_text (n : Nat) : Sp := fun vs H Q _ => ∃ (v : V) (ts : List Tw), vs = [v] ∧ PAt K H v ts ∧ OkP n ts ∧ (cntP ts ≤ 60 ∧ n ≤ 4) ∧ ∀ H', Same H H' → Q (.str (txP false ts)) H'
def p_longer (n : Nat) : Sp := fun vs H Q _ => ∃ (v : V) (ts : List Tw), vs = [v] ∧ PAt K H v ts ∧ OkP n ts ∧ (cntP ts ≤ 60 ∧ n ≤ 4) ∧ ∀ H', Same H H' → Q (.str (txP true ts)) H'
def p_ptext : Sp := fun vs H Q _ => ∃ (v : V) (ts : List Tw), vs = [v] ∧ PAt K H v ts ∧ OkP 4 ts ∧ cntP ts ≤ 30 ∧ ∀ H', Same H H' → Q (.str (txP false ts)) H'
def p_statement_text (n : Nat) : Sp := fun vs H Q _ => ∃ (v : V) (t : Tw), vs = [v] ∧ SAt K H v t ∧ OkS n t ∧ (cntS t ≤ 60 ∧ n ≤ 4) ∧ ∀ H', Same H H' → Q (.str (txS false t)) H'
def p_deed_text : Sp := fun vs H Q _ => ∃ (v : V) (d : Deed), vs = [v] ∧ Dp K H v (dD d) ∧ DOk d ∧ ∀ H', Same H H' → Q (.str (txD d)) H'
def p_all (n : Nat) : Sp := fun vs H Q _ => ∃ (v : V) (ts : List Tw), vs = [v] ∧ PAt K H v ts ∧ OkP n ts ∧ cntP ts ≤ 60 ∧ ∀ H' l xs, Same H H' → H l = none → H' l = some (.lst xs) → xs.length = cntP ts → Q (.ref l) H'
def p_statements : Sp := fun vs H Q _ => ∃ (v : V) (ts : List Tw), vs = [v] ∧ PAt K H v ts ∧ OkP 4 ts ∧ cntP ts ≤ 60 ∧ ∀ H', Same H H' → Q (.int (cntP ts : Nat)) H'
def p_one_act : Sp := fun vs H Q _ => ∃ (j : Addr) (z : Str), vs = [.ref j, .str z] ∧ JugAt H j ∧ 1 ≤ z.length ∧ z.length ≤ 100 ∧ (∀ c ∈ tl z, 97 ≤ c ∧ c ≤ 122) ∧ ∀ H' a d, Chg j H H' → JugAt H' j → Dp K H' (.ref a) (dD d) → DOk d → Q (.ref a) H'
/-- all but two things is as it was -/
structure Ch2 (j r : Addr) (H H' : Hp) : Prop where
  old : ∀ b o, H b = some o → b ≠ j → b ≠ r → H' b = some o
  im : Imm H H'
def p_twigs (n : Nat) : Sp := fun vs H Q _ => ∃ (j r : Addr) (z : Str) (often d : Nat) (left loops : Int), vs = [.ref j, .str z, .int (often : Int), .int (d : Int), .ref r] ∧ d ≤ n ∧ JugAt H j ∧ 1 ≤ z.length ∧ z.length ≤ 100 ∧ (∀ c ∈ tl z, 97 ≤ c ∧ c ≤ 122) ∧ often ≤ 10 ∧ H r = some (.lst [.int left, .int loops]) ∧ 0 ≤ left ∧ left ≤ 30 ∧ r ≠ j ∧
  ∀ H' a ts (left2 loops2 : Int), Ch2 j r H H' → JugAt H' j → H' r = some (.lst [.int left2, .int loops2]) → 0 ≤ left2 → (cntP ts : Int) + left2 ≤ left → OkP d ts → PAt K H' (.ref a) ts → Q (.ref a) H'
end
theorem Ch2.refl (j r : Addr) (H : Hp) : Ch2 j r H H := ⟨fun _ _ h _ _ => h, .refl H⟩
theorem Ch2.trans {j r : Addr} {H H1 H2 : Hp} (a : Ch2 j r H H1) (b : Ch2 j r H1 H2) : Ch2 j r H H2 := ⟨fun c o h n m => b.old c o (a.old c o h n m) n m, a.im.trans b.im⟩
theorem Ch2.same {j r : Addr} {H H' : Hp} (s : Same H H') : Ch2 j r H H' := ⟨fun b o h _ _ => s b o h, .of s⟩
theorem Ch2.jug {j r : Addr} {H H' : Hp} (c : Chg j H H') (h : JugAt H j) : Ch2 j r H H' := ⟨fun b o h n _ => c b o h n, chg_imm c h⟩
theorem Ch2.room {j r : Addr} {H : Hp} {xs : List V} {o : HO} (h : H r = some (.lst xs)) : Ch2 j r H (upd H r o) := ⟨fun b x e _ n => by rw [upd_ne n]; exact e, Chg.imm Chg.upd h trivial⟩
/-- a fresh thing may be written -/
theorem Ch2.new {j r p : Addr} {H H' : Hp} {o : HO} {xs : List V} (c : Ch2 j r H H') (hp : H p = none) (h : H' p = some (.lst xs)) : Ch2 j r H (upd H' p o) := ⟨fun b x e n m => by
  rw [upd_ne (ne_of_none e hp)]
  exact c.old b x e n m, c.im.trans (Chg.imm Chg.upd h trivial)⟩
theorem dp_refs {K : PySem.W.Frag} {H : Hp} {v : V} {ds : List PyData} (h : Dp K H v (.tuple ds)) : ∃ a, v = .ref a := by
  obtain ⟨a, _, rfl, _⟩ := dp_tup h
  exact ⟨a, rfl⟩
end K34
namespace K34
open PySem PySem.Spec L2 Z K1 TL K36
theorem ws_cases {ws : List Str} (h : 2 ≤ ws.length) (k : ws.length ≤ 4) : (∃ a b, ws = [a, b]) ∨ (∃ a m b, ws = [a, m, b]) ∨ ∃ a m x b, ws = [a, m, x, b] := by
  match ws, h, k with
  | [a, b], _, _ => exact .inl ⟨a, b, rfl⟩
  | [a, m, b], _, _ => exact .inr (.inl ⟨a, m, b, rfl⟩)
  | [a, m, x, b], _, _ => exact .inr (.inr ⟨a, m, x, b, rfl⟩)
theorem deed2 (a b : Str) : deedIn [a, b] = if a = s_ "drop" ∧ isLet b = true then some (.drop b) else none := rfl
theorem deed3 (a m b : Str) : deedIn [a, m, b] = if isLet a = true ∧ m = s_ "=" then (if b = s_ "new" then some (.new a) else if isTgt b = true then some (.copy a b) else none) else none := rfl
theorem deed4 (a m x b : Str) : deedIn [a, m, x, b] = if isLet a = true ∧ m = s_ "=" ∧ x = s_ "next" ∧ isLet b = true then some (.next a b) else if a = s_ "next" ∧ isLet m = true ∧ x = s_ "=" ∧ isTgt b = true then some (.tie m b) else none := rfl
theorem tf {b : Bool} (h : b = false) : ¬ b = true := by rw [h]; decide
theorem none_ne {H : Hp} {a b : Addr} {o : HO} (h : H a = none) (k : H b = some o) : a ≠ b := fun e => by rw [e, k] at h; cases h
end K34
namespace K34
open PySem PySem.Spec L2 Z K1 TL K36
section
variable {K : PySem.W.Frag} {H : Hp} {Q : VK}
theorem two_dp {p p1 : Addr} {xs : List V} {ws vs : List Str} (h0 : H p = none) (h1 : upd H p (.lst xs) p1 = none) (ex : xs = ws.map V.str) :
    Same H (upd (upd H p (.lst xs)) p1 (.lst (vs.map V.str))) ∧ Dp K (upd (upd H p (.lst xs)) p1 (.lst (vs.map V.str))) (.ref p) (.list (ws.map PyData.str)) ∧ Dp K (upd (upd H p (.lst xs)) p1 (.lst (vs.map V.str))) (.ref p1) (.list (vs.map PyData.str)) := by
  have s1 := same_new (o := .lst xs) h0
  have s2 := same_new (o := .lst (vs.map V.str)) h1
  refine ⟨s1.trans s2, .lst (xs := xs) (.inl (.inl (s2 _ _ upd_same))) (by rw [ex]; exact Z.dp_strs ws), .lst (.inl (.inl upd_same)) (Z.dp_strs vs)⟩
theorem two_eq {p p1 : Addr} {xs : List V} {ws vs : List Str} (h0 : H p = none) (h1 : upd H p (.lst xs) p1 = none) (ex : xs = ws.map V.str) (o1 : ∀ z ∈ ws, PyData.strOk z = true) (o2 : ∀ z ∈ vs, PyData.strOk z = true)
    (k : ∀ H2, Same H H2 → Q (.bl (decide (ws = vs))) H2) : rEqD K (.ref p) (.ref p1) (upd (upd H p (.lst xs)) p1 (.lst (vs.map V.str))) Q := by
  obtain ⟨s, d1, d2⟩ := two_dp (K := K) (vs := vs) h0 h1 ex
  refine ⟨_, _, d1, d2, Z.shaped_strs _ o1, Z.shaped_strs _ o2, ?_⟩
  rw [eqv_strs]
  exact k _ s
theorem two_ne {p p1 : Addr} {xs : List V} {ws vs : List Str} (h0 : H p = none) (h1 : upd H p (.lst xs) p1 = none) (ex : xs = ws.map V.str) (o1 : ∀ z ∈ ws, PyData.strOk z = true) (o2 : ∀ z ∈ vs, PyData.strOk z = true)
    (k : ∀ H2, Same H H2 → Q (.bl (!decide (ws = vs))) H2) : rNeD K (.ref p) (.ref p1) (upd (upd H p (.lst xs)) p1 (.lst (vs.map V.str))) Q := by
  obtain ⟨s, d1, d2⟩ := two_dp (K := K) (vs := vs) h0 h1 ex
  refine ⟨_, _, d1, d2, Z.shaped_strs _ o1, Z.shaped_strs _ o2, ?_⟩
  rw [eqv_strs]
  exact k _ s
theorem iw_in {p p1 p2 t : Addr} {xs : List V} {w : Str} (ok : PyData.strOk w = true) (h0 : H p = none) (h1 : upd H p (.lst xs) p1 = none) (h2 : upd (upd H p (.lst xs)) p1 (.lst [.str (s_ "if")]) p2 = none)
    (h3 : upd (upd (upd H p (.lst xs)) p1 (.lst [.str (s_ "if")])) p2 (.lst [.str (s_ "while")]) t = none) (ex : xs = [w].map V.str) (k : ∀ H2, Same H H2 → Q (.bl (decide (s_ "if" = w) || decide (s_ "while" = w))) H2) :
    rInTD K (.ref p) (.ref t) (upd (upd (upd (upd H p (.lst xs)) p1 (.lst [.str (s_ "if")])) p2 (.lst [.str (s_ "while")])) t (.tup [.ref p1, .ref p2])) Q := by
  have s0 := same_new (o := .lst xs) h0
  have s1 := same_new (o := .lst [V.str (s_ "if")]) h1
  have s2 := same_new (o := .lst [V.str (s_ "while")]) h2
  have s3 := same_new (o := .tup [V.ref p1, V.ref p2]) h3
  have e0 := s3 _ _ (s2 _ _ (s1 _ _ (show upd H p (.lst xs) p = some (.lst ([w].map V.str)) by rw [upd_same, ex])))
  have e1 := s3 _ _ (s2 _ _ (show upd (upd H p (.lst xs)) p1 (.lst [.str (s_ "if")]) p1 = some (.lst ([s_ "if"].map V.str)) from upd_same))
  have e2 := s3 _ _ (show upd (upd (upd H p (.lst xs)) p1 (.lst [.str (s_ "if")])) p2 (.lst [.str (s_ "while")]) p2 = some (.lst ([s_ "while"].map V.str)) from upd_same)
  refine ⟨.list ([w].map PyData.str), [.list ([s_ "if"].map PyData.str), .list ([s_ "while"].map PyData.str)], .lst (.inl (.inl e0)) (Z.dp_strs _), .tup (.inl (.inl upd_same)) (.cons (.lst (.inl (.inl e1)) (Z.dp_strs _)) (.cons (.lst (.inl (.inl e2)) (Z.dp_strs _)) .nil)), Z.shaped_strs _ (fun z hz => by rw [List.mem_singleton.mp hz]; exact ok), by decide +kernel, ?_⟩
  rw [List.any_cons, List.any_cons, List.any_nil, eqv_strs, eqv_strs, Bool.or_false, show decide ([s_ "if"] = [w]) = decide (s_ "if" = w) from decide_eq_decide.mpr ⟨fun e => by injection e, fun e => by rw [e]⟩, show decide ([s_ "while"] = [w]) = decide (s_ "while" = w) from decide_eq_decide.mpr ⟨fun e => by injection e, fun e => by rw [e]⟩]
  exact k _ (s0.trans (s1.trans (s2.trans s3)))
end
/-- the first word of a statement -/
theorem hd_act {d : Deed} (h : K34.DOk d) : ∃ x r, tokD d = x :: r ∧ x ≠ s_ "none" ∧ x ≠ s_ "if" ∧ x ≠ s_ "while" ∧ PyData.strOk x = true := by
  have l : ∀ {a : Str}, isLet a = true → a ≠ s_ "none" ∧ a ≠ s_ "if" ∧ a ≠ s_ "while" ∧ PyData.strOk a = true := fun h => ⟨let_ne h (by decide +kernel), let_ne h (by decide +kernel), let_ne h (by decide +kernel), (tx_let h).strOk⟩
  cases d with
  | copy a b => exact ⟨a, _, rfl, l h.1⟩
  | next a b => exact ⟨a, _, rfl, l h.1⟩
  | tie a b => exact ⟨_, _, rfl, by decide +kernel, by decide +kernel, by decide +kernel, by decide +kernel⟩
  | new a => exact ⟨a, _, rfl, l (show isLet a = true from h)⟩
  | drop a => exact ⟨_, _, rfl, by decide +kernel, by decide +kernel, by decide +kernel, by decide +kernel⟩
theorem hd_tok {u : Bool} {n : Nat} {t : Tw} (h : OkS n t) : ∃ x r, tokS u t = x :: r ∧ x ≠ s_ "none" ∧ (decide (s_ "if" = x) || decide (s_ "while" = x)) = !isAct t ∧ PyData.strOk x = true := by
  cases t with
  | act d =>
    obtain ⟨x, r, e, h1, h2, h3, h4⟩ := hd_act (ok_act h)
    exact ⟨x, r, by simp only [tokS]; exact e, h1, by rw [decide_eq_false h2.symm, decide_eq_false h3.symm]; rfl, h4⟩
  | ifs q a b =>
    cases b with
    | nil => exact ⟨s_ "if", _, by simp only [tokS]; rfl, by decide +kernel, by show _ = true; decide +kernel, by decide +kernel⟩
    | cons t r => exact ⟨s_ "if", _, by simp only [tokS]; rfl, by decide +kernel, by show _ = true; decide +kernel, by decide +kernel⟩
  | whi q a => exact ⟨s_ "while", _, by simp only [tokS]; rfl, by decide +kernel, by show _ = true; decide +kernel, by decide +kernel⟩
theorem Wd.same {H H' : Hp} {l : Addr} {W : List Str} (s : Same H H') (h : Wd H l W) : Wd H' l W := ⟨s _ _ h.at_, h.ok, h.len⟩
theorem Wd.sk {H : Hp} {l : Addr} {W : List Str} (h : Wd H l W) {p : Nat} {k : Nat} : ∀ z ∈ (W.drop p).take k, PyData.strOk z = true := fun z hz => (h.ok z (List.mem_of_mem_drop (List.mem_of_mem_take hz))).strOk
theorem Wd.sq {K : PySem.W.Frag} {H : Hp} {l : Addr} {W : List Str} (h : Wd H l W) : SqL K H l (W.map V.str) := .inl (.inl h.at_)
theorem Got.same {K : PySem.W.Frag} {d : PyData} {H H1 : Hp} {pos : Nat} {Q : VK} (g : Got K d H pos Q) (s : Same H H1) : Got K d H1 pos Q := fun H' v r s1 h1 h2 => g H' v r (s.trans s1) h1 h2
end K34
namespace K34
open PySem PySem.Spec L2 Z K1 TL K36
/-- one turn of a reading of statements: a is read, t and b are not -/
def RdInv (K : PySem.W.Frag) (H : Hp) (l : Addr) (W : List Str) (u : Bool) (n pos : Nat) (ts : List Tw) (rest : List Str) (m : Nat) (σ : L2.St) (H' : Hp) : Prop := Same H H' ∧ ∃ (a b : List Tw) (t : Tw) (p : Nat) (v : Addr) (x4 : Option V), m = b.length ∧ ts = a ++ t :: b ∧ σ = [some (.ref l), some (.int (p : Int)), some (.int (4 - (n : Int))), some (.ref v), x4] ∧ PAt K H' (.ref v) a ∧ W.drop p = tokP u (t :: b) ++ rest ∧ p + (tokP u (t :: b)).length = pos + (tokP u ts).length
theorem tokP_cons (u : Bool) (t : Tw) (b : List Tw) : ∃ tl, tokP u (t :: b) = tokS u t ++ tl ∧ ((b = [] ∧ tl = []) ∨ ∃ t2 r, b = t2 :: r ∧ tl = s_ ";" :: tokP u (t2 :: r)) := by
  cases b with
  | nil => exact ⟨[], by simp only [tokP, List.append_nil], .inl ⟨rfl, rfl⟩⟩
  | cons t2 r => exact ⟨_, by simp only [tokP], .inr ⟨t2, r, rfl, rfl⟩⟩
theorem PAt.emp {K : PySem.W.Frag} {H : Hp} {a : Addr} (h : SqT K H a []) : PAt K H (.ref a) [] := by
  unfold PAt
  simp only [dL]
  exact .tup h .nil
theorem PAt.sqt {K : PySem.W.Frag} {H : Hp} {a : Addr} {ts : List Tw} (h : PAt K H (.ref a) ts) : ∃ xs, SqT K H a xs ∧ DpAll K H xs (dL ts) := by
  obtain ⟨b, xs, e, h1, h2⟩ := dp_tup h
  cases e
  exact ⟨xs, h1, h2⟩
end K34
namespace K34
open PySem PySem.Spec L2 Z K1 TL K36
theorem cut_from (W : List Str) {p : Nat} (h : p ≤ W.length) : cutV (W.map V.str) (some (p : Int)) none = (W.drop p).map V.str := by
  have e : cutV (W.map V.str) (some (p : Int)) none = cutV (W.map V.str) (some (p : Int)) (some ((W.length : Nat) : Int)) := by
    unfold cutV
    simp only [List.length_map]
    have h2 : HT.sIx W.length W.length (some ((W.length : Nat) : Int)) = W.length := by rw [HT.sIx_nat, Nat.min_self]
    rw [h2]
    rfl
  rw [e, cut_nat, List.map_drop, List.take_of_length_le (by rw [List.length_drop, List.length_map]; omega)]
theorem br_shape {u : Bool} {n : Nat} {t : Tw} (ok : OkS (n + 1) t) (ha : isAct t = false) : ∃ kw q a more, tokS u t = kw :: (wds q ++ s_ "{" :: (tokP u a ++ s_ "}" :: more)) ∧ QQ q ∧ OkP n a ∧ ((t = .whi q a ∧ kw = s_ "while" ∧ more = []) ∨ ∃ b, t = .ifs q a b ∧ kw = s_ "if" ∧ OkP n b ∧ ((b = [] ∧ more = []) ∨ more = s_ "else" :: s_ "{" :: (tokP u b ++ [s_ "}"]))) := by
  cases t with
  | act d => cases ha
  | whi q a => exact ⟨_, q, a, [], by simp only [tokS], ok.1, ok.2, .inl ⟨rfl, rfl, rfl⟩⟩
  | ifs q a b =>
    cases b with
    | nil =>
      cases u with
      | false => exact ⟨_, q, a, [], by simp only [tokS, Bool.false_eq_true, if_false], ok.1, ok.2.1, .inr ⟨[], rfl, rfl, ok.2.2, .inl ⟨rfl, rfl⟩⟩⟩
      | true => exact ⟨_, q, a, s_ "else" :: s_ "{" :: (tokP true [] ++ [s_ "}"]), by simp only [tokS, if_true, tokP]; rfl, ok.1, ok.2.1, .inr ⟨[], rfl, rfl, ok.2.2, .inr rfl⟩⟩
    | cons t r => exact ⟨_, q, a, _, by simp only [tokS], ok.1, ok.2.1, .inr ⟨_, rfl, rfl, ok.2.2, .inr rfl⟩⟩
theorem wds_no {q : Quiz} (h : QOk q) : ∀ w ∈ wds q, w ≠ s_ "{" := by
  have l : ∀ t : Tri, trip t.2.1 t.1 t.2.2 = true → ∀ w ∈ tws t, w ≠ s_ "{" := fun t ht w hw => by
    obtain ⟨l1, l2, l3⟩ := trip_parts ht
    simp only [tws, List.mem_cons, List.not_mem_nil, or_false] at hw
    intro e
    rcases hw with h | h | h <;> rw [e] at h
    · rw [← h] at l1; revert l1; decide +kernel
    · rw [← h] at l2; revert l2; decide +kernel
    · rw [← h] at l3; revert l3; decide +kernel
  have jt : q.1 ≠ s_ "{" := fun e => by
    have := h.jt
    rw [e] at this
    revert this
    decide +kernel
  intro w hw
  unfold wds at hw
  have lt := h.tri
  cases e : q.2 with
  | nil => rw [e] at hw; cases hw
  | cons t r =>
    rw [e] at hw lt
    rcases List.mem_append.mp hw with hw | hw
    · exact l t (lt t (.head _)) w hw
    · obtain ⟨y, hy, hw⟩ := List.mem_flatMap.mp hw
      rcases List.mem_cons.mp hw with rfl | hw
      · exact jt
      · exact l y (lt y (.tail _ hy)) w hw
end K34
namespace K34
open PySem PySem.Spec L2 Z K1 TL K36
theorem tok_ge {u : Bool} {n : Nat} : ∀ {ts : List Tw}, OkP n ts → ts.length ≤ (tokP u ts).length
  | [], _ => Nat.zero_le _
  | t :: r, h => by
    obtain ⟨tl, e, k⟩ := tokP_cons u t r
    obtain ⟨x, w, ex, _⟩ := hd_tok (u := u) (h t (.head _))
    have ih := tok_ge (u := u) (ts := r) fun y hy => h y (.tail _ hy)
    rw [e, ex, List.length_append, List.length_cons, List.length_cons]
    rcases k with ⟨rfl, rfl⟩ | ⟨t2, r2, rfl, rfl⟩
    · simp
    · simp only [List.length_cons] at ih ⊢
      omega
theorem at_in {W a b : List Str} {p m : Nat} {w : Str} (h : W.drop p = a ++ b) (h1 : p ≤ m) (h2 : m < p + a.length) (k : W[m]? = some w) : w ∈ a := by
  have e : (W.drop p)[m - p]? = some w := by rw [List.getElem?_drop, show p + (m - p) = m by omega]; exact k
  rw [h, List.getElem?_append_left (by omega)] at e
  exact List.mem_of_getElem? e
end K34
namespace K34
open PySem PySem.Spec L2 Z K1 TL K36
theorem call_isiK {X : Cx} {K : PySem.W.Frag} (h : X.K = K) : CallR X (.builtin "isinstance") (rIsi K) := h ▸ call_isi
theorem ungl_ok {ws : List Str} (h : ∀ w ∈ ws, TxOk 12000 w) : ∀ w ∈ ungl ws, TxOk 12000 w := fun w hw => by
  obtain ⟨y, hy, hw⟩ := List.mem_flatMap.mp hw
  unfold cs at hw
  split at hw
  · simp only [List.mem_cons, List.not_mem_nil, or_false] at hw
    rcases hw with rfl | rfl
    · exact (h y hy).cut _ _
    · exact txB_ok (by decide +kernel)
  · rw [List.mem_singleton.mp hw]
    exact h y hy
theorem da_zip {K : PySem.W.Frag} {H : Hp} : ∀ {ts : List Tw} {vs : List V} {p : V × Tw}, DpAll K H vs (dL ts) → p ∈ vs.zip ts → SAt K H p.1 p.2 ∧ p.2 ∈ ts
  | [], vs, p, _, hp => by simp at hp
  | t :: r, vs, p, h, hp => by
    simp only [dL] at h
    obtain ⟨x, us, rfl, h1, h2⟩ := da_cons h
    rw [List.zip_cons_cons] at hp
    rcases List.mem_cons.mp hp with rfl | hp
    · exact ⟨h1, .head _⟩
    · obtain ⟨a, b⟩ := da_zip (ts := r) h2 hp
      exact ⟨a, .tail _ b⟩
theorem cnt_mem : ∀ {ts : List Tw} {t : Tw}, t ∈ ts → cntS t ≤ cntP ts
  | t' :: r, t, h => by
    simp only [cntP]
    rcases List.mem_cons.mp h with rfl | h
    · omega
    · have := cnt_mem h
      omega
theorem fst_zip {α β : Type} {as : List α} {bs : List β} (h : as.length = bs.length) : (as.zip bs).map (fun p => p.1) = as := List.map_fst_zip (by omega)
theorem any_non (ws : List Str) : (ws.map PyData.str).any (fun z => PyData.eqv z .none) = false := by
  rw [List.any_map, List.any_eq_false]
  intro x _
  simp [PyData.eqv]
theorem in_non {K : PySem.W.Frag} {H : Hp} {D : Addr} {ws : List Str} {Q : VK} (hd : H D = some (.lst (ws.map V.str))) (o : ∀ z ∈ ws, PyData.strOk z = true) (k : Q (.bl false) H) : rInD K .non (.ref D) H Q := by
  refine ⟨_, _, .non, .lst (.inl (.inl hd)) (Z.dp_strs ws), by decide +kernel, Z.shaped_strs _ o, ?_⟩
  rw [any_non]
  exact k
theorem txS_ne {u : Bool} {n : Nat} {t : Tw} (h : OkS n t) : txS u t ≠ sE := fun e => by
  have g := gs_all u n t h
  obtain ⟨x, r, ex, _⟩ := hd_tok (u := u) h
  have e2 := spl_tx (u := u) (n := n) (ts := [t]) fun y hy => by rw [List.mem_singleton.mp hy]; exact h
  simp only [txP, gP] at e2
  rw [e] at e2
  have e3 : gS u t = [sE] := e2.symm.trans (by decide +kernel)
  have e4 := g.un
  rw [e3] at e4
  have e5 : tokS u t = [sE] := e4.symm.trans (by decide +kernel)
  cases t with
  | act d =>
    simp only [tokS] at e5
    have := (tok_len d).1
    rw [e5] at this
    simp at this
  | ifs q a b =>
    cases b <;> simp [tokS] at e5
  | whi q a => simp [tokS] at e5
theorem jn_tx (u : Bool) : ∀ {ts : List Tw}, ts ≠ [] → Str.join (s_ "; ") (ts.map (txS u)) = txP u ts
  | [], h => absurd rfl h
  | [t], _ => by simp only [List.map_cons, List.map_nil, txP]; rfl
  | t :: t2 :: r, _ => by
    have ih := jn_tx u (ts := t2 :: r) (by simp)
    rw [List.map_cons, List.map_cons]
    show txS u t ++ s_ "; " ++ Str.join (s_ "; ") (txS u t2 :: r.map (txS u)) = _
    rw [← List.map_cons, ih]
    simp only [txP]
theorem jn_txT (u : Bool) {ts : List Tw} (h : ts ≠ []) : Txt.join (s_ "; ") (ts.map (txS u)) = txP u ts := by rw [join_eq, jn_tx u h]
theorem txP_ne {u : Bool} {n : Nat} {ts : List Tw} (h : OkP n ts) : txP u ts ≠ sE := fun e => by
  have e2 := spl_tx (u := u) h
  have g := gp_all (u := u) h
  rw [e] at e2
  have e3 : gP u ts = [sE] := e2.symm.trans (by decide +kernel)
  have e4 := g.un
  rw [e3] at e4
  have e5 : tokP u ts = [sE] := e4.symm.trans (by decide +kernel)
  cases ts with
  | nil =>
    simp only [tokP] at e5
    revert e5
    decide +kernel
  | cons t r =>
    obtain ⟨tl, et, _⟩ := tokP_cons u t r
    obtain ⟨x, w, ex, _⟩ := hd_tok (u := u) (h t (.head _))
    have ok := h t (.head _)
    rw [et] at e5
    cases t with
    | act d =>
      simp only [tokS] at e5
      have := (tok_len d).1
      have := congrArg List.length e5
      rw [List.length_append, List.length_singleton] at this
      omega
    | ifs q a b => cases b <;> simp [tokS] at e5
    | whi q a => simp [tokS] at e5
theorem sum_tx (u : Bool) {n : Nat} {ts : List Tw} (h : OkP n ts) (c : cntP ts ≤ 60) : ((ts.map (txS u)).map (·.length)).sum + (ts.map (txS u)).length * (s_ "; ").length ≤ 16777216 := by
  have hl := cnt_len ts
  have hs := StrLaws.sumLen_le (B := 5000) (ts.map (txS u)) (fun y hy => by
    obtain ⟨t, ht, rfl⟩ := List.mem_map.mp hy
    have := (tx_all u n t (h t ht)).len
    have := cnt_mem ht
    omega)
  have e : (s_ "; ").length = 2 := by decide +kernel
  rw [List.length_map] at hs ⊢
  rw [e]
  have : 5000 * ts.length ≤ 5000 * 60 := Nat.mul_le_mul (Nat.le_refl _) (by omega)
  omega
end K34
namespace K34
open PySem PySem.Spec L2 Z K1 TL K36
theorem len_pos {x : Str} (h : x ≠ sE) : ((x.length : Int) != 0) = true := by
  rw [bne_iff_ne]
  intro e
  have : x.length = 0 := by omega
  apply h
  apply ext_tl
  rw [len_tl] at this
  rw [List.eq_nil_of_length_eq_zero this]
  decide +kernel
end K34
namespace K34
open PySem PySem.Spec L2 Z K1 TL K36
theorem act_head {K : PySem.W.Frag} {H : Hp} {v : V} {d : Deed} (h : Dp K H v (dD d)) : ∃ a nm rest, v = .ref a ∧ SqT K H a (.str nm :: rest) ∧ nm ≠ s_ "if" ∧ nm ≠ s_ "while" := by
  cases d with
  | copy a b => obtain ⟨p, x, y, z, rfl, s, e1, _⟩ := dp_three h; rw [dp_str e1] at s; exact ⟨_, _, _, rfl, s, by decide +kernel, by decide +kernel⟩
  | next a b => obtain ⟨p, x, y, z, rfl, s, e1, _⟩ := dp_three h; rw [dp_str e1] at s; exact ⟨_, _, _, rfl, s, by decide +kernel, by decide +kernel⟩
  | tie a b => obtain ⟨p, x, y, z, rfl, s, e1, _⟩ := dp_three h; rw [dp_str e1] at s; exact ⟨_, _, _, rfl, s, by decide +kernel, by decide +kernel⟩
  | new a => obtain ⟨p, x, y, rfl, s, e1, _⟩ := dp_two h; rw [dp_str e1] at s; exact ⟨_, _, _, rfl, s, by decide +kernel, by decide +kernel⟩
  | drop a => obtain ⟨p, x, y, rfl, s, e1, _⟩ := dp_two h; rw [dp_str e1] at s; exact ⟨_, _, _, rfl, s, by decide +kernel, by decide +kernel⟩
def tlS (c : List Tw) : Str := if c = [] then sE else s_ " else { " ++ txP false c ++ s_ " }"
theorem txS_ifs (q : Quiz) (b c : List Tw) : txS false (.ifs q b c) = s_ "if " ++ said q ++ s_ " { " ++ txP false b ++ s_ " }" ++ tlS c := by
  cases c with
  | nil => simp only [txS, tlS, if_pos, Bool.false_eq_true, if_false]
  | cons t r => simp only [txS, tlS]; rw [if_neg (by simp)]
theorem txS_ifsL (q : Quiz) (b c : List Tw) : txS true (.ifs q b c) = s_ "if " ++ said q ++ (s_ " { " ++ txP true b ++ s_ " } else { " ++ txP true c ++ s_ " }") := by
  have c1 : s_ " } else { " = s_ " }" ++ s_ " else { " := by decide +kernel
  have c2 : s_ " else { none }" = s_ " else { " ++ s_ "none" ++ s_ " }" := by decide +kernel
  cases c with
  | nil => simp only [txS, txP, if_true, c1, c2, Str.append_assoc]
  | cons t r => simp only [txS, c1, Str.append_assoc]
theorem txS_whi (u : Bool) (q : Quiz) (b : List Tw) : txS u (.whi q b) = s_ "while " ++ said q ++ s_ " { " ++ txP u b ++ s_ " }" := by simp only [txS]
theorem tlS_ok {n : Nat} {c : List Tw} (h : OkP n c) : TxOk (80 * cntP c + 14) (tlS c) := by
  unfold tlS
  split
  · exact (txB_ok (n := 0) (by decide +kernel)).mono (by omega)
  · exact (((s_ok " else { " 8 (by decide +kernel)).app (tx_prog (u := false) h)).app (s_ok " }" 2 (by decide +kernel))).mono (by omega)
theorem ne_emp {K : PySem.W.Frag} {H : Hp} {D q : Addr} {ws : List Str} {Q : VK} (hd : H D = some (.lst (ws.map V.str))) (o : ∀ z ∈ ws, PyData.strOk z = true) (hq : H q = none) (k : ∀ H2, Same H H2 → Q (.bl (!decide (ws = []))) H2) : rNeD K (.ref D) (.ref q) (upd H q (.lst [])) Q := by
  have s := same_new (o := .lst []) hq
  refine ⟨.list (ws.map PyData.str), .list (([] : List Str).map PyData.str), .lst (.inl (.inl (s _ _ hd))) (Z.dp_strs ws), .lst (.inl (.inl upd_same)) .nil, Z.shaped_strs _ o, by decide +kernel, ?_⟩
  rw [eqv_strs]
  exact k _ s
end K34
namespace K34
open PySem PySem.Spec L2 Z K1 TL K36
/-- what stands while statements are drawn -/
def TwInv (K : PySem.W.Frag) (H : Hp) (j r p : Addr) (z : Str) (often n : Nat) (left : Int) (σ : L2.St) (H' : Hp) : Prop := Ch2 j r H H' ∧ JugAt H' j ∧ ∃ (ts : List Tw) (left2 loops2 : Int) (vs : List V) (x6 x7 x8 x9 x10 : Option V), H' r = some (.lst [.int left2, .int loops2]) ∧ 0 ≤ left2 ∧ (cntP ts : Int) + left2 ≤ left ∧ OkP n ts ∧ H' p = some (.lst vs) ∧ DpAll K H' vs (dL ts) ∧ σ = [some (.ref j), some (.str z), some (.int (often : Int)), some (.int (n : Int)), some (.ref r), some (.ref p), x6, x7, x8, x9, x10]
theorem TwInv.add {K : PySem.W.Frag} {H H2 H5 : Hp} {j r p : Addr} {z : Str} {often n : Nat} {left left5 loops5 : Int} {ts : List Tw} {vs : List V} {t : Tw} {v : V} {x6 x7 x8 x9 x10 : Option V} (hp : H p = none) (pj : p ≠ j) (pr : p ≠ r)
    (c2 : Ch2 j r H H2) (hk : H2 p = some (.lst vs)) (ok : OkP n ts) (hd : DpAll K H2 vs (dL ts)) (c5 : Ch2 j r H2 H5) (j5 : JugAt H5 j) (r5 : H5 r = some (.lst [.int left5, .int loops5])) (l5 : 0 ≤ left5) (hs : (cntP ts : Int) + cntS t + left5 ≤ left) (l30 : left ≤ 30) (okt : OkS n t) (ht : SAt K H5 v t) :
    H5 p = some (.lst vs) ∧ vs.length < sizeLine ∧ TwInv K H j r p z often n left [some (.ref j), some (.str z), some (.int (often : Int)), some (.int (n : Int)), some (.ref r), some (.ref p), x6, x7, x8, x9, x10] (upd H5 p (.lst (vs ++ [v]))) := by
  have k5 := c5.old _ _ hk pj pr
  have im : Imm H5 (upd H5 p (.lst (vs ++ [v]))) := Chg.imm Chg.upd k5 trivial
  have hl := da_dL_len hd
  have cl := cnt_len ts
  refine ⟨k5, Nat.lt_of_lt_of_le (show vs.length < 100 by omega) (sl_le (by decide)), Ch2.new (c2.trans c5) hp k5, jug_upd pj j5, ts ++ [t], left5, loops5, vs ++ [v], _, _, _, _, _, by rw [upd_ne pr.symm]; exact r5, l5, ?_, ?_, upd_same, ?_, rfl⟩
  · rw [cnt_app]
    simp only [cntP]
    omega
  · intro y hy
    rcases List.mem_append.mp hy with h | h
    · exact ok y h
    · rw [List.mem_singleton.mp h]
      exact okt
  · rw [dL_app, show dL [t] = [dS t] by simp only [dL]]
    exact da_snoc (da_imm ok (c5.im.trans im) hd) (SAt.imm okt im ht)
end K34
namespace K34
open PySem PySem.Spec L2 Z K1 TL K36
theorem TwInv.room {K : PySem.W.Frag} {H H' : Hp} {j r p : Addr} {z : Str} {often n : Nat} {left lp : Int} {σ : L2.St} (pr : p ≠ r) (nrj : r ≠ j) (h : TwInv K H j r p z often n left σ H') : ∃ l lo, H' r = some (.lst [.int l, .int lo]) ∧ TwInv K H j r p z often n left σ (upd H' r (.lst ([.int l, .int lo].set 1 (.int lp)))) := by
  obtain ⟨c, j1, ts, l, lo, vs, x6, x7, x8, x9, x10, hr, l0, sm, ok, hk, hd, e⟩ := h
  have im : Imm H' (upd H' r (.lst ([.int l, .int lo].set 1 (.int lp)))) := Chg.imm Chg.upd hr trivial
  exact ⟨l, lo, hr, c.trans (.room hr), jug_upd nrj j1, ts, l, lp, vs, x6, x7, x8, x9, x10, upd_same, l0, sm, ok, by rw [upd_ne pr]; exact hk, da_imm ok im hd, e⟩
theorem tOr_two {ta tb : TT} {σ : L2.St} {H : Hp} {Q : Bool → Hp → Prop} (c1 c2 : Bool) (h1 : ∀ R : Bool → Hp → Prop, R c1 H → ta σ H R) (h2 : ∀ R : Bool → Hp → Prop, R c2 H → tb σ H R) (q : Q (c1 || c2) H) : tOr ta tb σ H Q := h1 _ (by
  cases c1 with
  | true => exact iteT q
  | false => exact iteF (h2 _ q))
end K34
namespace K34
open PySem PySem.Spec L2 Z K1 TL K36
theorem sg6 {x : V} (h : x ∈ [V.str (Str.ofString "x"), V.str (Str.ofString "xy"), V.str (Str.ofString "ab"), V.str (Str.ofString "xyz"), V.str (Str.ofString "gjqz"), V.str (Str.ofString "end")]) : ∃ z, x = .str z ∧ 1 ≤ z.length ∧ z.length ≤ 100 ∧ ∀ c ∈ tl z, 97 ≤ c ∧ c ≤ 122 := by
  simp only [List.mem_cons, List.not_mem_nil, or_false] at h
  rcases h with rfl | rfl | rfl | rfl | rfl | rfl <;> exact ⟨_, rfl, by decide +kernel, by decide +kernel, by decide +kernel⟩
theorem dp3 {x : V} (h : x ∈ [V.int 1, V.int 2, V.int 4]) : ∃ d : Nat, x = .int (d : Int) ∧ d ≤ 4 := by
  simp only [List.mem_cons, List.not_mem_nil, or_false] at h
  rcases h with rfl | rfl | rfl
  · exact ⟨1, rfl, by decide⟩
  · exact ⟨2, rfl, by decide⟩
  · exact ⟨4, rfl, by decide⟩
theorem rm3 {x : V} (h : x ∈ [V.int 3, V.int 8, V.int 30]) : ∃ l : Int, x = .int l ∧ 0 ≤ l ∧ l ≤ 30 := by
  simp only [List.mem_cons, List.not_mem_nil, or_false] at h
  rcases h with rfl | rfl | rfl <;> exact ⟨_, rfl, by decide, by decide⟩
theorem shown_ok {n : Nat} {ts : List Tw} (ok : OkP n ts) : ∀ z ∈ [PyData.shown (.tuple (dL ts)), PyData.shown (.tuple (dL ts))], PyData.strOk z = true := fun z hz => by
  simp only [List.mem_cons, List.not_mem_nil, or_false, or_self] at hz
  rw [hz]
  exact (dg_prog ok).asc.ok
end K34
/-! One reader of programs, told by what is left to read. -/
namespace K35
open PySem PySem.Spec L2 Z K1 TL K36 K34
abbrev Prs (α : Type) := List Str → Option (α × List Str)
def prsD : Prs Tw := fun ws => match deedIn (ws.take 2) with
  | some d => some (.act d, ws.drop 2)
  | none => match deedIn (ws.take 3) with
    | some d => some (.act d, ws.drop 3)
    | none => match deedIn (ws.take 4) with
      | some d => some (.act d, ws.drop 4)
      | none => none
/-- behind an opening brace, up to the closing one -/
def brc (pp : Prs (List Tw)) : Prs (List Tw) := fun ws => if ws.take 1 = [s_ "{"] then (match pp (ws.drop 1) with
  | some (ts, r) => if r.take 1 = [s_ "}"] then some (ts, r.drop 1) else none
  | none => none) else none
def nb (w : Str) : Bool := decide (w ≠ s_ "{")
def prsB (pp : Prs (List Tw)) (kw : Str) : Prs Tw := fun ws => match tst (ws.takeWhile nb), brc pp (ws.dropWhile nb) with
  | some q, some (a, r) => if kw = s_ "while" then some (.whi q a, r) else if r.take 1 = [s_ "else"] then (match brc pp (r.drop 1) with
    | some (b, r2) => some (.ifs q a b, r2)
    | none => none) else some (.ifs q a [], r)
  | _, _ => none
def isBr (w : Str) : Bool := decide (s_ "if" = w) || decide (s_ "while" = w)
def prsS (pp : Option (Prs (List Tw))) : Prs Tw := fun ws => match ws with
  | [] => none
  | x :: r => if isBr x = true then (match pp with
    | none => none
    | some pp => prsB pp x r) else prsD (x :: r)
def prsL (ps : Prs Tw) : Nat → Prs (List Tw)
  | 0, _ => none
  | k + 1, ws => match ps ws with
    | none => none
    | some (t, r) => if r.take 1 = [s_ ";"] then (match prsL ps k (r.drop 1) with
      | some (ts, r2) => some (t :: ts, r2)
      | none => none) else some ([t], r)
def prsP (ps : Prs Tw) : Prs (List Tw) := fun ws => if ws.take 1 = [s_ "none"] then some ([], ws.drop 1) else prsL ps (ws.length + 1) ws
mutual
def SS : Nat → Prs Tw
  | 0 => prsS none
  | n + 1 => prsS (some (prsP (SS n)))
end
def PP (n : Nat) : Prs (List Tw) := prsP (SS n)
/-- a reader leaves an end of what it was given -/
def Suf {α : Type} (p : Prs α) : Prop := ∀ ws a r, p ws = some (a, r) → ∃ h, h ≠ [] ∧ ws = h ++ r
theorem drop_split {ws : List Str} {k : Nat} (h : k ≤ ws.length) (k0 : 0 < k) : ∃ h, h ≠ [] ∧ ws = h ++ ws.drop k := ⟨ws.take k, by
  intro e
  have := congrArg List.length e
  rw [List.length_take, List.length_nil] at this
  omega, (List.take_append_drop k ws).symm⟩
theorem deed_len {ws : List Str} {d : Deed} (h : deedIn ws = some d) : 2 ≤ ws.length := by
  unfold deedIn at h
  split at h
  · simp
  · simp
  · simp
  · cases h
theorem take_two {ws : List Str} {k : Nat} (k3 : 3 ≤ k) (h2 : deedIn (ws.take 2) = none) {d : Deed} (h : deedIn (ws.take k) = some d) : 3 ≤ ws.length := by
  have h1 := deed_len h
  rw [List.length_take] at h1
  rcases Nat.lt_or_ge ws.length 3 with z | z
  · have e : ws.take k = ws.take 2 := by rw [List.take_of_length_le (by omega), List.take_of_length_le (by omega)]
    rw [e, h2] at h
    cases h
  · exact z
theorem take_three {ws : List Str} (h3 : deedIn (ws.take 3) = none) {d : Deed} (h : deedIn (ws.take 4) = some d) : 4 ≤ ws.length := by
  rcases Nat.lt_or_ge ws.length 4 with z | z
  · have e : ws.take 4 = ws.take 3 := by rw [List.take_of_length_le (by omega), List.take_of_length_le (by omega)]
    rw [e, h3] at h
    cases h
  · exact z
theorem suf_D : Suf prsD := fun ws a r h => by
  unfold prsD at h
  split at h
  · rename_i d e
    cases h
    have := deed_len e
    rw [List.length_take] at this
    exact drop_split (by omega) (by decide)
  · rename_i e2
    split at h
    · rename_i d e
      cases h
      exact drop_split (take_two (by decide) e2 e) (by decide)
    · rename_i e3
      split at h
      · rename_i d e
        cases h
        exact drop_split (take_three e3 e) (by decide)
      · cases h
theorem head_one {ws : List Str} {x : Str} (h : ws.take 1 = [x]) : ws = x :: ws.drop 1 := by
  cases ws with
  | nil => cases h
  | cons y r =>
    have e : y = x := by injection h
    rw [e]
    rfl
theorem suf_brc {pp : Prs (List Tw)} (hp : Suf pp) : Suf (brc pp) := fun ws a r h => by
  unfold brc at h
  split at h
  · rename_i e
    split at h
    · rename_i ts r2 e2
      split at h
      · rename_i e3
        cases h
        obtain ⟨h1, _, e4⟩ := hp _ _ _ e2
        refine ⟨s_ "{" :: (h1 ++ [s_ "}"]), by simp, ?_⟩
        rw [head_one e, e4]
        conv => lhs; rw [head_one e3]
        simp
      · cases h
    · cases h
  · cases h
theorem suf_B {pp : Prs (List Tw)} (hp : Suf pp) (kw : Str) : ∀ ws a r, prsB pp kw ws = some (a, r) → ∃ h, h ≠ [] ∧ ws = h ++ r := fun ws a r h => by
  have st := (List.takeWhile_append_dropWhile (p := nb) (l := ws)).symm
  unfold prsB at h
  split at h
  · rename_i q a1 r1 e1 e2
    obtain ⟨h1, n1, f1⟩ := suf_brc hp _ _ _ e2
    split at h
    · cases h
      exact ⟨ws.takeWhile nb ++ h1, by simp [n1], by rw [List.append_assoc, ← f1]; exact st⟩
    · split at h
      · rename_i e3
        split at h
        · rename_i b r2 e4
          cases h
          obtain ⟨h2, n2, f2⟩ := suf_brc hp _ _ _ e4
          refine ⟨ws.takeWhile nb ++ (h1 ++ s_ "else" :: h2), by simp, ?_⟩
          rw [List.append_assoc, List.append_assoc, List.cons_append, ← f2, ← head_one e3, ← f1]
          exact st
        · cases h
      · cases h
        exact ⟨ws.takeWhile nb ++ h1, by simp [n1], by rw [List.append_assoc, ← f1]; exact st⟩
  · cases h
theorem suf_S {pp : Option (Prs (List Tw))} (hp : ∀ p, pp = some p → Suf p) : Suf (prsS pp) := fun ws a r h => by
  unfold prsS at h
  split at h
  · cases h
  · rename_i x r0
    split at h
    · split at h
      · cases h
      · rename_i p
        obtain ⟨h1, _, e⟩ := suf_B (hp p rfl) _ _ _ _ h
        exact ⟨x :: h1, by simp, by rw [e]; rfl⟩
    · exact suf_D _ _ _ h
theorem suf_L {ps : Prs Tw} (hp : Suf ps) : ∀ k, Suf (prsL ps k)
  | 0, ws, a, r, h => by cases h
  | k + 1, ws, a, r, h => by
    unfold prsL at h
    split at h
    · cases h
    · rename_i t r1 e1
      obtain ⟨h1, n1, f1⟩ := hp _ _ _ e1
      split at h
      · rename_i e2
        split at h
        · rename_i ts r2 e3
          cases h
          obtain ⟨h2, _, f2⟩ := suf_L hp k _ _ _ e3
          refine ⟨h1 ++ s_ ";" :: h2, by simp, ?_⟩
          rw [List.append_assoc, List.cons_append, ← f2, ← head_one e2]
          exact f1
        · cases h
      · cases h
        exact ⟨h1, n1, f1⟩
theorem suf_P {ps : Prs Tw} (hp : Suf ps) : Suf (prsP ps) := fun ws a r h => by
  unfold prsP at h
  split at h
  · rename_i e
    cases h
    exact ⟨[s_ "none"], by simp, head_one e⟩
  · exact suf_L hp _ _ _ _ h
theorem suf_SS : ∀ n, Suf (SS n)
  | 0 => by
    unfold SS
    exact suf_S (fun p h => by cases h)
  | n + 1 => by
    unfold SS
    exact suf_S (fun p h => by cases h; exact suf_P (suf_SS n))
theorem suf_PP (n : Nat) : Suf (PP n) := suf_P (suf_SS n)
/-- what is left begins where the words end less its length -/
theorem suf_at {W : List Str} {p : Nat} {α : Type} {f : Prs α} (hf : Suf f) {a : α} {r : List Str} (h : f (W.drop p) = some (a, r)) : ∃ p', p < p' ∧ p' ≤ W.length ∧ r = W.drop p' := by
  obtain ⟨hh, n, e⟩ := hf _ _ _ h
  have hl := List.length_pos_iff.mpr n
  have el := congrArg List.length e
  rw [List.length_drop, List.length_append] at el
  refine ⟨p + hh.length, by omega, by omega, ?_⟩
  rw [← List.drop_drop, e, List.drop_left]
/-- fuel beyond the length of what is to be read changes nothing -/
theorem fuel {ps : Prs Tw} (hp : Suf ps) : ∀ (k m : Nat) (ws : List Str), ws.length < k → ws.length < m → prsL ps k ws = prsL ps m ws
  | 0, _, _, h, _ => absurd h (Nat.not_lt_zero _)
  | _ + 1, 0, _, _, h => absurd h (Nat.not_lt_zero _)
  | k + 1, m + 1, ws, h1, h2 => by
    simp only [prsL]
    cases e : ps ws with
    | none => rfl
    | some x =>
      obtain ⟨t, r⟩ := x
      obtain ⟨hh, n, f⟩ := hp _ _ _ e
      have hl := List.length_pos_iff.mpr n
      have el := congrArg List.length f
      rw [List.length_append] at el
      have : (r.drop 1).length ≤ r.length := by rw [List.length_drop]; omega
      simp only
      rw [fuel hp k m (r.drop 1) (by omega) (by omega)]
/-! ### what is read is good -/
theorem ok_D {ws r : List Str} {t : Tw} (h : prsD ws = some (t, r)) : ∃ d, t = .act d ∧ K34.DOk d := by
  unfold prsD at h
  split at h
  · rename_i d e
    cases h
    exact ⟨d, rfl, deed_ok e⟩
  · split at h
    · rename_i d e
      cases h
      exact ⟨d, rfl, deed_ok e⟩
    · split at h
      · rename_i d e
        cases h
        exact ⟨d, rfl, deed_ok e⟩
      · cases h

/-! ### the test up to the brace, told by the other reader -/
theorem tst_cases {ws : List Str} {q : Quiz} (h : tst ws = some q) : (rd 3 ws 0 sE []) = (some q, ws.length) := by
  unfold tst at h
  split at h
  · rename_i e
    exact Prod.ext h e
  · cases h
theorem trip_b {a m b : Str} (h : trip a m b = true) : a ≠ s_ "{" ∧ m ≠ s_ "{" ∧ b ≠ s_ "{" := by
  obtain ⟨l1, l2, l3⟩ := trip_parts h
  refine ⟨fun e => ?_, fun e => ?_, fun e => ?_⟩
  · rw [e] at l1; revert l1; decide +kernel
  · rw [e] at l2; revert l2; decide +kernel
  · rw [e] at l3; revert l3; decide +kernel
theorem jt_b {j : Str} (h : isJt j = true) : j ≠ s_ "{" := fun e => by rw [e] at h; revert h; decide +kernel
theorem trip_e {m b : Str} : trip sE m b = false := by
  have : isLet sE = false := by decide +kernel
  unfold trip
  rw [this]
  rfl
theorem jt_br : isJt (s_ "{") = false := by decide +kernel
/-- a reading of a test on some words, the brace behind them -/
theorem rd_ext : ∀ (t : Nat) (a b : List Str) (pos : Nat) (j : Str) (f : List Tri) (q : Quiz), (rd t a pos j f) = (some q, a.length) → pos ≤ a.length → rd t (a ++ s_ "{" :: b) pos j f = (some q, a.length)
  | 0, a, b, pos, j, f, q, h, _ => by simp [rd] at h
  | t + 1, a, b, pos, j, f, q, h, hp => by
    have gl : ∀ i, i < a.length → W (a ++ s_ "{" :: b) i = W a i := fun i hi => by
      show (a ++ s_ "{" :: b).getD i sE = a.getD i sE
      rw [List.getD_eq_getElem?_getD, List.getD_eq_getElem?_getD, List.getElem?_append_left hi]
    have ge : W (a ++ s_ "{" :: b) a.length = s_ "{" := by
      show (a ++ s_ "{" :: b).getD a.length sE = _
      rw [List.getD_eq_getElem?_getD, List.getElem?_append_right (Nat.le_refl _), Nat.sub_self]
      rfl
    unfold rd at h
    split at h
    case isFalse => cases h
    case isTrue ht =>
      have l1 := trip_parts ht
      have in3 : pos + 2 < a.length := by
        rcases Nat.lt_or_ge (pos + 2) a.length with z | z
        · exact z
        · exfalso
          have e : W a (pos + 2) = sE := by
            show a.getD (pos + 2) sE = sE
            rw [List.getD_eq_getElem?_getD, List.getElem?_eq_none z]
            rfl
          have l3 := l1.2.2
          rw [e] at l3
          revert l3
          decide +kernel
      have e1 := gl pos (by omega)
      have e2 := gl (pos + 1) (by omega)
      have e3 := gl (pos + 2) (by omega)
      unfold rd
      rw [e1, e2, e3, if_pos ht]
      split at h
      case isTrue hc =>
        have hl : pos + 3 = a.length := by
          have := congrArg Prod.snd h
          exact this
        have e4 : W (a ++ s_ "{" :: b) (pos + 3) = s_ "{" := by rw [hl]; exact ge
        rw [e4, if_pos (.inl jt_br)]
        exact h
      case isFalse hc =>
        have in4 : pos + 3 < a.length := by
          rcases Nat.lt_or_ge (pos + 3) a.length with z | z
          · exact z
          · exfalso
            have e : W a (pos + 3) = sE := by
              show a.getD (pos + 3) sE = sE
              rw [List.getD_eq_getElem?_getD, List.getElem?_eq_none z]
              rfl
            exact hc (.inl (by rw [e]; exact e_jt))
        rw [gl (pos + 3) in4, if_neg hc]
        exact rd_ext t a b (pos + 4) _ _ q h (by omega)
/-- the words that a reading of a test takes hold no brace; and they alone tell the same -/
theorem rd_back : ∀ (t : Nat) (ws : List Str) (pos : Nat) (j : Str) (f : List Tri) (q : Quiz) (p : Nat), rd t ws pos j f = (some q, p) → p ≤ ws.length ∧ pos < p ∧ (∀ i, pos ≤ i → i < p → W ws i ≠ s_ "{") ∧ (W ws p = s_ "{" → rd t (ws.take p) pos j f = (some q, p))
  | 0, ws, pos, j, f, q, p, h => by simp [rd] at h
  | t + 1, ws, pos, j, f, q, p, h => by
    unfold rd at h
    split at h
    case isFalse => cases h
    case isTrue ht =>
      obtain ⟨b1, b2, b3⟩ := trip_b ht
      have in3 : pos + 2 < ws.length := by
        rcases Nat.lt_or_ge (pos + 2) ws.length with z | z
        · exact z
        · exfalso
          have e : W ws (pos + 2) = sE := by
            show ws.getD (pos + 2) sE = sE
            rw [List.getD_eq_getElem?_getD, List.getElem?_eq_none z]
            rfl
          have l3 := (trip_parts ht).2.2
          rw [e] at l3
          revert l3
          decide +kernel
      split at h
      case isTrue hc =>
        have hp : pos + 3 = p := congrArg Prod.snd h
        subst hp
        refine ⟨by omega, by omega, fun i h1 h2 => ?_, fun hb => ?_⟩
        · have : i = pos ∨ i = pos + 1 ∨ i = pos + 2 := by omega
          rcases this with rfl | rfl | rfl
          · exact b1
          · exact b2
          · exact b3
        · have gl : ∀ i, i < pos + 3 → W (ws.take (pos + 3)) i = W ws i := fun i hi => by
            show (ws.take (pos + 3)).getD i sE = ws.getD i sE
            rw [List.getD_eq_getElem?_getD, List.getD_eq_getElem?_getD, List.getElem?_take_of_lt hi]
          have ge : W (ws.take (pos + 3)) (pos + 3) = sE := by
            show (ws.take (pos + 3)).getD (pos + 3) sE = sE
            rw [List.getD_eq_getElem?_getD, List.getElem?_eq_none (by rw [List.length_take]; omega)]
            rfl
          unfold rd
          rw [gl pos (by omega), gl (pos + 1) (by omega), gl (pos + 2) (by omega), if_pos ht, ge, if_pos (.inl e_jt)]
          exact h
      case isFalse hc =>
        obtain ⟨k1, k2, k3, k4⟩ := rd_back t ws (pos + 4) _ _ q p h
        have j3 : W ws (pos + 3) ≠ s_ "{" := by
          refine jt_b ?_
          cases e : isJt (W ws (pos + 3)) with
          | true => rfl
          | false => exact absurd (.inl e) hc
        refine ⟨k1, by omega, fun i h1 h2 => ?_, fun hb => ?_⟩
        · have : i = pos ∨ i = pos + 1 ∨ i = pos + 2 ∨ i = pos + 3 ∨ pos + 4 ≤ i := by omega
          rcases this with rfl | rfl | rfl | rfl | z
          · exact b1
          · exact b2
          · exact b3
          · exact j3
          · exact k3 i z h2
        · have gl : ∀ i, i < p → W (ws.take p) i = W ws i := fun i hi => by
            show (ws.take p).getD i sE = ws.getD i sE
            rw [List.getD_eq_getElem?_getD, List.getD_eq_getElem?_getD, List.getElem?_take_of_lt hi]
          unfold rd
          rw [gl pos (by omega), gl (pos + 1) (by omega), gl (pos + 2) (by omega), gl (pos + 3) (by omega), if_pos ht, if_neg hc]
          exact k4 hb
theorem tw_split : ∀ (a : List Str) (b : List Str), (∀ w ∈ a, w ≠ s_ "{") → (a ++ s_ "{" :: b).takeWhile nb = a ∧ (a ++ s_ "{" :: b).dropWhile nb = s_ "{" :: b
  | [], b, _ => by
    have : nb (s_ "{") = false := by decide +kernel
    simp [this]
  | x :: r, b, h => by
    have : nb x = true := by unfold nb; exact decide_eq_true (h x (.head _))
    obtain ⟨i1, i2⟩ := tw_split r b fun w hw => h w (.tail _ hw)
    simp only [List.cons_append, List.takeWhile_cons, List.dropWhile_cons, this, if_true, i1, i2]
    exact ⟨trivial, trivial⟩
/-- the test before the brace, and what stands from the brace on: the two ways to find them -/
theorem quiz_two (ws : List Str) (q : Quiz) (r : List Str) : (tst (ws.takeWhile nb) = some q ∧ ws.dropWhile nb = s_ "{" :: r) ↔ ((rd 3 ws 0 sE []).1 = some q ∧ ws.drop (rd 3 ws 0 sE []).2 = s_ "{" :: r) := by
  constructor
  · rintro ⟨h1, h2⟩
    have st := (List.takeWhile_append_dropWhile (p := nb) (l := ws))
    rw [h2] at st
    have e := rd_ext 3 (ws.takeWhile nb) r 0 sE [] q (tst_cases h1) (Nat.zero_le _)
    rw [st] at e
    rw [e]
    refine ⟨rfl, ?_⟩
    show ws.drop (ws.takeWhile nb).length = _
    conv => lhs; rw [← st]
    rw [st, show ws.drop (ws.takeWhile nb).length = (ws.takeWhile nb ++ s_ "{" :: r).drop (ws.takeWhile nb).length by rw [st], List.drop_left]
  · rintro ⟨h1, h2⟩
    obtain ⟨k1, k2, k3, k4⟩ := rd_back 3 ws 0 sE [] q (rd 3 ws 0 sE []).2 (Prod.ext h1 rfl)
    generalize (rd 3 ws 0 sE []).2 = p at k1 k2 k3 k4 h2
    have hw : W ws p = s_ "{" := by
      show ws.getD p sE = _
      have : ws[p]? = some (s_ "{") := dr_at h2
      rw [List.getD_eq_getElem?_getD, this]
      rfl
    have e4 := k4 hw
    have st : ws = ws.take p ++ s_ "{" :: r := by rw [← h2, List.take_append_drop]
    have na : ∀ w ∈ ws.take p, w ≠ s_ "{" := fun w hw' => by
      obtain ⟨i, hi, e⟩ := List.mem_iff_getElem.mp hw'
      have hi2 : i < p := by rw [List.length_take] at hi; omega
      have := k3 i (Nat.zero_le _) hi2
      have e2 : W ws i = w := by
        show ws.getD i sE = w
        rw [List.getD_eq_getElem?_getD, ← List.getElem?_take_of_lt hi2, List.getElem?_eq_getElem hi, e]
        rfl
      rwa [e2] at this
    obtain ⟨t1, t2⟩ := tw_split (ws.take p) r na
    rw [← st] at t1 t2
    refine ⟨?_, t2⟩
    rw [t1]
    unfold tst
    rw [e4, if_pos (by rw [List.length_take]; show p = _; omega)]
end K35
/-! What is read is good; the law's reader, word by word. -/
namespace K35
open PySem PySem.Spec L2 Z K1 TL K36 K34
theorem rd_one : ∀ (t : Nat) (ws : List Str) (pos : Nat) (j : Str) (f : List Tri) (q : Quiz) (p : Nat), rd t ws pos j f = (some q, p) → (f = [] → j = sE) → (j = sE → f = []) → q.2.length = 1 → q.1 = s_ "and"
  | 0, ws, pos, j, f, q, p, h, _, _, _ => by simp [rd] at h
  | t + 1, ws, pos, j, f, q, p, h, hf, hj, h1 => by
    unfold rd at h
    split at h
    case isFalse => cases h
    case isTrue ht =>
      split at h
      case isTrue hc =>
        have e : q = (if j ≠ sE then j else s_ "and", f ++ [(W ws (pos + 1), W ws pos, W ws (pos + 2))]) := by
          have := congrArg Prod.fst h
          injection this with this
          exact this.symm
        rw [e] at h1 ⊢
        have : f = [] := by
          cases f with
          | nil => rfl
          | cons x r => simp at h1
        show (if j ≠ sE then j else s_ "and") = s_ "and"
        rw [if_neg (by rw [hf this]; simp)]
      case isFalse hc =>
        refine rd_one t ws _ _ _ q p h (fun z => by simp at z) (fun z => ?_) h1
        exfalso
        apply hc
        left
        rw [z]
        exact e_jt
theorem tst_QQ {ws : List Str} {q : Quiz} (h : tst ws = some q) : QQ q := ⟨tst_qok h, rd_one 3 ws 0 sE [] q ws.length (tst_cases h) (fun _ => rfl) (fun _ => rfl)⟩
theorem ok_brc {pp : Prs (List Tw)} {n : Nat} (hp : ∀ ws ts r, pp ws = some (ts, r) → OkP n ts) : ∀ ws ts r, brc pp ws = some (ts, r) → OkP n ts := fun ws ts r h => by
  unfold brc at h
  split at h
  · split at h
    · rename_i ts' r2 e2
      split at h
      · cases h
        exact hp _ _ _ e2
      · cases h
    · cases h
  · cases h
theorem ok_L {ps : Prs Tw} {n : Nat} (hp : ∀ ws t r, ps ws = some (t, r) → OkS n t) : ∀ k ws ts r, prsL ps k ws = some (ts, r) → OkP n ts
  | 0, ws, ts, r, h => by cases h
  | k + 1, ws, ts, r, h => by
    unfold prsL at h
    split at h
    · cases h
    · rename_i t r1 e1
      have o1 := hp _ _ _ e1
      split at h
      · split at h
        · rename_i ts' r2 e3
          cases h
          intro y hy
          rcases List.mem_cons.mp hy with rfl | hy
          · exact o1
          · exact ok_L hp k _ _ _ e3 y hy
        · cases h
      · cases h
        intro y hy
        rw [List.mem_singleton.mp hy]
        exact o1
theorem ok_P {ps : Prs Tw} {n : Nat} (hp : ∀ ws t r, ps ws = some (t, r) → OkS n t) : ∀ ws ts r, prsP ps ws = some (ts, r) → OkP n ts := fun ws ts r h => by
  unfold prsP at h
  split at h
  · cases h
    exact fun y hy => by cases hy
  · exact ok_L hp _ _ _ _ h
theorem ok_S : ∀ n ws t r, SS n ws = some (t, r) → OkS n t
  | 0, ws, t, r, h => by
    unfold SS prsS at h
    split at h
    · cases h
    · split at h
      · cases h
      · obtain ⟨d, rfl, hd⟩ := ok_D h
        exact act_ok hd
  | n + 1, ws, t, r, h => by
    unfold SS prsS at h
    split at h
    · cases h
    · rename_i x r0
      split at h
      · simp only at h
        have hb := ok_brc (ok_P (ok_S n))
        unfold prsB at h
        split at h
        · rename_i q a r1 e1 e2
          have oa := hb _ _ _ e2
          have oq := tst_QQ e1
          split at h
          · cases h
            exact ⟨oq, oa⟩
          · split at h
            · split at h
              · rename_i b r2 e4
                cases h
                exact ⟨oq, oa, hb _ _ _ e4⟩
              · cases h
            · cases h
              exact ⟨oq, oa, fun y hy => by cases hy⟩
        · cases h
      · obtain ⟨d, rfl, hd⟩ := ok_D h
        exact act_ok hd
theorem ok_PP {n : Nat} {ws r : List Str} {ts : List Tw} (h : PP n ws = some (ts, r)) : OkP n ts := ok_P (ok_S n) _ _ _ h
/-! ### a deed, word by word -/
theorem W_0 (x : Str) (r : List Str) : W (x :: r) 0 = x := rfl
def lawD (ws : List Str) : Option (Deed × Nat) :=
  if isLet (W ws 0) = true then
    (if W ws 1 ≠ s_ "=" then none
     else if W ws 2 = s_ "next" then (if isLet (W ws 3) = true then some (.next (W ws 0) (W ws 3), 4) else none)
     else if W ws 2 = s_ "new" then some (.new (W ws 0), 3)
     else if isTgt (W ws 2) = true then some (.copy (W ws 0) (W ws 2), 3) else none)
  else if W ws 0 = s_ "next" then (if isLet (W ws 1) = true ∧ W ws 2 = s_ "=" ∧ isTgt (W ws 3) = true then some (.tie (W ws 1) (W ws 3), 4) else none)
  else if W ws 0 = s_ "drop" then (if isLet (W ws 1) = true then some (.drop (W ws 1), 2) else none)
  else none
theorem el : isLet sE = false := by decide +kernel
theorem et : isTgt sE = false := by decide +kernel
theorem d_short {a b : Str} {r : List Str} : deedIn ([a, b] ++ r).dropLast = deedIn ([a, b] ++ r).dropLast := rfl
theorem deed0 : deedIn [] = none := rfl
theorem deed1 (a : Str) : deedIn [a] = none := rfl
theorem ln_drop' {a : Str} (h : isLet a = true) : ¬ a = s_ "drop" := ln_drop h
theorem prsD_law (ws : List Str) : prsD ws = (lawD ws).map fun x => (.act x.1, ws.drop x.2) := by
  have e1 : ¬ sE = s_ "=" := by decide +kernel
  have e2 : ¬ sE = s_ "next" := by decide +kernel
  have e3 : ¬ sE = s_ "new" := by decide +kernel
  have e4 : ¬ sE = s_ "drop" := by decide +kernel
  have nd : ¬ s_ "next" = s_ "drop" := by decide +kernel
  have dl : isLet (s_ "drop") = false := lt_drop
  have nl : isLet (s_ "next") = false := lt_next
  have nt : isTgt (s_ "next") = false := tg_next
  have nn : ¬ s_ "next" = s_ "new" := ne_nn
  have wn : ¬ s_ "new" = s_ "next" := fun e => nn e.symm
  have dn : ¬ s_ "drop" = s_ "next" := fun e => nd e.symm
  have lne : ∀ a : Str, isLet a = true → ¬ a = s_ "drop" ∧ ¬ a = s_ "next" := fun a h => ⟨ln_drop h, ln_next h⟩
  match ws with
  | [] => simp [prsD, lawD, deedIn, el, e2, e4]
  | [a] =>
    by_cases h : isLet a = true
    · simp [prsD, lawD, deedIn, h, e1]
    · by_cases h2 : a = s_ "next"
      · simp [prsD, lawD, deedIn, h, h2, el, nl]
      · by_cases h3 : a = s_ "drop"
        · simp [prsD, lawD, deedIn, h, h2, h3, el, dl, dn]
        · simp [prsD, lawD, deedIn, h, h2, h3]
  | [a, b] =>
    by_cases h : isLet a = true
    · obtain ⟨n1, n2⟩ := lne a h
      by_cases hb : b = s_ "="
      · simp [prsD, lawD, deedIn, h, n1, hb, e2, e3, et]
      · simp [prsD, lawD, deedIn, h, n1, hb]
    · by_cases h2 : a = s_ "next"
      · simp [prsD, lawD, deedIn, h2, nl, nd, e1]
      · by_cases h3 : a = s_ "drop"
        · by_cases hb : isLet b = true <;> simp [prsD, lawD, deedIn, h3, dl, dn, hb]
        · simp [prsD, lawD, deedIn, h, h2, h3]
  | [a, b, c] =>
    by_cases h : isLet a = true
    · obtain ⟨n1, n2⟩ := lne a h
      by_cases hb : b = s_ "="
      · by_cases hc : c = s_ "next"
        · simp [prsD, lawD, deedIn, h, n1, hb, hc, nn, nt, el]
        · by_cases hc2 : c = s_ "new"
          · simp [prsD, lawD, deedIn, h, n1, hb, hc, hc2, wn]
          · by_cases hc3 : isTgt c = true <;> simp [prsD, lawD, deedIn, h, n1, hb, hc, hc2, hc3]
      · simp [prsD, lawD, deedIn, h, n1, hb]
    · by_cases h2 : a = s_ "next"
      · simp [prsD, lawD, deedIn, h2, nl, nd, et]
      · by_cases h3 : a = s_ "drop"
        · by_cases hb : isLet b = true <;> simp [prsD, lawD, deedIn, h3, dl, dn, hb]
        · simp [prsD, lawD, deedIn, h, h2, h3]
  | a :: b :: c :: d :: r =>
    by_cases h : isLet a = true
    · obtain ⟨n1, n2⟩ := lne a h
      by_cases hb : b = s_ "="
      · by_cases hc : c = s_ "next"
        · by_cases hd : isLet d = true <;> simp [prsD, lawD, deedIn, h, n1, n2, hb, hc, nn, nt, hd]
        · by_cases hc2 : c = s_ "new"
          · simp [prsD, lawD, deedIn, h, n1, hb, hc, hc2, wn]
          · by_cases hc3 : isTgt c = true <;> simp [prsD, lawD, deedIn, h, n1, n2, hb, hc, hc2, hc3]
      · simp [prsD, lawD, deedIn, h, n1, n2, hb]
    · by_cases h2 : a = s_ "next"
      · by_cases hb : isLet b = true <;> by_cases hc : c = s_ "=" <;> by_cases hd : isTgt d = true <;> simp [prsD, lawD, deedIn, h2, nl, nd, hb, hc, hd]
      · by_cases h3 : a = s_ "drop"
        · by_cases hb : isLet b = true <;> simp [prsD, lawD, deedIn, h3, dl, dn, hb]
        · simp [prsD, lawD, deedIn, h, h2, h3]

/-! ### with the count -/
def cut30 (c : Nat) (o : Option (Tw × List Str)) : Option (Tw × List Str) := match o with
  | some (t, r) => if c + cntS t ≤ 30 then some (t, r) else none
  | none => none
def cutP (c : Nat) (o : Option (List Tw × List Str)) : Option (List Tw × List Str) := match o with
  | some (t, r) => if c + cntP t ≤ 30 then some (t, r) else none
  | none => none
theorem SS_act {n : Nat} {x : Str} {r : List Str} (h : isBr x = false) : SS n (x :: r) = prsD (x :: r) := by
  cases n <;> (unfold SS prsS; simp only [h, Bool.false_eq_true, if_false])
theorem SS_0 {x : Str} {r : List Str} (h : isBr x = true) : SS 0 (x :: r) = none := by
  unfold SS prsS
  simp only [h, if_true]
theorem SS_br {n : Nat} {x : Str} {r : List Str} (h : isBr x = true) : SS (n + 1) (x :: r) = prsB (PP n) x r := by
  unfold SS prsS PP
  simp only [h, if_true]
theorem SS_nil {n : Nat} : SS n [] = none := by
  cases n <;> (unfold SS prsS; rfl)
theorem rd_shift : ∀ (t : Nat) (ws : List Str) (p i : Nat) (j : Str) (f : List Tri), rd t ws (p + i) j f = ((rd t (ws.drop p) i j f).1, p + (rd t (ws.drop p) i j f).2)
  | 0, ws, p, i, j, f => by simp only [rd]
  | t + 1, ws, p, i, j, f => by
    have e : ∀ k, W (ws.drop p) k = W ws (p + k) := fun k => by
      show (ws.drop p).getD k sE = ws.getD (p + k) sE
      rw [List.getD_eq_getElem?_getD, List.getD_eq_getElem?_getD, List.getElem?_drop]
    simp only [rd, e, ← Nat.add_assoc]
    split
    · split
      · rfl
      · rw [Nat.add_assoc p i 4, rd_shift t ws p (i + 4)]
    · rfl
theorem no_brace {ws : List Str} (h : s_ "{" ∉ ws) : ws.dropWhile nb = [] := by
  induction ws with
  | nil => rfl
  | cons x r ih =>
    have : nb x = true := by unfold nb; exact decide_eq_true (fun e => h (by rw [e]; exact .head _))
    rw [List.dropWhile_cons, this, if_pos rfl]
    exact ih fun z => h (.tail _ z)
theorem with_brace {ws : List Str} (h : s_ "{" ∈ ws) : ∃ r, ws.dropWhile nb = s_ "{" :: r := by
  induction ws with
  | nil => cases h
  | cons x t ih =>
    by_cases e : x = s_ "{"
    · have : nb x = false := by unfold nb; exact decide_eq_false (fun z => z e)
      exact ⟨t, by rw [List.dropWhile_cons, this, e]; rfl⟩
    · have : nb x = true := by unfold nb; exact decide_eq_true e
      obtain ⟨r, hr⟩ := ih (by rcases List.mem_cons.mp h with h | h; exact absurd h.symm e; exact h)
      exact ⟨r, by rw [List.dropWhile_cons, this, if_pos rfl, hr]⟩
theorem tw_no {ws : List Str} : ∀ w ∈ ws.takeWhile nb, w ≠ s_ "{" := fun w hw => by
  induction ws with
  | nil => cases hw
  | cons x t ih =>
    rw [List.takeWhile_cons] at hw
    split at hw
    · rename_i e
      rcases List.mem_cons.mp hw with rfl | hw
      · unfold nb at e
        exact of_decide_eq_true e
      · exact ih hw
    · cases hw
/-- the program's last word on a text -/
def prog (ws : List Str) : Option (List Tw) := match PP 4 ws with
  | some (ts, r) => if r = [] ∧ cntP ts ≤ 30 then some ts else none
  | none => none
/-- every statement takes a word at least -/
def Few {α : Type} (c : α → Nat) (p : Prs α) : Prop := ∀ ws a r, p ws = some (a, r) → c a + r.length ≤ ws.length
theorem few_D : Few cntS prsD := fun ws a r h => by
  obtain ⟨d, rfl, _⟩ := ok_D h
  obtain ⟨hh, n, e⟩ := suf_D _ _ _ h
  have hl := List.length_pos_iff.mpr n
  have el := congrArg List.length e
  rw [List.length_append] at el
  simp only [cntS]
  omega
theorem few_brc {pp : Prs (List Tw)} (hp : Few cntP pp) : Few cntP (brc pp) := fun ws a r h => by
  unfold brc at h
  split at h
  · split at h
    · rename_i ts r2 e2
      split at h
      · cases h
        have := hp _ _ _ e2
        rw [List.length_drop] at this ⊢
        omega
      · cases h
    · cases h
  · cases h
theorem few_L {ps : Prs Tw} (hp : Few cntS ps) : ∀ k, Few cntP (prsL ps k)
  | 0, ws, a, r, h => by cases h
  | k + 1, ws, a, r, h => by
    unfold prsL at h
    split at h
    · cases h
    · rename_i t r1 e1
      have o1 := hp _ _ _ e1
      split at h
      · split at h
        · rename_i ts' r2 e3
          cases h
          have := few_L hp k _ _ _ e3
          rw [List.length_drop] at this
          simp only [cntP]
          omega
        · cases h
      · cases h
        simp only [cntP]
        omega
theorem few_P {ps : Prs Tw} (hp : Few cntS ps) : Few cntP (prsP ps) := fun ws a r h => by
  unfold prsP at h
  split at h
  · cases h
    simp only [cntP, List.length_drop]
    omega
  · exact few_L hp _ _ _ _ h
theorem few_S : ∀ n, Few cntS (SS n)
  | 0, ws, t, r, h => by
    unfold SS prsS at h
    split at h
    · cases h
    · split at h
      · cases h
      · exact few_D _ _ _ h
  | n + 1, ws, t, r, h => by
    unfold SS prsS at h
    split at h
    · cases h
    · rename_i x r0
      split at h
      · simp only at h
        have hb := few_brc (few_P (few_S n))
        have st := congrArg List.length (List.takeWhile_append_dropWhile (p := nb) (l := r0))
        rw [List.length_append] at st
        unfold prsB at h
        split at h
        · rename_i q a r1 e1 e2
          have oa := hb _ _ _ e2
          split at h
          · cases h
            simp only [cntS, List.length_cons]
            omega
          · split at h
            · split at h
              · rename_i b r2 e4
                cases h
                have ob := hb _ _ _ e4
                rw [List.length_drop] at ob
                simp only [cntS, List.length_cons]
                omega
              · cases h
            · cases h
              simp only [cntS, cntP, List.length_cons]
              omega
        · cases h
      · exact few_D _ _ _ h
theorem cnt_words {n : Nat} {ws r : List Str} {ts : List Tw} (h : PP n ws = some (ts, r)) : cntP ts ≤ ws.length := by
  have := few_P (few_S n) _ _ _ h
  omega
end K35
/-! Texts that are no programs: promises. -/
namespace K35
open PySem PySem.Spec L2 Z K1 TL K36 K34
section
variable (K : PySem.W.Frag) (C : Addr)
def q_deed : Sp := fun vs H Q _ => ∃ (l : Addr) (ws : List Str), vs = [.ref l] ∧ SqL K H l (ws.map V.str) ∧ ws.length ≤ 4 ∧ (∀ w ∈ ws, TxOk 12000 w) ∧ ∀ H', Same H H' → (deedIn ws = none → Q .non H') ∧ ∀ d a, deedIn ws = some d → Dp K H' (.ref a) (dD d) → Q (.ref a) H'
def q_test_in : Sp := fun vs H Q _ => ∃ (l : Addr) (ws : List Str), vs = [.ref l] ∧ SqL K H l (ws.map V.str) ∧ (∀ w ∈ ws, TxOk 12000 w) ∧ ws.length ≤ 24010 ∧ Told K (tst ws) H Q
def GotP (o : Option (List Tw × List Str)) (W : List Str) (H : Hp) (Q : VK) : Prop := ∀ H', Same H H' → (o = none → Q .non H') ∧ ∀ ts p' v r, o = some (ts, W.drop p') → p' ≤ W.length → SqT K H' v [r, .int (p' : Int)] → Dp K H' r (.tuple (dL ts)) → Q (.ref v) H'
def GotS (o : Option (Tw × List Str)) (W : List Str) (H : Hp) (Q : VK) : Prop := ∀ H', Same H H' → (o = none → Q .non H') ∧ ∀ t p' v r, o = some (t, W.drop p') → p' ≤ W.length → SqT K H' v [r, .int (p' : Int)] → Dp K H' r (dS t) → Q (.ref v) H'
def q_read (n : Nat) : Sp := fun vs H Q _ => ∃ (l : Addr) (W : List Str) (pos : Nat), vs = [.ref l, .int (pos : Int), .int (4 - (n : Int))] ∧ n ≤ 4 ∧ Wd H l W ∧ pos ≤ W.length ∧ GotP K (PP n (W.drop pos)) W H Q
def q_read_statement (n : Nat) : Sp := fun vs H Q _ => ∃ (l : Addr) (W : List Str) (pos : Nat), vs = [.ref l, .int (pos : Int), .int (4 - (n : Int))] ∧ n ≤ 4 ∧ Wd H l W ∧ pos ≤ W.length ∧ GotS K (SS n (W.drop pos)) W H Q
def q_read_branching (n : Nat) : Sp := fun vs H Q _ => ∃ (l : Addr) (W : List Str) (pos : Nat) (x : Str) (r : List Str), vs = [.ref l, .int (pos : Int), .int (4 - (n : Int))] ∧ n ≤ 4 ∧ Wd H l W ∧ W.drop pos = x :: r ∧ isBr x = true ∧ GotS K (SS n (x :: r)) W H Q
def q_read_braces (n : Nat) : Sp := fun vs H Q _ => ∃ (l : Addr) (W : List Str) (pos : Nat), vs = [.ref l, .int (pos : Int), .int (3 - (n : Int))] ∧ n ≤ 3 ∧ Wd H l W ∧ pos ≤ W.length ∧ GotP K (brc (PP n) (W.drop pos)) W H Q
def q_all (n : Nat) : Sp := fun vs H Q _ => ∃ (v : V) (ts : List Tw), vs = [v] ∧ PAt K H v ts ∧ OkP n ts ∧ cntP ts ≤ 26000 ∧ ∀ H' l xs, Same H H' → H l = none → H' l = some (.lst xs) → xs.length = cntP ts → Q (.ref l) H'
def q_statements : Sp := fun vs H Q _ => ∃ (v : V) (ts : List Tw), vs = [v] ∧ PAt K H v ts ∧ OkP 4 ts ∧ cntP ts ≤ 26000 ∧ ∀ H', Same H H' → Q (.int (cntP ts : Nat)) H'
def ToldP (o : Option (List Tw)) (H : Hp) (Q : VK) : Prop := ∀ H', Same H H' → (o = none → Q .non H') ∧ ∀ ts a, o = some ts → OkP 4 ts → cntP ts ≤ 30 → PAt K H' (.ref a) ts → Q (.ref a) H'
def txt (x : Str) : Option (List Tw) := prog (ungl (spl x))
def q_por : Sp := fun vs H Q _ => ∃ v, vs = [v] ∧ ((∃ x, v = .str x ∧ TxOk 12000 x ∧ ToldP K (txt x) H Q) ∨ (NotStr K H v ∧ Q .non H))
def q_isp : Sp := fun vs H Q _ => ∃ v, vs = [v] ∧ ((∃ x, v = .str x ∧ TxOk 12000 x ∧ ∀ H', Same H H' → Q (.bl (txt x).isSome) H') ∨ (NotStr K H v ∧ Q (.bl false) H))
def NoProg (H : Hp) (v : V) : Prop := (∃ x, v = .str x ∧ TxOk 12000 x ∧ txt x = none) ∨ NotStr K H v
def q_tree : Sp := fun vs H Q E => ∃ v, vs = [v] ∧ ((∃ x ts, v = .str x ∧ TxOk 12000 x ∧ txt x = some ts ∧ ∀ H' a, Same H H' → OkP 4 ts → cntP ts ≤ 30 → PAt K H' (.ref a) ts → Q (.ref a) H') ∨ (NoProg K H v ∧ ∀ H', Same H H' → Bad C "given" v H' E))
def q_refused : Sp := fun vs H Q _ => ∃ v, vs = [v] ∧ NoProg K H v ∧ Shown K H v ∧ ∀ H', Same H H' → Q (.bl true) H'
end
section
variable {K : PySem.W.Frag} {H : Hp} {Q : VK}
/-- a slice of one word at most among the two that branch -/
theorem br_in {p p1 p2 t : Addr} {xs : List V} {ws : List Str} (ok : ∀ z ∈ ws, PyData.strOk z = true) (h0 : H p = none) (h1 : upd H p (.lst xs) p1 = none) (h2 : upd (upd H p (.lst xs)) p1 (.lst [.str (s_ "if")]) p2 = none)
    (h3 : upd (upd (upd H p (.lst xs)) p1 (.lst [.str (s_ "if")])) p2 (.lst [.str (s_ "while")]) t = none) (ex : xs = ws.map V.str) (k : ∀ H2, Same H H2 → Q (.bl (decide ([s_ "if"] = ws) || decide ([s_ "while"] = ws))) H2) :
    rInTD K (.ref p) (.ref t) (upd (upd (upd (upd H p (.lst xs)) p1 (.lst [.str (s_ "if")])) p2 (.lst [.str (s_ "while")])) t (.tup [.ref p1, .ref p2])) Q := by
  have s0 := same_new (o := .lst xs) h0
  have s1 := same_new (o := .lst [V.str (s_ "if")]) h1
  have s2 := same_new (o := .lst [V.str (s_ "while")]) h2
  have s3 := same_new (o := .tup [V.ref p1, V.ref p2]) h3
  have e0 := s3 _ _ (s2 _ _ (s1 _ _ (show upd H p (.lst xs) p = some (.lst (ws.map V.str)) by rw [upd_same, ex])))
  have e1 := s3 _ _ (s2 _ _ (show upd (upd H p (.lst xs)) p1 (.lst [.str (s_ "if")]) p1 = some (.lst ([s_ "if"].map V.str)) from upd_same))
  have e2 := s3 _ _ (show upd (upd (upd H p (.lst xs)) p1 (.lst [.str (s_ "if")])) p2 (.lst [.str (s_ "while")]) p2 = some (.lst ([s_ "while"].map V.str)) from upd_same)
  refine ⟨.list (ws.map PyData.str), [.list ([s_ "if"].map PyData.str), .list ([s_ "while"].map PyData.str)], .lst (.inl (.inl e0)) (Z.dp_strs _), .tup (.inl (.inl upd_same)) (.cons (.lst (.inl (.inl e1)) (Z.dp_strs _)) (.cons (.lst (.inl (.inl e2)) (Z.dp_strs _)) .nil)), Z.shaped_strs _ ok, by decide +kernel, ?_⟩
  rw [List.any_cons, List.any_cons, List.any_nil, eqv_strs, eqv_strs, Bool.or_false]
  exact k _ (s0.trans (s1.trans (s2.trans s3)))
end
/-- one turn of a reading of statements -/
def GInv (K : PySem.W.Frag) (H : Hp) (l : Addr) (W : List Str) (n pos : Nat) (m : Nat) (σ : L2.St) (H' : Hp) : Prop := Same H H' ∧ ∃ (a : List Tw) (p : Nat) (v : Addr) (x4 : Option V), σ = [some (.ref l), some (.int (p : Int)), some (.int (4 - (n : Int))), some (.ref v), x4] ∧ PAt K H' (.ref v) a ∧ OkP n a ∧ a.length ≤ p ∧ p ≤ W.length ∧ (W.drop p).length < m ∧ PP n (W.drop pos) = (prsL (SS n) m (W.drop p)).map fun x => (a ++ x.1, x.2)
theorem drop_inj {W : List Str} {p q : Nat} (hp : p ≤ W.length) (hq : q ≤ W.length) (h : W.drop p = W.drop q) : p = q := by
  have := congrArg List.length h
  rw [List.length_drop, List.length_drop] at this
  omega
theorem ws_few {ws : List Str} (h : ws.length ≤ 4) : ws = [] ∨ (∃ a, ws = [a]) ∨ (∃ a b, ws = [a, b]) ∨ (∃ a m b, ws = [a, m, b]) ∨ ∃ a m x b, ws = [a, m, x, b] := by
  match ws, h with
  | [], _ => exact .inl rfl
  | [a], _ => exact .inr (.inl ⟨a, rfl⟩)
  | [a, b], _ => exact .inr (.inr (.inl ⟨a, b, rfl⟩))
  | [a, m, b], _ => exact .inr (.inr (.inr (.inl ⟨a, m, b, rfl⟩)))
  | [a, m, x, b], _ => exact .inr (.inr (.inr (.inr ⟨a, m, x, b, rfl⟩)))
end K35
namespace K35
open PySem PySem.Spec L2 Z K1 TL K36 K34
/-- the law's reader: its words, the place of the next, how many statements were begun -/
structure RdC (K : PySem.W.Frag) (H : Hp) (r l : Addr) (ws : List Str) (pos c : Nat) : Prop where
  rd : H r = some (.lst [.ref l, .int (pos : Int), .int (c : Int)])
  wd : H l = some (.lst (ws.map V.str))
  ne : l ≠ r
theorem RdC.same {K : PySem.W.Frag} {H H' : Hp} {r l : Addr} {ws : List Str} {pos c : Nat} (e : Same H H') (h : RdC K H r l ws pos c) : RdC K H' r l ws pos c := ⟨e _ _ h.rd, e _ _ h.wd, h.ne⟩
def cutB (c : Nat) (o : Option (Tw × List Str)) : Option (Tw × List Str) := match o with
  | some (t, r) => if c + cntS t ≤ 31 then some (t, r) else none
  | none => none
section
variable (K : PySem.W.Frag)
def l_ahead : Sp := fun vs H Q _ => ∃ (r l : Addr) (ws : List Str) (pos c : Nat), vs = [.ref r] ∧ RdC K H r l ws pos c ∧ Q (.str (W ws pos)) H
def l_next : Sp := fun vs H Q _ => ∃ (r l : Addr) (ws : List Str) (pos c : Nat), vs = [.ref r] ∧ RdC K H r l ws pos c ∧ ∀ H', Chg r H H' → RdC K H' r l ws (pos + 1) c → Q (.str (W ws pos)) H'
def l_quiz : Sp := fun vs H Q _ => ∃ (r l : Addr) (ws : List Str) (pos c : Nat), vs = [.ref r] ∧ RdC K H r l ws pos c ∧ (∀ w ∈ ws, TxOk 12000 w) ∧ ∀ H', Chg r H H' → RdC K H' r l ws (rd 3 ws pos sE []).2 c → ((rd 3 ws pos sE []).1 = none → Q .non H') ∧ ∀ q u, (rd 3 ws pos sE []).1 = some q → QAt K H' u q → Q u H'
def l_twig (n : Nat) : Sp := fun vs H Q _ => ∃ (r l : Addr) (ws : List Str) (pos c : Nat), vs = [.ref r, .int (4 - (n : Int))] ∧ n ≤ 4 ∧ RdC K H r l ws pos c ∧ (∀ w ∈ ws, TxOk 12000 w) ∧ pos ≤ ws.length ∧ ∀ H', Chg r H H' → (cut30 c (SS n (ws.drop pos)) = none → Q .non H') ∧ ∀ t p' a, cut30 c (SS n (ws.drop pos)) = some (t, ws.drop p') → p' ≤ ws.length → RdC K H' r l ws p' (c + cntS t) → Dp K H' (.ref a) (dS t) → Q (.ref a) H'
def l_braced (n : Nat) : Sp := fun vs H Q _ => ∃ (r l : Addr) (ws : List Str) (pos c m : Nat) (kw : Str), vs = [.ref r, .int (4 - (n : Int)), .str kw] ∧ n = m + 1 ∧ n ≤ 4 ∧ c ≤ 30 ∧ isBr kw = true ∧ RdC K H r l ws pos c ∧ (∀ w ∈ ws, TxOk 12000 w) ∧ pos ≤ ws.length ∧ ∀ H', Chg r H H' → (cutB c (prsB (PP m) kw (ws.drop pos)) = none → Q .non H') ∧ ∀ t p' c' a, cutB c (prsB (PP m) kw (ws.drop pos)) = some (t, ws.drop p') → p' ≤ ws.length → c' + 1 = c + cntS t → RdC K H' r l ws p' c' → Dp K H' (.ref a) (dS t) → Q (.ref a) H'
def l_twigs (n : Nat) : Sp := fun vs H Q _ => ∃ (r l : Addr) (ws : List Str) (pos c : Nat), vs = [.ref r, .int (4 - (n : Int))] ∧ n ≤ 4 ∧ c ≤ 30 ∧ RdC K H r l ws pos c ∧ (∀ w ∈ ws, TxOk 12000 w) ∧ pos ≤ ws.length ∧ ∀ H', Chg r H H' → (cutP c (PP n (ws.drop pos)) = none → Q .non H') ∧ ∀ ts p' a, cutP c (PP n (ws.drop pos)) = some (ts, ws.drop p') → p' ≤ ws.length → RdC K H' r l ws p' (c + cntP ts) → PAt K H' (.ref a) ts → Q (.ref a) H'
def l_read : Sp := fun vs H Q _ => ∃ x : Str, vs = [.str x] ∧ TxOk 12000 x ∧ ToldP K (txt x) H Q
end
def l_judged : Sp := fun vs H Q _ => ∃ x : Str, vs = [.str x] ∧ TxOk 12000 x ∧ ∀ H', Same H H' → Q (.bl true) H'
def p_bent35 : Sp := fun vs H Q _ => ∃ (j : Addr) (x : Str) (n : Nat), vs = [.ref j, .str x] ∧ JugAt H j ∧ TxOk n x ∧ n ≤ 5000 ∧ ∀ H' y, Chg j H H' → JugAt H' j → TxOk (2 * n + 20) y → Q (.str y) H'
def l_edge : Sp := fun vs H Q _ => ∃ j, vs = [.ref j] ∧ JugAt H j ∧ ∀ H' x, Chg j H H' → JugAt H' j → TxOk 500 x → Q (.str x) H'
def l_odd (K : PySem.W.Frag) : Sp := fun vs H Q _ => ∃ j, vs = [.ref j] ∧ JugAt H j ∧ ∀ H' v, Chg j H H' → JugAt H' j → (∀ H2, Chg j H' H2 → NoProg K H2 v ∧ Shown K H2 v) → Q v H'
theorem W_lt {ws : List Str} {i : Nat} (h : W ws i ≠ sE) : i < ws.length := by
  rcases Nat.lt_or_ge i ws.length with z | z
  · exact z
  · exact absurd (show ws.getD i sE = sE by rw [List.getD_eq_getElem?_getD, List.getElem?_eq_none z]; rfl) h
theorem W_drop (ws : List Str) (p i : Nat) : W (ws.drop p) i = W ws (p + i) := by
  show (ws.drop p).getD i sE = ws.getD (p + i) sE
  rw [List.getD_eq_getElem?_getD, List.getD_eq_getElem?_getD, List.getElem?_drop]
theorem let_e {w : Str} (h : isLet w = true) : w ≠ sE := fun e => by rw [e, el] at h; cases h
theorem tgt_e {w : Str} (h : isTgt w = true) : w ≠ sE := fun e => by rw [e, et] at h; cases h
theorem lawD_len {ws : List Str} {d : Deed} {k : Nat} (h : lawD ws = some (d, k)) : k ≤ ws.length := by
  unfold lawD at h
  split at h
  · split at h
    · cases h
    · split at h
      · split at h
        · rename_i k4
          cases h
          exact W_lt (let_e k4)
        · cases h
      · split at h
        · rename_i e
          cases h
          exact W_lt (i := 2) (by rw [e]; decide +kernel)
        · split at h
          · rename_i k4
            cases h
            exact W_lt (i := 2) (tgt_e k4)
          · cases h
  · split at h
    · split at h
      · rename_i k4
        cases h
        exact W_lt (i := 3) (tgt_e k4.2.2)
      · cases h
    · split at h
      · split at h
        · rename_i k4
          cases h
          exact W_lt (i := 1) (let_e k4)
        · cases h
      · cases h
theorem lawD_ok {ws : List Str} {d : Deed} {k : Nat} (h : lawD ws = some (d, k)) : K34.DOk d := by
  have e := prsD_law ws
  rw [h] at e
  obtain ⟨d', e2, ok⟩ := ok_D e
  cases e2
  exact ok
theorem SS_law {n : Nat} {ws : List Str} {pos : Nat} (h : isBr (W ws pos) = false) : SS n (ws.drop pos) = (lawD (ws.drop pos)).map fun x => (.act x.1, ws.drop (pos + x.2)) := by
  have e : SS n (ws.drop pos) = prsD (ws.drop pos) := by
    cases hd : ws.drop pos with
    | nil => rw [SS_nil]; rfl
    | cons x r =>
      refine SS_act ?_
      have : W ws pos = x := by
        have := W_drop ws pos 0
        rw [hd] at this
        exact this.symm
      rwa [this] at h
  rw [e, prsD_law]
  cases lawD (ws.drop pos) with
  | none => rfl
  | some x => simp [List.drop_drop]
theorem br_drop {ws : List Str} {pos : Nat} (h : isBr (W ws pos) = true) : ws.drop pos = W ws pos :: ws.drop (pos + 1) ∧ pos < ws.length := by
  have hl : pos < ws.length := W_lt (fun e => by rw [e] at h; revert h; decide +kernel)
  refine ⟨?_, hl⟩
  rw [List.drop_eq_getElem_cons hl]
  congr 1
  show _ = ws.getD pos sE
  rw [List.getD_eq_getElem?_getD, List.getElem?_eq_getElem hl]
  rfl
theorem take_W {ws : List Str} {p : Nat} {x : Str} (hx : x ≠ sE) : ((ws.drop p).take 1 = [x]) ↔ W ws p = x := by
  constructor
  · intro h
    have := dr_at (head_one h)
    show ws.getD p sE = x
    rw [List.getD_eq_getElem?_getD, this]
    rfl
  · intro h
    have hl : p < ws.length := W_lt (by rw [h]; exact hx)
    rw [List.drop_eq_getElem_cons hl]
    show [ws[p]] = [x]
    rw [← h]
    congr 1
    show _ = ws.getD p sE
    rw [List.getD_eq_getElem?_getD, List.getElem?_eq_getElem hl]
    rfl
end K35
namespace K35
open PySem PySem.Spec L2 Z K1 TL K36 K34
theorem none_ne' {H : Hp} {a b : Addr} {o : HO} (h : H a = none) (k : H b = some o) : b ≠ a := fun e => by rw [← e, k] at h; cases h
end K35
namespace K35
open PySem PySem.Spec L2 Z K1 TL K36 K34
theorem prsB_rd (pp : Prs (List Tw)) (kw : Str) (ws : List Str) : prsB pp kw ws = (match (rd 3 ws 0 sE []).1, brc pp (ws.drop (rd 3 ws 0 sE []).2) with
    | some q, some (a, r) => if kw = s_ "while" then some (.whi q a, r) else if r.take 1 = [s_ "else"] then (match brc pp (r.drop 1) with
      | some (b, r2) => some (.ifs q a b, r2)
      | none => none) else some (.ifs q a [], r)
    | _, _ => none) := by
  have hd : ∀ vs : List Str, brc pp vs ≠ none → ∃ r, vs = s_ "{" :: r := fun vs h => by
    unfold brc at h
    split at h
    · rename_i e
      exact ⟨_, head_one e⟩
    · exact absurd rfl h
  unfold prsB
  by_cases hA : ∃ q r, tst (ws.takeWhile nb) = some q ∧ ws.dropWhile nb = s_ "{" :: r
  · obtain ⟨q, r, h1, h2⟩ := hA
    obtain ⟨h3, h4⟩ := (quiz_two ws q r).mp ⟨h1, h2⟩
    rw [h1, h2, h3, h4]
    all_goals (first | rfl | (cases brc pp (s_ "{" :: r) <;> rfl))
  · have l : ∀ q, tst (ws.takeWhile nb) = some q → brc pp (ws.dropWhile nb) = none := fun q h1 => by
      cases e : brc pp (ws.dropWhile nb) with
      | none => rfl
      | some x =>
        obtain ⟨r, hr⟩ := hd _ (by rw [e]; simp)
        exact absurd ⟨q, r, h1, hr⟩ hA
    have l2 : ∀ q, (rd 3 ws 0 sE []).1 = some q → brc pp (ws.drop (rd 3 ws 0 sE []).2) = none := fun q h1 => by
      cases e : brc pp (ws.drop (rd 3 ws 0 sE []).2) with
      | none => rfl
      | some x =>
        obtain ⟨r, hr⟩ := hd _ (by rw [e]; simp)
        obtain ⟨g1, g2⟩ := (quiz_two ws q r).mpr ⟨h1, hr⟩
        exact absurd ⟨q, r, g1, g2⟩ hA
    cases e1 : tst (ws.takeWhile nb) with
    | none =>
      cases e2 : (rd 3 ws 0 sE []).1 with
      | none => rfl
      | some q => rw [l2 q e2]
    | some q =>
      rw [l q e1]
      cases e2 : (rd 3 ws 0 sE []).1 with
      | none => rfl
      | some q => rw [l2 q e2]
theorem ends_last {w : Str} {i : List Nat} {c : Nat} (h : tl w = i ++ [c]) : Txt.endswith w (s_ ";") = decide (c = 59) := by
  have l1 : (s_ ";").length = 1 := by decide +kernel
  have l : w.length = i.length + 1 := by rw [len_tl, h, List.length_append]; rfl
  unfold Txt.endswith
  rw [l, l1, StrLaws.subAt_eq, l1]
  show (decide (0 + 1 ≤ i.length + 1) && (((tl w).drop (i.length + 1 - 1)).take 1 == tl (s_ ";"))) = _
  have e5 : tl (s_ ";") = [59] := by decide +kernel
  rw [h, show i.length + 1 - 1 = i.length by omega, List.drop_left, e5]
  by_cases hc : c = 59
  · subst hc
    simp
  · simp [hc]
theorem ch_semi (c : Nat) : decide (ch c = Str.ofString ";") = decide (c = 59) := by
  refine decide_eq_decide.mpr ⟨fun e => ?_, fun e => ?_⟩
  · have e5 : Str.ofString ";" = ch 59 := by decide +kernel
    rw [e5] at e
    have := congrArg (fun z : Str => tl z) e
    simpa [ch] using this
  · rw [e]
    decide +kernel
theorem in_br (w : Str) : inV (.str w) [.str (Str.ofString "if"), .str (Str.ofString "while")] = isBr w := by
  rw [in_two]
  unfold isBr
  rw [show decide (w = Str.ofString "if") = decide (s_ "if" = w) from decide_eq_decide.mpr ⟨Eq.symm, Eq.symm⟩, show decide (w = Str.ofString "while") = decide (s_ "while" = w) from decide_eq_decide.mpr ⟨Eq.symm, Eq.symm⟩]
theorem let_br {w : Str} (h : isLet w = true) : isBr w = false := by
  unfold isBr
  rw [decide_eq_false (fun e => let_ne h (b := s_ "if") (by decide +kernel) e.symm), decide_eq_false (fun e => let_ne h (b := s_ "while") (by decide +kernel) e.symm)]
  rfl
theorem cut30_none {c : Nat} {o : Option (Tw × List Str)} (h : cut30 c o = none) : o = none ∨ ∃ t r, o = some (t, r) ∧ 30 < c + cntS t := by
  cases o with
  | none => exact .inl rfl
  | some x =>
    obtain ⟨t, r⟩ := x
    unfold cut30 at h
    simp only at h
    split at h
    · cases h
    · exact .inr ⟨t, r, rfl, by omega⟩
theorem cut30_some {c : Nat} {o : Option (Tw × List Str)} {t : Tw} {r : List Str} (h : cut30 c o = some (t, r)) : o = some (t, r) ∧ c + cntS t ≤ 30 := by
  cases o with
  | none => cases h
  | some x =>
    obtain ⟨t', r'⟩ := x
    unfold cut30 at h
    simp only at h
    split at h
    · rename_i z
      cases h
      exact ⟨rfl, z⟩
    · cases h
theorem cutP_none {c : Nat} {o : Option (List Tw × List Str)} (h : cutP c o = none) : o = none ∨ ∃ t r, o = some (t, r) ∧ 30 < c + cntP t := by
  cases o with
  | none => exact .inl rfl
  | some x =>
    obtain ⟨t, r⟩ := x
    unfold cutP at h
    simp only at h
    split at h
    · cases h
    · exact .inr ⟨t, r, rfl, by omega⟩
theorem cutP_some {c : Nat} {o : Option (List Tw × List Str)} {t : List Tw} {r : List Str} (h : cutP c o = some (t, r)) : o = some (t, r) ∧ c + cntP t ≤ 30 := by
  cases o with
  | none => cases h
  | some x =>
    obtain ⟨t', r'⟩ := x
    unfold cutP at h
    simp only at h
    split at h
    · rename_i z
      cases h
      exact ⟨rfl, z⟩
    · cases h
/-- one turn of the law's reading -/
def LInv (K : PySem.W.Frag) (H : Hp) (r l p : Addr) (ws : List Str) (n pos c i : Nat) (σ : L2.St) (H' : Hp) : Prop := Chg r H H' ∧ ∃ (a : List Tw) (vs : List V) (p' m : Nat) (x3 x4 : Option V), σ = [some (.ref r), some (.int (4 - (n : Int))), some (.ref p), x3, x4] ∧ H' p = some (.lst vs) ∧ DpAll K H' vs (dL a) ∧ OkP n a ∧ RdC K H' r l ws p' (c + cntP a) ∧ c + cntP a ≤ 30 ∧ i ≤ cntP a ∧ p' ≤ ws.length ∧ (ws.drop p').length < m ∧ PP n (ws.drop pos) = (prsL (SS n) m (ws.drop p')).map fun x => (a ++ x.1, x.2)
end K35
namespace K35
open PySem PySem.Spec L2 Z K1 TL K36 K34
theorem big_B {pp : Prs (List Tw)} {kw : Str} {c : Nat} (q : Quiz) (ts : List Tw) (rr : List Str) (h : 30 < c + cntP ts) : cutB c (if kw = s_ "while" then some (.whi q ts, rr) else if rr.take 1 = [s_ "else"] then (match brc pp (rr.drop 1) with
      | some (b, r2) => some (.ifs q ts b, r2)
      | none => none) else some (.ifs q ts [], rr)) = none := by
  split
  · show (if c + cntS (.whi q ts) ≤ 31 then _ else none) = none
    rw [if_neg (by simp only [cntS]; omega)]
  · split
    · split
      · rename_i b r2 _
        show (if c + cntS (.ifs q ts b) ≤ 31 then _ else none) = none
        rw [if_neg (by simp only [cntS]; omega)]
      · rfl
    · show (if c + cntS (.ifs q ts []) ≤ 31 then _ else none) = none
      rw [if_neg (by simp only [cntS]; omega)]
theorem rd_trip : ∀ (t : Nat) (ws : List Str) (pos : Nat) (j : Str) (f : List Tri) (q : Quiz) (p : Nat), rd t ws pos j f = (some q, p) → (∀ x ∈ f, trip x.2.1 x.1 x.2.2 = true) → (j ≠ sE → isJt j = true) → isJt q.1 = true ∧ 1 ≤ q.2.length ∧ q.2.length ≤ f.length + t ∧ ∀ x ∈ q.2, trip x.2.1 x.1 x.2.2 = true
  | 0, ws, pos, j, f, q, p, h, _, _ => by simp [rd] at h
  | t + 1, ws, pos, j, f, q, p, h, hf, hj => by
    unfold rd at h
    split at h
    case isFalse => cases h
    case isTrue ht =>
      have hf' : ∀ x ∈ f ++ [(W ws (pos + 1), W ws pos, W ws (pos + 2))], trip x.2.1 x.1 x.2.2 = true := fun x hx => by
        rcases List.mem_append.mp hx with h | h
        · exact hf x h
        · rw [List.mem_singleton.mp h]
          exact ht
      split at h
      case isTrue hc =>
        have e : q = (if j ≠ sE then j else s_ "and", f ++ [(W ws (pos + 1), W ws pos, W ws (pos + 2))]) := by
          have := congrArg Prod.fst h
          injection this with this
          exact this.symm
        rw [e]
        refine ⟨?_, by simp, by simp, hf'⟩
        show isJt (if j ≠ sE then j else s_ "and") = true
        split
        · rename_i z
          exact hj z
        · decide +kernel
      case isFalse hc =>
        obtain ⟨g1, g2, g3, g4⟩ := rd_trip t ws _ _ _ q p h hf' (fun _ => by
          cases e : isJt (W ws (pos + 3)) with
          | true => rfl
          | false => exact absurd (.inl e) hc)
        refine ⟨g1, g2, ?_, g4⟩
        rw [List.length_append, List.length_singleton] at g3
        omega
theorem rd_qok {ws : List Str} {q : Quiz} (h : (rd 3 ws 0 sE []).1 = some q) : QOk q := by
  obtain ⟨g1, g2, g3, g4⟩ := rd_trip 3 ws 0 sE [] q _ (Prod.ext h rfl) (fun x hx => by cases hx) (fun z => absurd rfl z)
  exact ⟨g1, g2, g3, g4⟩
end K35
namespace K35
open PySem PySem.Spec L2 Z K1 TL K36 K34
theorem tx_deed {d : Deed} (hd : K34.DOk d) : TxOk 12 (txD d) := by
  cases d with
  | copy a b => exact (((tx_let hd.1).app (s_ok " = " 3 (by decide +kernel))).app (tx_tgt hd.2)).mono (by decide)
  | next a b => exact (((tx_let hd.1).app (s_ok " = next " 8 (by decide +kernel))).app (tx_let hd.2)).mono (by decide)
  | tie a b => exact ((((s_ok "next " 5 (by decide +kernel)).app (tx_let hd.1)).app (s_ok " = " 3 (by decide +kernel))).app (tx_tgt hd.2)).mono (by decide)
  | new a => exact ((tx_let (show isLet a = true from hd)).app (s_ok " = new" 6 (by decide +kernel))).mono (by decide)
  | drop a => exact ((s_ok "drop " 5 (by decide +kernel)).app (tx_let (show isLet a = true from hd))).mono (by decide)
theorem jn_len (sep : Str) : ∀ ws : List Str, (Str.join sep ws).length ≤ (ws.map (·.length)).sum + ws.length * sep.length
  | [] => by
    show Str.empty.length ≤ _
    exact Nat.zero_le _
  | [w] => by
    show w.length ≤ _
    simp only [List.map_cons, List.map_nil, List.sum_cons, List.sum_nil]
    omega
  | w :: v :: r => by
    have ih := jn_len sep (v :: r)
    have e : (Str.join sep (w :: v :: r)).length = w.length + sep.length + (Str.join sep (v :: r)).length := by
      show (w ++ sep ++ Str.join sep (v :: r)).length = _
      rw [len_tl, tl_append, tl_append, List.length_append, List.length_append, ← len_tl, ← len_tl, ← len_tl]
    rw [e, List.map_cons, List.sum_cons, List.length_cons, Nat.succ_mul]
    omega
theorem jn_ok {sep : Str} {ws : List Str} {a b n : Nat} (hs : TxOk b sep) (hw : ∀ w ∈ ws, TxOk a w) (hn : ws.length ≤ n) : TxOk (n * (a + b)) (Txt.join sep ws) := by
  rw [join_eq]
  refine ⟨?_, fun c hc => ?_⟩
  · have h1 := jn_len sep ws
    have h2 := StrLaws.sumLen_le (B := a) ws (fun y hy => (hw y hy).len)
    have h3 := hs.len
    have h4 : ws.length * sep.length ≤ n * b := Nat.mul_le_mul hn h3
    have h5 : ws.length * a ≤ n * a := Nat.mul_le_mul hn (Nat.le_refl _)
    rw [Nat.mul_add]
    omega
  · rcases join_mem sep ws c hc with z | ⟨w, hw', z⟩
    · exact hs.asc c z
    · exact (hw w hw').asc c z
theorem fold_rep (a : Array Nat) : ∀ (m : Nat) (acc : Array Nat), (List.foldl (· ++ ·) acc (List.replicate m a)).toList = acc.toList ++ (List.replicate m a.toList).flatten
  | 0, acc => by simp
  | m + 1, acc => by
    rw [List.replicate_succ, List.foldl_cons, fold_rep a m, List.replicate_succ, List.flatten_cons, Array.toList_append, List.append_assoc]
theorem rep_len (l : List Nat) : ∀ m : Nat, ((List.replicate m l).flatten).length = m * l.length
  | 0 => by simp
  | m + 1 => by rw [List.replicate_succ, List.flatten_cons, List.length_append, rep_len l m, Nat.succ_mul]; omega
theorem tx_mul {n : Nat} {x : Str} (h : TxOk n x) (m : Nat) : TxOk (m * n) (Txt.mul x (m : Int)) := by
  unfold Txt.mul
  split
  · exact (txB_ok (n := 0) (by decide +kernel)).mono (Nat.zero_le _)
  · split
    · rename_i h1 _
      exact h.mono (Nat.le_mul_of_pos_left n (by omega))
    · have e : tl (⟨(List.replicate (m : Int).toNat x.cps).foldl (· ++ ·) #[]⟩ : Str) = (List.replicate m (tl x)).flatten := by
        show ((List.replicate (m : Int).toNat x.cps).foldl (· ++ ·) #[]).toList = _
        rw [fold_rep, Int.toNat_natCast]
        rfl
      refine ⟨?_, fun c hc => ?_⟩
      · rw [len_tl, e, rep_len, ← len_tl]
        exact Nat.mul_le_mul (Nat.le_refl _) h.len
      · rw [e] at hc
        obtain ⟨l, hl, hc⟩ := List.mem_flatten.mp hc
        rw [(List.mem_replicate.mp hl).2] at hc
        exact h.asc c hc
theorem sg3 {x : V} (h : x ∈ [V.str (Str.ofString "xy"), V.str (Str.ofString "xyz"), V.str (Str.ofString "en")]) : ∃ z, x = .str z ∧ 1 ≤ z.length ∧ z.length ≤ 100 ∧ ∀ c ∈ tl z, 97 ≤ c ∧ c ≤ 122 := by
  simp only [List.mem_cons, List.not_mem_nil, or_false] at h
  rcases h with rfl | rfl | rfl <;> exact ⟨_, rfl, by decide +kernel, by decide +kernel, by decide +kernel⟩
end K35
/-! What stands in a program: the text's tree back, statements, letters, loops. -/
namespace K38
open PySem PySem.Spec PyProof.Rows L2 Z K1 TL K36 K34 K35
/-! ### the reader reads what is written -/
theorem rt_D {d : Deed} (h : K34.DOk d) (rest : List Str) : prsD (tokD d ++ rest) = some (.act d, rest) := by
  obtain ⟨l2, l4⟩ := tok_len d
  have tk : ∀ m, m ≤ (tokD d).length → (tokD d ++ rest).take m = (tokD d).take m := fun m hm => List.take_append_of_le_length hm
  have dr : (tokD d ++ rest).drop (tokD d).length = rest := List.drop_left
  have go : ∀ m, 2 ≤ m → m ≤ (tokD d).length → deedIn ((tokD d ++ rest).take m) = if m = (tokD d).length then some d else none := fun m h2 hm => by rw [tk m hm]; exact deed_tok h h2 hm
  unfold prsD
  rw [go 2 (by decide) l2]
  by_cases e2 : 2 = (tokD d).length
  · rw [if_pos e2]
    rw [← e2] at dr
    simp only [dr]
  · rw [if_neg e2, go 3 (by decide) (by omega)]
    by_cases e3 : 3 = (tokD d).length
    · rw [if_pos e3]
      rw [← e3] at dr
      simp only [dr]
    · rw [if_neg e3, go 4 (by decide) (by omega)]
      have e4 : 4 = (tokD d).length := by omega
      rw [if_pos e4]
      rw [← e4] at dr
      simp only [dr]
theorem e1_no {r : List Str} (h : End1 r) : r.take 1 ≠ [s_ "else"] := by
  rcases h with rfl | ⟨x, s, rfl, h⟩
  · simp
  · intro e
    have e : x = s_ "else" := by simpa using e
    rcases h with h | h
    · rw [h] at e
      revert e
      decide +kernel
    · rw [h] at e
      revert e
      decide +kernel
theorem e2_no {r : List Str} (h : End2 r) : r.take 1 ≠ [s_ ";"] := by
  rcases h with rfl | ⟨s, rfl⟩
  · simp
  · intro e
    have e : s_ "}" = s_ ";" := by simpa using e
    revert e
    decide +kernel
theorem rt_L {n : Nat} {u : Bool} (ih : ∀ t rest, OkS n t → End1 rest → SS n (tokS u t ++ rest) = some (t, rest)) : ∀ (b : List Tw) (t : Tw) (k : Nat) (rest : List Str), OkP n (t :: b) → End2 rest → b.length < k → prsL (SS n) k (tokP u (t :: b) ++ rest) = some (t :: b, rest)
  | _, _, 0, _, _, _, h => absurd h (Nat.not_lt_zero _)
  | [], t, k + 1, rest, ok, he, _ => by
    simp only [tokP]
    unfold prsL
    rw [ih t rest (ok t (.head _)) he.one]
    simp only
    rw [if_neg (e2_no he)]
  | t2 :: r, t, k + 1, rest, ok, he, hk => by
    have e : tokP u (t :: t2 :: r) ++ rest = tokS u t ++ (s_ ";" :: (tokP u (t2 :: r) ++ rest)) := by simp only [tokP, List.append_assoc, List.cons_append]
    rw [e]
    unfold prsL
    rw [ih t _ (ok t (.head _)) (.inr ⟨_, _, rfl, .inl rfl⟩)]
    simp only
    rw [if_pos (show List.take 1 (s_ ";" :: (tokP u (t2 :: r) ++ rest)) = [s_ ";"] from rfl)]
    show (match prsL (SS n) k (tokP u (t2 :: r) ++ rest) with
      | some (ts, r2) => some (t :: ts, r2)
      | none => none) = _
    rw [rt_L ih r t2 k rest (fun y hy => ok y (.tail _ hy)) he (by simpa using hk)]
theorem rt_P {n : Nat} {u : Bool} (ih : ∀ t rest, OkS n t → End1 rest → SS n (tokS u t ++ rest) = some (t, rest)) (ts : List Tw) (rest : List Str) (ok : OkP n ts) (he : End2 rest) : PP n (tokP u ts ++ rest) = some (ts, rest) := by
  unfold PP prsP
  cases ts with
  | nil =>
    have e : tokP u [] = [s_ "none"] := by simp only [tokP]
    rw [e]
    exact if_pos rfl
  | cons t b =>
    obtain ⟨tl, e, _⟩ := tokP_cons u t b
    obtain ⟨x, w, ex, hx, _⟩ := hd_tok (u := u) (ok t (.head _))
    have g := tok_ge (u := u) ok
    rw [if_neg, rt_L ih b t _ rest ok he ?_]
    · rw [List.length_append]
      rw [List.length_cons] at g
      omega
    · intro z
      rw [e, ex] at z
      exact hx (by simpa using z)
theorem rt_S (u : Bool) : ∀ n t rest, OkS n t → End1 rest → SS n (tokS u t ++ rest) = some (t, rest)
  | n, .act d, rest, ok, _ => by
    have hd := ok_act ok
    obtain ⟨x, r, e, h1, h2, h3, h4⟩ := hd_act hd
    have := rt_D hd rest
    simp only [tokS]
    rw [e] at this ⊢
    rw [List.cons_append] at this ⊢
    rw [SS_act (by unfold isBr; rw [decide_eq_false h2.symm, decide_eq_false h3.symm]; rfl)]
    exact this
  | 0, .ifs _ _ _, _, ok, _ => ok.elim
  | 0, .whi _ _, _, ok, _ => ok.elim
  | n + 1, .whi q a, rest, ok, he => by
    obtain ⟨kw, q', a', more, et, hq, oka, h⟩ := br_shape (u := u) ok rfl
    obtain ⟨e, rfl, rfl⟩ : Tw.whi q a = Tw.whi q' a' ∧ kw = s_ "while" ∧ more = [] := h.elim id fun ⟨b, e, _⟩ => nomatch e
    cases e
    rw [et, List.cons_append, SS_br (by decide +kernel)]
    have e2 : wds q ++ s_ "{" :: (tokP u a ++ s_ "}" :: []) ++ rest = wds q ++ s_ "{" :: (tokP u a ++ s_ "}" :: rest) := by simp
    obtain ⟨t1, t2⟩ := tw_split (wds q) (tokP u a ++ s_ "}" :: rest) (wds_no hq.1)
    have eb : brc (PP n) (s_ "{" :: (tokP u a ++ s_ "}" :: rest)) = some (a, rest) := by
      unfold brc
      refine Eq.trans (if_pos rfl) ?_
      show (match PP n (tokP u a ++ s_ "}" :: rest) with
        | some (ts, r) => if r.take 1 = [s_ "}"] then some (ts, r.drop 1) else none
        | none => none) = _
      rw [rt_P (rt_S u n) a _ oka (.inr ⟨_, rfl⟩)]
      rfl
    rw [e2]
    unfold prsB
    rw [t1, t2, tst_wds hq.1 hq.2, eb]
    simp only [if_true]
  | n + 1, .ifs q a b, rest, ok, he => by
    obtain ⟨kw, q', a', more, et, hq, oka, h⟩ := br_shape (u := u) ok rfl
    obtain ⟨b', e, rfl, okb, hm⟩ : ∃ b', Tw.ifs q a b = Tw.ifs q' a' b' ∧ kw = s_ "if" ∧ OkP n b' ∧ ((b' = [] ∧ more = []) ∨ more = s_ "else" :: s_ "{" :: (tokP u b' ++ [s_ "}"])) := h.elim (fun ⟨e, _⟩ => nomatch e) id
    cases e
    rw [et, List.cons_append, SS_br (by decide +kernel)]
    have e2 : wds q ++ s_ "{" :: (tokP u a ++ s_ "}" :: more) ++ rest = wds q ++ s_ "{" :: (tokP u a ++ s_ "}" :: (more ++ rest)) := by simp
    obtain ⟨t1, t2⟩ := tw_split (wds q) (tokP u a ++ s_ "}" :: (more ++ rest)) (wds_no hq.1)
    have eb : ∀ (c : List Tw) (r : List Str), OkP n c → brc (PP n) (s_ "{" :: (tokP u c ++ s_ "}" :: r)) = some (c, r) := fun c r okc => by
      unfold brc
      refine Eq.trans (if_pos rfl) ?_
      show (match PP n (tokP u c ++ s_ "}" :: r) with
        | some (ts, r) => if r.take 1 = [s_ "}"] then some (ts, r.drop 1) else none
        | none => none) = _
      rw [rt_P (rt_S u n) c _ okc (.inr ⟨_, rfl⟩)]
      rfl
    rw [e2]
    unfold prsB
    rw [t1, t2, tst_wds hq.1 hq.2, eb a _ oka]
    simp only
    rw [if_neg (by decide +kernel)]
    rcases hm with ⟨rfl, rfl⟩ | rfl
    · rw [if_neg (by simpa using e1_no he)]
      rfl
    · rw [if_pos (show List.take 1 (s_ "else" :: s_ "{" :: (tokP u b ++ [s_ "}"]) ++ rest) = [s_ "else"] from rfl)]
      have e3 : (s_ "else" :: s_ "{" :: (tokP u b ++ [s_ "}"]) ++ rest).drop 1 = s_ "{" :: (tokP u b ++ s_ "}" :: rest) := by simp
      rw [e3, eb b rest okb]
theorem txt_tx {ts : List Tw} (ok : OkP 4 ts) (c : cntP ts ≤ 30) : txt (txP false ts) = some ts := by
  have e1 : spl (txP false ts) = gP false ts := spl_tx ok
  unfold txt prog
  rw [e1, (gp_all ok).un]
  have := rt_P (rt_S false 4) ts [] ok (.inl rfl)
  rw [List.append_nil] at this
  rw [this]
  simp [c]
/-! ### all statements, in the order of the text -/
mutual
def allS : Tw → List Tw
  | .act d => [.act d]
  | .ifs q a b => .ifs q a b :: (allP a ++ allP b)
  | .whi q a => .whi q a :: allP a
def allP : List Tw → List Tw
  | [] => []
  | t :: r => allS t ++ allP r
end
theorem allP_app : ∀ a b : List Tw, allP (a ++ b) = allP a ++ allP b
  | [], b => by simp [allP]
  | t :: r, b => by rw [List.cons_append]; simp only [allP, allP_app r b, List.append_assoc]
mutual
theorem allS_len : ∀ t, (allS t).length = cntS t
  | .act d => by simp [allS, cntS]
  | .ifs q a b => by simp only [allS, cntS, List.length_cons, List.length_append, allP_len a, allP_len b]; omega
  | .whi q a => by simp only [allS, cntS, List.length_cons, allP_len a]; omega
theorem allP_len : ∀ ts, (allP ts).length = cntP ts
  | [] => by simp [allP, cntP]
  | t :: r => by simp only [allP, cntP, List.length_append, allS_len t, allP_len r]
end
theorem all_ok : ∀ n t, OkS n t → OkP n (allS t)
  | n, .act d, h => by
    intro x hx
    simp only [allS, List.mem_singleton] at hx
    rw [hx]
    exact h
  | 0, .ifs _ _ _, h => h.elim
  | 0, .whi _ _, h => h.elim
  | n + 1, .ifs q a b, h => by
    have lp : ∀ ts : List Tw, OkP n ts → OkP (n + 1) (allP ts) := fun ts => by
      induction ts with
      | nil => intro _ x hx; simp [allP] at hx
      | cons t r ih =>
        intro ok x hx
        simp only [allP] at hx
        rcases List.mem_append.mp hx with hx | hx
        · exact ok_mono (all_ok n t (ok t (.head _)) x hx)
        · exact ih (fun y hy => ok y (.tail _ hy)) x hx
    intro x hx
    simp only [allS] at hx
    rcases List.mem_cons.mp hx with rfl | hx
    · exact h
    · rcases List.mem_append.mp hx with hx | hx
      · exact lp a h.2.1 x hx
      · exact lp b h.2.2 x hx
  | n + 1, .whi q a, h => by
    have lp : ∀ ts : List Tw, OkP n ts → OkP (n + 1) (allP ts) := fun ts => by
      induction ts with
      | nil => intro _ x hx; simp [allP] at hx
      | cons t r ih =>
        intro ok x hx
        simp only [allP] at hx
        rcases List.mem_append.mp hx with hx | hx
        · exact ok_mono (all_ok n t (ok t (.head _)) x hx)
        · exact ih (fun y hy => ok y (.tail _ hy)) x hx
    intro x hx
    simp only [allS] at hx
    rcases List.mem_cons.mp hx with rfl | hx
    · exact h
    · exact lp a h.2 x hx
theorem allP_ok {n : Nat} : ∀ {ts : List Tw}, OkP n ts → OkP n (allP ts)
  | [], _ => by intro x hx; simp [allP] at hx
  | t :: r, ok => by
    intro x hx
    simp only [allP] at hx
    rcases List.mem_append.mp hx with hx | hx
    · exact all_ok n t (ok t (.head _)) x hx
    · exact allP_ok (ts := r) (fun y hy => ok y (.tail _ hy)) x hx
/-! ### deeds, loops -/
def isWhi : Tw → Bool
  | .whi _ _ => true
  | _ => false
def body : Tw → List Tw
  | .act _ => []
  | .ifs _ a _ => a
  | .whi _ a => a
abbrev actsP (ts : List Tw) : List Tw := (allP ts).filter isAct
abbrev loopsP (ts : List Tw) : List Tw := (allP ts).filter isWhi
abbrev actsS (t : Tw) : List Tw := (allS t).filter isAct
theorem acts_cons (t : Tw) (r : List Tw) : actsP (t :: r) = actsS t ++ actsP r := by simp only [actsP, actsS, allP, List.filter_append]
theorem acts_act (d : Deed) : actsS (.act d) = [.act d] := by simp [actsS, allS, isAct]
theorem acts_ifs (q : Quiz) (a b : List Tw) : actsS (.ifs q a b) = actsP a ++ actsP b := by simp [actsS, actsP, allS, isAct]
theorem acts_whi (q : Quiz) (a : List Tw) : actsS (.whi q a) = actsP a := by simp [actsS, actsP, allS, isAct]
mutual
def nestS : Tw → Nat
  | .act _ => 0
  | .ifs _ a b => max (nestP a) (nestP b)
  | .whi _ a => nestP a + 1
def nestP : List Tw → Nat
  | [] => 0
  | t :: r => max (nestS t) (nestP r)
end
mutual
theorem nestS_0 : ∀ t, nestS t = 0 ↔ (allS t).filter isWhi = []
  | .act d => by simp [nestS, allS, isWhi]
  | .ifs q a b => by
    have h1 := nestP_0 a
    have h2 := nestP_0 b
    simp only [nestS, allS, List.filter_cons, isWhi, List.filter_append, List.append_eq_nil_iff, Bool.false_eq_true, if_false, loopsP] at h1 h2 ⊢
    rw [← h1, ← h2]
    omega
  | .whi q a => by simp [nestS, allS, isWhi]
theorem nestP_0 : ∀ ts, nestP ts = 0 ↔ loopsP ts = []
  | [] => by simp [nestP, loopsP, allP]
  | t :: r => by
    have h1 := nestS_0 t
    have h2 := nestP_0 r
    simp only [nestP, loopsP, allP, List.filter_append, List.append_eq_nil_iff] at h1 h2 ⊢
    rw [← h1, ← h2]
    omega
end
mutual
theorem nestS_1 : ∀ t, nestS t ≤ 1 ↔ ∀ x ∈ (allS t).filter isWhi, nestP (body x) = 0
  | .act d => by simp [nestS, allS, isWhi]
  | .ifs q a b => by
    have h1 := nestP_1 a
    have h2 := nestP_1 b
    simp only [nestS, allS, List.filter_cons, isWhi, List.filter_append, Bool.false_eq_true, if_false, List.mem_append, or_imp, forall_and, loopsP] at h1 h2 ⊢
    rw [← h1, ← h2]
    omega
  | .whi q a => by
    have h0 := nestP_0 a
    have h1 := nestP_1 a
    simp only [nestS, allS, List.filter_cons, isWhi, if_true, List.mem_cons, forall_eq_or_imp, body, loopsP] at h0 h1 ⊢
    constructor
    · intro h
      have e : nestP a = 0 := by omega
      exact ⟨e, h1.mp (by omega)⟩
    · intro h
      omega
theorem nestP_1 : ∀ ts, nestP ts ≤ 1 ↔ ∀ x ∈ loopsP ts, nestP (body x) = 0
  | [] => by simp [nestP, loopsP, allP]
  | t :: r => by
    have h1 := nestS_1 t
    have h2 := nestP_1 r
    simp only [nestP, loopsP, allP, List.filter_append, List.mem_append, or_imp, forall_and] at h1 h2 ⊢
    rw [← h1, ← h2]
    omega
end
theorem has_loop_eq (ts : List Tw) : decide ((0 : Int) < (nestP ts : Nat)) = !decide (loopsP ts = []) := by
  have h := nestP_0 ts
  by_cases e : loopsP ts = []
  · rw [decide_eq_true e, h.mpr e]
    rfl
  · rw [decide_eq_false e]
    have : nestP ts ≠ 0 := fun z => e (h.mp z)
    exact decide_eq_true (by omega)
theorem plain_eq (ts : List Tw) : decide ((nestP ts : Int) < 2) = !((loopsP ts).any fun t => !decide (loopsP (body t) = [])) := by
  have h := nestP_1 ts
  by_cases e : nestP ts ≤ 1
  · have e2 := h.mp e
    rw [decide_eq_true (by omega)]
    symm
    rw [Bool.not_eq_true', List.any_eq_false]
    intro t ht
    rw [decide_eq_true ((nestP_0 _).mp (e2 t ht))]
    simp
  · rw [decide_eq_false (by omega)]
    symm
    rw [Bool.not_eq_false', List.any_eq_true]
    have : ¬ ∀ x ∈ loopsP ts, nestP (body x) = 0 := fun z => e (h.mpr z)
    simp only [Classical.not_forall] at this
    obtain ⟨x, hx, hn⟩ := this
    refine ⟨x, hx, ?_⟩
    rw [decide_eq_false fun z => hn ((nestP_0 _).mpr z)]
    rfl
/-! ### letters -/
def wordsD : Deed → List Str
  | .copy a b => [a, b]
  | .next a b => [a, b]
  | .tie a b => [a, b]
  | .new a => [a]
  | .drop a => [a]
def wordsQ (q : Quiz) : List Str := q.2.flatMap fun t => [t.2.1, t.2.2]
def wordsH : Tw → List Str
  | .act d => wordsD d
  | .ifs q _ _ => wordsQ q
  | .whi q _ => wordsQ q
abbrev wordsP (ts : List Tw) : List Str := (allP ts).flatMap wordsH
abbrev wordsS (t : Tw) : List Str := (allS t).flatMap wordsH
theorem words_cons (t : Tw) (r : List Tw) : wordsP (t :: r) = wordsS t ++ wordsP r := by simp only [wordsP, wordsS, allP, List.flatMap_append]
theorem words_act (d : Deed) : wordsS (.act d) = wordsD d := by simp [wordsS, allS, wordsH]
theorem words_ifs (q : Quiz) (a b : List Tw) : wordsS (.ifs q a b) = wordsQ q ++ (wordsP a ++ wordsP b) := by simp [wordsS, wordsP, allS, wordsH]
theorem words_whi (q : Quiz) (a : List Tw) : wordsS (.whi q a) = wordsQ q ++ wordsP a := by simp [wordsS, wordsP, allS, wordsH]
def abc : List Nat := List.range' 97 26
theorem abc_mem {c : Nat} : c ∈ abc ↔ 97 ≤ c ∧ c ≤ 122 := by
  unfold abc
  rw [List.mem_range']
  constructor
  · rintro ⟨i, h, rfl⟩; omega
  · intro h; exact ⟨c - 97, by omega, by omega⟩
theorem abc_cps : (Str.ofString "abcdefghijklmnopqrstuvwxyz").cps.toList = abc := by decide +kernel
theorem abc_asc : abc.Pairwise (· < ·) := by decide +kernel
def sgc (ws : List Str) : List Nat := abc.filter fun c => decide (ch c ∈ ws)
def sgn (ws : List Str) : List Str := (sgc ws).map ch
theorem ch_inj {a b : Nat} (h : ch a = ch b) : a = b := by
  have := congrArg (fun z : Str => tl z) h
  simpa [ch] using this
theorem ch_end {c : Nat} : ch c ≠ s_ "END" := fun e => by
  have := congrArg (fun z : Str => z.length) e
  have l : (s_ "END").length = 3 := by decide +kernel
  rw [l] at this
  cases this
theorem sgc_mem {c : Nat} {ws : List Str} : c ∈ sgc ws ↔ (97 ≤ c ∧ c ≤ 122) ∧ ch c ∈ ws := by
  unfold sgc
  rw [List.mem_filter, abc_mem, decide_eq_true_eq]
theorem sgc_asc (ws : List Str) : (sgc ws).Pairwise (· < ·) := abc_asc.sublist List.filter_sublist
theorem sgn_congr {ws vs : List Str} (h : ∀ c, 97 ≤ c → c ≤ 122 → (ch c ∈ ws ↔ ch c ∈ vs)) : sgn ws = sgn vs := by
  unfold sgn sgc
  congr 1
  refine List.filter_congr fun c hc => ?_
  obtain ⟨h1, h2⟩ := abc_mem.mp hc
  exact decide_eq_decide.mpr (h c h1 h2)
theorem sgn_mem {w : Str} {ws : List Str} : w ∈ sgn ws ↔ isLet w = true ∧ w ∈ ws := by
  unfold sgn
  rw [List.mem_map]
  constructor
  · rintro ⟨c, hc, rfl⟩
    obtain ⟨⟨h1, h2⟩, h3⟩ := sgc_mem.mp hc
    exact ⟨by rw [ch_let, decide_eq_true h1, decide_eq_true h2]; rfl, h3⟩
  · rintro ⟨h, hw⟩
    obtain ⟨c, rfl, h1, h2⟩ := let_ch h
    exact ⟨c, sgc_mem.mpr ⟨⟨h1, h2⟩, hw⟩, rfl⟩
theorem sgn_len (ws : List Str) : (sgn ws).length ≤ 26 := by
  unfold sgn
  rw [List.length_map]
  exact Nat.le_trans (List.length_filter_le _ _) (by decide +kernel)
theorem asc_ext : ∀ {a b : List Nat}, a.Pairwise (· < ·) → b.Pairwise (· < ·) → (∀ x, x ∈ a ↔ x ∈ b) → a = b
  | [], [], _, _, _ => rfl
  | [], y :: b, _, _, h => by have := (h y).mpr (.head _); cases this
  | x :: a, [], _, _, h => by have := (h x).mp (.head _); cases this
  | x :: a, y :: b, ha, hb, h => by
    obtain ⟨a1, a2⟩ := List.pairwise_cons.mp ha
    obtain ⟨b1, b2⟩ := List.pairwise_cons.mp hb
    have e : x = y := by
      rcases List.mem_cons.mp ((h x).mp (.head _)) with e | e
      · exact e
      · rcases List.mem_cons.mp ((h y).mpr (.head _)) with e' | e'
        · exact e'.symm
        · have := b1 x e
          have := a1 y e'
          omega
    subst e
    rw [asc_ext a2 b2 fun z => ?_]
    constructor
    · intro hz
      rcases List.mem_cons.mp ((h z).mp (.tail _ hz)) with e | e
      · have := a1 z hz
        omega
      · exact e
    · intro hz
      rcases List.mem_cons.mp ((h z).mpr (.tail _ hz)) with e | e
      · have := b1 z hz
        omega
      · exact e
/-- the first sign of a letter or END: they stand by it -/
def hd1 (w : Str) : Nat := w.cps.toList.headD 0
theorem hd1_ch (c : Nat) : hd1 (ch c) = c := rfl
theorem tgt_two {w : Str} (h : isTgt w = true) : (∃ c, w = ch c ∧ 97 ≤ c ∧ c ≤ 122) ∨ w = s_ "END" := by
  unfold isTgt at h
  rw [Bool.or_eq_true, decide_eq_true_eq] at h
  exact h.imp let_ch id
theorem lt_tgt {a b : Str} (ha : isTgt a = true) (hb : isTgt b = true) (h : ltCps b.cps.toList a.cps.toList = false) : hd1 a ≤ hd1 b := by
  rcases tgt_two ha with ⟨c, rfl, c1, c2⟩ | rfl <;> rcases tgt_two hb with ⟨d, rfl, d1, d2⟩ | rfl
  · rw [hd1_ch, hd1_ch]
    by_cases z : d < c
    · simp [ch, ltCps, z] at h
    · omega
  · exfalso
    have e : (s_ "END").cps.toList = [69, 78, 68] := by decide +kernel
    rw [e] at h
    have : (69 : Nat) < c := by omega
    simp [ch, ltCps, this] at h
  · rw [hd1_ch]
    have : hd1 (s_ "END") = 69 := by decide +kernel
    omega
  · exact Nat.le_refl _
theorem rising_tgt : ∀ (l : List Str) (a : Str), isTgt a = true → (∀ w ∈ l, isTgt w = true) → risingS a l = true → (a :: l).Pairwise fun x y => hd1 x ≤ hd1 y
  | [], a, _, _, _ => by simp
  | b :: t, a, ha, hl, h => by
    have hb : ltCps b.cps.toList a.cps.toList = false ∧ risingS b t = true := by
      have h' : (!ltCps b.cps.toList a.cps.toList && risingS b t) = true := h
      rw [Bool.and_eq_true, Bool.not_eq_true'] at h'
      exact h'
    have tb := hl b (.head _)
    have ih := rising_tgt t b tb (fun w hw => hl w (.tail _ hw)) hb.2
    have hab := lt_tgt ha tb hb.1
    refine List.pairwise_cons.mpr ⟨fun c hc => ?_, ih⟩
    rcases List.mem_cons.mp hc with rfl | hc
    · exact hab
    · exact Nat.le_trans hab (List.rel_of_pairwise_cons ih hc)
/-- sorted words, END left out: the letters among them, ascending -/
theorem sorted_sgn {ys ws : List Str} (p : ys.Perm ws) (s : sortedS ys = true) (nd : ws.Nodup) (ht : ∀ w ∈ ws, isTgt w = true) : ys.filter (fun w => !decide (w = s_ "END")) = sgn ws := by
  have hy : ∀ w ∈ ys, isTgt w = true := fun w hw => ht w (p.mem_iff.mp hw)
  have ny : ys.Nodup := p.nodup_iff.mpr nd
  have as : ys.Pairwise fun x y => hd1 x ≤ hd1 y := by
    cases ys with
    | nil => exact .nil
    | cons a t => exact rising_tgt t a (hy a (.head _)) (fun w hw => hy w (.tail _ hw)) s
  generalize hz : ys.filter (fun w => !decide (w = s_ "END")) = zs
  have hm : ∀ w, w ∈ zs ↔ w ∈ ys ∧ w ≠ s_ "END" := fun w => by
    rw [← hz, List.mem_filter, Bool.not_eq_true', decide_eq_false_iff_not]
  have hl : ∀ w ∈ zs, ch (hd1 w) = w ∧ 97 ≤ hd1 w ∧ hd1 w ≤ 122 := fun w hw => by
    obtain ⟨h1, h2⟩ := (hm w).mp hw
    rcases tgt_two (hy w h1) with ⟨c, rfl, c1, c2⟩ | e
    · exact ⟨rfl, c1, c2⟩
    · exact absurd e h2
  have az : zs.Pairwise fun x y => hd1 x ≤ hd1 y := by rw [← hz]; exact as.sublist List.filter_sublist
  have nz : zs.Nodup := by rw [← hz]; exact ny.sublist List.filter_sublist
  have e2 : zs = (zs.map hd1).map ch := by
    rw [List.map_map]
    conv => lhs; rw [← List.map_id zs]
    exact List.map_congr_left fun w hw => (hl w hw).1.symm
  have lt : (zs.map hd1).Pairwise (· < ·) := by
    refine List.pairwise_map.mpr ?_
    refine (List.pairwise_and_iff.mpr ⟨az, nz⟩).imp_of_mem fun {x y} hx hy h => ?_
    refine Nat.lt_of_le_of_ne h.1 fun e => h.2 ?_
    rw [← (hl x hx).1, ← (hl y hy).1, e]
  rw [e2]
  unfold sgn
  congr 1
  refine asc_ext lt (sgc_asc ws) fun c => ?_
  rw [sgc_mem]
  constructor
  · intro h
    obtain ⟨w, hw, rfl⟩ := List.mem_map.mp h
    obtain ⟨h1, h2, h3⟩ := hl w hw
    exact ⟨⟨h2, h3⟩, by rw [h1]; exact p.mem_iff.mp ((hm w).mp hw).1⟩
  · rintro ⟨_, h2⟩
    exact List.mem_map.mpr ⟨ch c, (hm _).mpr ⟨p.mem_iff.mpr h2, ch_end⟩, rfl⟩
/-- words put into a dict one after another -/
def addW (ws : List Str) (w : Str) : List Str := if w ∈ ws then ws else ws ++ [w]
theorem addW_mem {ws : List Str} {w x : Str} : x ∈ addW ws w ↔ x ∈ ws ∨ x = w := by
  unfold addW
  split
  · rename_i h
    exact ⟨.inl, fun z => z.elim id fun e => e ▸ h⟩
  · rw [List.mem_append, List.mem_singleton]
theorem addW_nd {ws : List Str} {w : Str} (h : ws.Nodup) : (addW ws w).Nodup := by
  unfold addW
  split
  · exact h
  · rename_i n
    rw [List.nodup_append]
    exact ⟨h, by simp, fun a ha b hb => by rw [List.mem_singleton.mp hb]; exact fun e => n (e ▸ ha)⟩
abbrev kW (ws : List Str) : List (Key × V) := ws.map fun w => ((Sum.inr w : Key), V.bl true)
theorem putK_kW (ws : List Str) (w : Str) : putK (kW ws) (Sum.inr w : Key) (.bl true) = kW (addW ws w) := by
  have ha : ((kW ws).any fun kv => decide (kv.1 = (Sum.inr w : Key))) = decide (w ∈ ws) := by
    rw [Bool.eq_iff_iff, List.any_eq_true, decide_eq_true_eq]
    constructor
    · rintro ⟨x, hx, e⟩
      obtain ⟨y, hy, rfl⟩ := List.mem_map.mp hx
      have := of_decide_eq_true e
      cases this
      exact hy
    · intro h
      exact ⟨_, List.mem_map.mpr ⟨w, h, rfl⟩, decide_eq_true rfl⟩
  unfold putK addW
  rw [ha]
  by_cases h : w ∈ ws
  · rw [decide_eq_true h, if_pos rfl, if_pos h]
    conv => rhs; rw [← List.map_id (kW ws)]
    refine List.map_congr_left fun x hx => ?_
    obtain ⟨y, hy, rfl⟩ := List.mem_map.mp hx
    split
    · rfl
    · rfl
  · rw [decide_eq_false h, if_neg (by decide), if_neg h]
    simp [kW]
theorem kW_keys (ws : List Str) : (kW ws).map (·.1) = ws.map Sum.inr := by
  rw [List.map_map]
  rfl
theorem tgt_few {ws : List Str} (nd : ws.Nodup) (ht : ∀ w ∈ ws, isTgt w = true) : ws.length ≤ 27 := by
  have inj : ∀ a ∈ ws, ∀ b ∈ ws, hd1 a = hd1 b → a = b := fun a ha b hb e => by
    have e9 : hd1 (s_ "END") = 69 := by decide +kernel
    rcases tgt_two (ht a ha) with ⟨c, rfl, c1, c2⟩ | rfl <;> rcases tgt_two (ht b hb) with ⟨d, rfl, d1, d2⟩ | rfl
    · rw [hd1_ch, hd1_ch] at e; rw [e]
    · rw [hd1_ch, e9] at e; omega
    · rw [hd1_ch, e9] at e; omega
    · rfl
  have nd2 : (ws.map hd1).Nodup := by
    refine List.pairwise_map.mpr ?_
    exact nd.imp_of_mem fun {a b} ha hb h e => h (inj a ha b hb e)
  have := nodup_len (cs := 69 :: abc) nd2 fun c hc => by
    obtain ⟨w, hw, rfl⟩ := List.mem_map.mp hc
    rcases tgt_two (ht w hw) with ⟨c, rfl, c1, c2⟩ | rfl
    · exact .tail _ (abc_mem.mpr ⟨c1, c2⟩)
    · have e9 : hd1 (s_ "END") = 69 := by decide +kernel
      rw [e9]
      exact .head _
  have l : (69 :: abc).length = 27 := by decide +kernel
  rw [List.length_map, l] at this
  exact this
theorem wD_tgt {d : Deed} (h : K34.DOk d) : ∀ w ∈ wordsD d, isTgt w = true := by
  have l : ∀ {a : Str}, isLet a = true → isTgt a = true := fun h => by unfold isTgt; rw [h]; rfl
  intro w hw
  cases d with
  | copy a b => simp only [wordsD, List.mem_cons, List.not_mem_nil, or_false] at hw; exact hw.elim (fun e => e ▸ l h.1) fun e => e ▸ h.2
  | next a b => simp only [wordsD, List.mem_cons, List.not_mem_nil, or_false] at hw; exact hw.elim (fun e => e ▸ l h.1) fun e => e ▸ l h.2
  | tie a b => simp only [wordsD, List.mem_cons, List.not_mem_nil, or_false] at hw; exact hw.elim (fun e => e ▸ l h.1) fun e => e ▸ h.2
  | new a => simp only [wordsD, List.mem_cons, List.not_mem_nil, or_false] at hw; rw [hw]; exact l h
  | drop a => simp only [wordsD, List.mem_cons, List.not_mem_nil, or_false] at hw; rw [hw]; exact l h
theorem wQ_tgt {q : Quiz} (h : QOk q) : ∀ w ∈ wordsQ q, isTgt w = true := fun w hw => by
  unfold wordsQ at hw
  obtain ⟨t, ht, hw⟩ := List.mem_flatMap.mp hw
  obtain ⟨h1, h2, h3⟩ := trip_parts (h.tri t ht)
  simp only [List.mem_cons, List.not_mem_nil, or_false] at hw
  rcases hw with rfl | rfl
  · unfold isTgt; rw [h1]; rfl
  · exact h3
end K38
/-! What stands in a program: promises. -/
namespace K38
open PySem PySem.Spec PyProof.Rows L2 Z K1 TL K36 K34 K35
abbrev txL (ws : List Str) : Str := Txt.join (Str.ofString "") (sgn ws)
abbrev plainB (ts : List Tw) : Bool := !((loopsP ts).any fun t => !decide (loopsP (body t) = []))
section
variable (K : PySem.W.Frag) (C : Addr)
def a_all (n : Nat) : Sp := fun vs H Q _ => ∃ (v : V) (ts : List Tw), vs = [v] ∧ PAt K H v ts ∧ OkP n ts ∧ cntP ts ≤ 26000 ∧ ∀ H' l xs, Same H H' → H l = none → H' l = some (.lst xs) → DpAll K H' xs (dL (allP ts)) → Q (.ref l) H'
def a_tested : Sp := fun vs H Q _ => ∃ (v : V) (q : Quiz), vs = [v] ∧ QAt K H v q ∧ QOk q ∧ ∀ H', Same H H' → Q (.str (txL (wordsQ q))) H'
def a_letters : Sp := fun vs H Q _ => ∃ (v : V) (ts : List Tw), vs = [v] ∧ PAt K H v ts ∧ OkP 4 ts ∧ cntP ts ≤ 30 ∧ ∀ H', Same H H' → Q (.str (txL (wordsP ts))) H'
def a_some (f : List Tw → List Tw) : Sp := fun vs H Q _ => ∃ (v : V) (ts : List Tw), vs = [v] ∧ PAt K H v ts ∧ OkP 4 ts ∧ cntP ts ≤ 60 ∧ ∀ H' l xs, Same H H' → H l = none → H' l = some (.lst xs) → DpAll K H' xs (dL (f ts)) → Q (.ref l) H'
def a_plain : Sp := fun vs H Q _ => ∃ (v : V) (ts : List Tw), vs = [v] ∧ PAt K H v ts ∧ OkP 4 ts ∧ cntP ts ≤ 30 ∧ ∀ H', Same H H' → Q (.bl (plainB ts)) H'
/-- a question to a program: told, or refused -/
def a_ask (P : List Tw → Hp → VK → Prop) : Sp := fun vs H Q E => ∃ v, vs = [v] ∧ ((∃ x ts, v = .str x ∧ TxOk 12000 x ∧ txt x = some ts ∧ (OkP 4 ts → cntP ts ≤ 30 → P ts H Q)) ∨ (NoProg K H v ∧ ∀ H', Same H H' → Bad C "given" v H' E))
def tBl (f : List Tw → Bool) : List Tw → Hp → VK → Prop := fun ts H Q => ∀ H', Same H H' → Q (.bl (f ts)) H'
def tLet : List Tw → Hp → VK → Prop := fun ts H Q => ∀ H', Same H H' → Q (.str (txL (wordsP ts))) H'
def tDeeds : List Tw → Hp → VK → Prop := fun ts H Q => ∀ H' a, Same H H' → PAt K H' (.ref a) (actsP ts) → Q (.ref a) H'
def tNum : List Tw → Hp → VK → Prop := fun ts H Q => ∀ H', Same H H' → Q (.int (cntP ts : Nat)) H'
def a_signs (n : Nat) : Sp := fun vs H Q _ => ∃ (v : V) (ts : List Tw), vs = [v] ∧ PAt K H v ts ∧ OkP n ts ∧ cntP ts ≤ 60 ∧ ∀ H' l, Same H H' → H l = none → H' l = some (.lst ((sgn (wordsP ts)).map V.str)) → Q (.ref l) H'
def a_acts (n : Nat) : Sp := fun vs H Q _ => ∃ (v : V) (ts : List Tw), vs = [v] ∧ PAt K H v ts ∧ OkP n ts ∧ cntP ts ≤ 60 ∧ ∀ H' l xs, Same H H' → H l = none → H' l = some (.lst xs) → DpAll K H' xs (dL (actsP ts)) → Q (.ref l) H'
def a_nest (n : Nat) : Sp := fun vs H Q _ => ∃ (v : V) (ts : List Tw), vs = [v] ∧ PAt K H v ts ∧ OkP n ts ∧ cntP ts ≤ 60 ∧ ∀ H', Same H H' → Q (.int (nestP ts : Nat)) H'
def a_often (n : Nat) : Sp := fun vs H Q _ => ∃ (v : V) (ts : List Tw), vs = [v] ∧ PAt K H v ts ∧ OkP n ts ∧ cntP ts ≤ 60 ∧ ∀ H', Same H H' → Q (.int (cntP ts : Nat)) H'
end
def dueD (k : Nat) (ts : List Tw) : PyData := match k with
  | 0 => .str (txL (wordsP ts))
  | 1 => .tuple (dL (actsP ts))
  | 2 => .bool (!decide (loopsP ts = []))
  | 3 => .bool (plainB ts)
  | _ => .int (cntP ts : Nat)
def toldD (k : Nat) (ts : List Tw) : PyData := .list [.str (s_ "told"), dueD k ts, dueD k ts]
def a_called (K : PySem.W.Frag) : Sp := fun vs H Q _ => ∃ (k : Nat) (v : V), vs = [.int (k : Int), v] ∧ k < 5 ∧ ((∃ x ts, v = .str x ∧ TxOk 12000 x ∧ txt x = some ts ∧ (OkP 4 ts → cntP ts ≤ 30 → ∀ H' l, Same H H' → Dp K H' (.ref l) (toldD k ts) → Q (.ref l) H')) ∨ (NoProg K H v ∧ ∀ H' l, Same H H' → H' l = some (.lst [.str (s_ "refused"), v, .bl true]) → Q (.ref l) H'))
/-- one statement more -/
theorem all_take {ts : List Tw} {i : Nat} {t : Tw} (h : ts[i]? = some t) : allP (ts.take (i + 1)) = allP (ts.take i) ++ allS t := by
  rw [List.take_add_one, h, allP_app]
  simp [allP]
theorem words_take {ts : List Tw} {i : Nat} {t : Tw} (h : ts[i]? = some t) : wordsP (ts.take (i + 1)) = wordsP (ts.take i) ++ wordsS t := by
  simp only [wordsP, wordsS, all_take h, List.flatMap_append]
theorem acts_take {ts : List Tw} {i : Nat} {t : Tw} (h : ts[i]? = some t) : actsP (ts.take (i + 1)) = actsP (ts.take i) ++ actsS t := by
  simp only [actsP, actsS, all_take h, List.filter_append]
theorem nest_app : ∀ a b : List Tw, nestP (a ++ b) = max (nestP a) (nestP b)
  | [], b => by simp [nestP]
  | t :: r, b => by rw [List.cons_append]; simp only [nestP, nest_app r b]; omega
theorem nest_take {ts : List Tw} {i : Nat} {t : Tw} (h : ts[i]? = some t) : nestP (ts.take (i + 1)) = max (nestP (ts.take i)) (nestS t) := by
  rw [List.take_add_one, h, nest_app]
  simp [nestP]
theorem cnt_take {ts : List Tw} {i : Nat} {t : Tw} (h : ts[i]? = some t) : cntP (ts.take (i + 1)) = cntP (ts.take i) + cntS t := by
  rw [List.take_add_one, h, cnt_app]
  simp only [Option.toList, cntP]
  omega
theorem cnt_part {ts : List Tw} {i : Nat} : cntP (ts.take i) ≤ cntP ts := by
  have := cnt_app (ts.take i) (ts.drop i)
  rw [List.take_append_drop] at this
  omega
theorem nest_le : ∀ n t, OkS n t → nestS t ≤ n
  | _, .act _, _ => Nat.zero_le _
  | 0, .ifs _ _ _, h => h.elim
  | 0, .whi _ _, h => h.elim
  | n + 1, .ifs q a b, h => by
    have lp : ∀ ts : List Tw, OkP n ts → nestP ts ≤ n := fun ts => by
      induction ts with
      | nil => intro _; simp [nestP]
      | cons t r ih =>
        intro ok
        have h1 := nest_le n t (ok t (.head _))
        have h2 := ih fun y hy => ok y (.tail _ hy)
        simp only [nestP]
        omega
    have h1 := lp a h.2.1
    have h2 := lp b h.2.2
    simp only [nestS]
    omega
  | n + 1, .whi q a, h => by
    have lp : ∀ ts : List Tw, OkP n ts → nestP ts ≤ n := fun ts => by
      induction ts with
      | nil => intro _; simp [nestP]
      | cons t r ih =>
        intro ok
        have h1 := nest_le n t (ok t (.head _))
        have h2 := ih fun y hy => ok y (.tail _ hy)
        simp only [nestP]
        omega
    have h1 := lp a h.2
    simp only [nestS]
    omega
theorem sub_ok {n : Nat} {ts : List Tw} (p : Tw → Bool) (ok : OkP n ts) : OkP n ((allP ts).filter p) := fun t ht => allP_ok ok t (List.mem_filter.mp ht).1
theorem sub_cnt {ts : List Tw} (p : Tw → Bool) : ((allP ts).filter p).length ≤ cntP ts := by
  rw [← allP_len]
  exact List.length_filter_le _ _
theorem act_cnt (ts : List Tw) : cntP (actsP ts) ≤ cntP ts := by
  have l : ∀ xs : List Tw, (∀ t ∈ xs, isAct t = true) → cntP xs = xs.length := fun xs => by
    induction xs with
    | nil => intro _; simp [cntP]
    | cons t r ih =>
      intro h
      have h1 := h t (.head _)
      cases t with
      | act d =>
        simp only [cntP, cntS, List.length_cons, ih fun y hy => h y (.tail _ hy)]
        omega
      | ifs q a b => cases h1
      | whi q a => cases h1
  rw [l _ fun t ht => (List.mem_filter.mp ht).2]
  exact sub_cnt _
end K38
/-! The two walks of {k: v for t0 in i0 for t1 in i1}, each over a tuple. -/
namespace Z
open PySem PySem.Spec PyProof.Rows L2
theorem dc2_out {K : PySem.W.Frag} {a : Addr} {xs : List V} {g gj : TG} {wj : TI} {tk tv : TE} {vs us : List Nat} {σ : L2.St} {H1 : Hp} {D : Addr} {Qd : Hp → Prop} (Pv : Nat → Hp → Prop) (h0 : Pv 0 (upd H1 D (.dK []))) (hl : ∀ i H, i ≤ xs.length → Pv i H → SqT K H a xs)
    (hs : ∀ i x H, xs[i]? = some x → Pv i H → g x (wipe σ vs) H fun σ2 z2 => wipe σ2 vs = wipe σ vs ∧ wj σ2 z2 fun J2 z3 => ∃ V : Nat → Nat → Hp → Prop, (∃ m, V 0 m z3) ∧ ∀ j k y, V j k y → (J2.stop j y ∧ Pv (i + 1) y) ∨ (J2.go j y ∧ ∃ Ny : Hp → Prop, (∀ z, Ny z → ∃ k', k' < k ∧ V (j + 1) k' z) ∧
      ∀ x z, J2.yld j y x z → gj x (wipe σ2 us) z fun σ3 z4 => wipe σ3 us = wipe σ2 us ∧ tk σ3 z4 fun a z5 => tv σ3 z5 fun b z6 => ∃ kvs kk, a = kV kk ∧ z6 D = some (.dK kvs) ∧ kvs.length < sizeLine ∧ Ny (upd z6 D (.dK (putK kvs kk b))))) (hd : ∀ H, Pv xs.length H → Qd H) :
    ∃ W : Nat → Nat → Hp → Prop, (∃ m, W 0 m (upd H1 D (.dK []))) ∧ ∀ i m h, W i m h →
      ((Itt K a).stop i h ∧ Qd h) ∨ ((Itt K a).go i h ∧ ∃ Nx : Hp → Prop, (∀ z, Nx z → ∃ m', m' < m ∧ W (i + 1) m' z) ∧ ∀ x z, (Itt K a).yld i h x z → g x (wipe σ vs) z fun σ2 z2 => wipe σ2 vs = wipe σ vs ∧
        wj σ2 z2 fun J2 z3 => ∃ V : Nat → Nat → Hp → Prop, (∃ m, V 0 m z3) ∧ ∀ j k y, V j k y → (J2.stop j y ∧ Nx y) ∨ (J2.go j y ∧ ∃ Ny : Hp → Prop, (∀ z, Ny z → ∃ k', k' < k ∧ V (j + 1) k' z) ∧
          ∀ x z, J2.yld j y x z → gj x (wipe σ2 us) z fun σ3 z4 => wipe σ3 us = wipe σ2 us ∧ tk σ3 z4 fun a z5 => tv σ3 z5 fun b z6 => ∃ kvs kk, a = kV kk ∧ z6 D = some (.dK kvs) ∧ kvs.length < sizeLine ∧ Ny (upd z6 D (.dK (putK kvs kk b))))) := by
  refine ⟨fun i m h => m + i = xs.length ∧ Pv i h, ⟨xs.length, rfl, h0⟩, ?_⟩
  rintro i m h ⟨e, p⟩
  have q := hl i h (by omega) p
  rcases Nat.lt_or_ge i xs.length with lt | ge
  · refine .inr ⟨⟨xs, xs[i], q, List.getElem?_eq_getElem lt⟩, Pv (i + 1), fun z pz => ⟨m - 1, by omega, by omega, pz⟩, fun x z y => ?_⟩
    obtain ⟨rfl, y⟩ := y
    exact hs i x _ (y xs q) p
  · obtain rfl : i = xs.length := by omega
    exact .inl ⟨⟨xs, q, Nat.le_refl _⟩, hd h p⟩
theorem dc2_in {K : PySem.W.Frag} {a : Addr} {xs : List V} {gj : TG} {tk tv : TE} {us : List Nat} {σ2 : L2.St} {H1 : Hp} {D : Addr} {Qd : Hp → Prop} (Pv : Nat → Hp → Prop) (h0 : Pv 0 H1) (hl : ∀ i H, i ≤ xs.length → Pv i H → SqT K H a xs)
    (hs : ∀ i x H, xs[i]? = some x → Pv i H → gj x (wipe σ2 us) H fun σ3 z4 => wipe σ3 us = wipe σ2 us ∧ tk σ3 z4 fun a z5 => tv σ3 z5 fun b z6 => ∃ kvs kk, a = kV kk ∧ z6 D = some (.dK kvs) ∧ kvs.length < sizeLine ∧ Pv (i + 1) (upd z6 D (.dK (putK kvs kk b)))) (hd : ∀ H, Pv xs.length H → Qd H) :
    ∃ V : Nat → Nat → Hp → Prop, (∃ m, V 0 m H1) ∧ ∀ j k y, V j k y → ((Itt K a).stop j y ∧ Qd y) ∨ ((Itt K a).go j y ∧ ∃ Ny : Hp → Prop, (∀ z, Ny z → ∃ k', k' < k ∧ V (j + 1) k' z) ∧
      ∀ x z, (Itt K a).yld j y x z → gj x (wipe σ2 us) z fun σ3 z4 => wipe σ3 us = wipe σ2 us ∧ tk σ3 z4 fun a z5 => tv σ3 z5 fun b z6 => ∃ kvs kk, a = kV kk ∧ z6 D = some (.dK kvs) ∧ kvs.length < sizeLine ∧ Ny (upd z6 D (.dK (putK kvs kk b)))) := by
  refine ⟨fun i m h => m + i = xs.length ∧ Pv i h, ⟨xs.length, rfl, h0⟩, ?_⟩
  rintro i m h ⟨e, p⟩
  have q := hl i h (by omega) p
  rcases Nat.lt_or_ge i xs.length with lt | ge
  · refine .inr ⟨⟨xs, xs[i], q, List.getElem?_eq_getElem lt⟩, Pv (i + 1), fun z pz => ⟨m - 1, by omega, by omega, pz⟩, fun x z y => ?_⟩
    obtain ⟨rfl, y⟩ := y
    exact hs i x _ (y xs q) p
  · obtain rfl : i = xs.length := by omega
    exact .inl ⟨⟨xs, q, Nat.le_refl _⟩, hd h p⟩
theorem pi_tupK {X : Cx} {K : PySem.W.Frag} {tg l : Expr} {tl : TE} (h : X.K = K) (hl : PE X l tl) : PI X tg l (iTup K tl) := h ▸ pi_tup hl
theorem pi_listK {X : Cx} {K : PySem.W.Frag} {tg l : Expr} {tl : TE} (h : X.K = K) (hl : PE X l tl) : PI X tg l (iList K tl) := h ▸ pi_list hl
theorem sl_tupPK {X : Cx} {K : PySem.W.Frag} (h : X.K = K) : SlR X (rSlP K) := h ▸ sl_tupP
theorem op_in_seqK {X : Cx} {K : PySem.W.Frag} (h : X.K = K) : OpR X (compareOp .In) (rIn K false) := h ▸ op_in_seq
end Z
/-! Trees walked by their parts. -/
namespace K38
open PySem PySem.Spec PyProof.Rows L2 Z K1 TL K36 K34 K35
def parts : Tw → List (List Tw)
  | .act _ => []
  | .ifs _ a b => [a, b]
  | .whi _ a => [a]
abbrev PsAt (K : PySem.W.Frag) (H : Hp) (n : Nat) (ps : List V) (pl : List (List Tw)) : Prop := Paired (fun v p => PAt K H v p ∧ OkP n p) ps pl
theorem PsAt.imm {K : PySem.W.Frag} {H H' : Hp} {n : Nat} (e : Imm H H') : ∀ {ps : List V} {pl : List (List Tw)}, PsAt K H n ps pl → PsAt K H' n ps pl
  | _, _, .nil => .nil
  | _, _, .cons h t => .cons ⟨PAt.imm h.2 e h.1, h.2⟩ (PsAt.imm e t)
def kw (t : Tw) : Str := if isWhi t = true then s_ "while" else s_ "if"
theorem kw_br (t : Tw) : isBr (kw t) = true := by
  unfold kw
  split <;> decide +kernel
theorem br_at {K : PySem.W.Frag} {H : Hp} {v : V} {t : Tw} {n : Nat} (h : SAt K H v t) (ok : OkS n t) (na : isAct t = false) : ∃ m a qv ps q, n = m + 1 ∧ v = .ref a ∧ SqT K H a (.str (kw t) :: qv :: ps) ∧ QAt K H qv q ∧ QOk q ∧ wordsH t = wordsQ q ∧ PsAt K H m ps (parts t) ∧ cutV (.str (kw t) :: qv :: ps) (some 2) none = ps ∧ ps ≠ [] ∧ ¬ HT.sIx (.str (kw t) :: qv :: ps : List V).length 0 (some 2) = 0 := by
  cases t with
  | act d => cases na
  | ifs q b c =>
    cases n with
    | zero => exact ok.elim
    | succ n =>
      obtain ⟨p0, z0, z1, z2, z3, rfl, hs, d1, d2, d3, d4⟩ := K34.dp_four h
      obtain rfl := dp_str d1
      exact ⟨n, p0, z1, [z2, z3], q, rfl, rfl, hs, q_of d2, ok.1.1, rfl, .cons ⟨d3, ok.2.1⟩ (.cons ⟨d4, ok.2.2⟩ .nil), rfl, by simp, by show ¬ (HT.sIx 4 0 (some 2) = 0); decide⟩
  | whi q b =>
    cases n with
    | zero => exact ok.elim
    | succ n =>
      obtain ⟨p0, z0, z1, z2, rfl, hs, d1, d2, d3⟩ := K34.dp_three h
      obtain rfl := dp_str d1
      exact ⟨n, p0, z1, [z2], q, rfl, rfl, hs, q_of d2, ok.1.1, rfl, .cons ⟨d3, ok.2⟩ .nil, rfl, by simp, by show ¬ (HT.sIx 3 0 (some 2) = 0); decide⟩
theorem allS_br {t : Tw} (na : isAct t = false) : allS t = t :: (parts t).flatMap allP := by
  cases t with
  | act d => cases na
  | ifs q a b => simp [allS, parts]
  | whi q a => simp [allS, parts]
theorem wordsS_br {t : Tw} (na : isAct t = false) : wordsS t = wordsH t ++ (parts t).flatMap wordsP := by
  cases t with
  | act d => cases na
  | ifs q a b => rw [words_ifs]; simp [wordsH, parts]
  | whi q a => rw [words_whi]; simp [wordsH, parts]
theorem actsS_br {t : Tw} (na : isAct t = false) : actsS t = (parts t).flatMap actsP := by
  cases t with
  | act d => cases na
  | ifs q a b => rw [acts_ifs]; simp [parts]
  | whi q a => rw [acts_whi]; simp [parts]
theorem cntS_br {t : Tw} (na : isAct t = false) : cntS t = 1 + ((parts t).map cntP).sum := by
  cases t with
  | act d => cases na
  | ifs q a b => simp only [cntS, parts, List.map_cons, List.map_nil, List.sum_cons, List.sum_nil]; omega
  | whi q a => simp only [cntS, parts, List.map_cons, List.map_nil, List.sum_cons, List.sum_nil]; omega
theorem part_cnt {t : Tw} {p : List Tw} (h : p ∈ parts t) : cntP p + 1 ≤ cntS t := by
  cases t with
  | act d => cases h
  | ifs q a b =>
    simp only [parts, List.mem_cons, List.not_mem_nil, or_false] at h
    simp only [cntS]
    rcases h with rfl | rfl <;> omega
  | whi q a =>
    simp only [parts, List.mem_cons, List.not_mem_nil, or_false] at h
    simp only [cntS]
    rw [h]
    omega
def mxP (e : Nat) : List (List Tw) → Nat
  | [] => 0
  | p :: r => max (nestP p + e) (mxP e r)
theorem mx_app (e : Nat) : ∀ a b, mxP e (a ++ b) = max (mxP e a) (mxP e b)
  | [], b => by simp [mxP]
  | p :: r, b => by rw [List.cons_append]; simp only [mxP, mx_app e r b]; omega
theorem nestS_br (t : Tw) : nestS t = mxP (if isWhi t = true then 1 else 0) (parts t) := by
  cases t with
  | act d => simp [nestS, parts, mxP]
  | ifs q a b => simp [nestS, parts, mxP, isWhi]
  | whi q a => simp [nestS, parts, mxP, isWhi]
theorem take_snoc {α : Type} {l : List α} {i : Nat} {x : α} (h : l[i]? = some x) : l.take (i + 1) = l.take i ++ [x] := by
  rw [List.take_add_one, h]
  rfl
theorem kw_while (t : Tw) : decide (V.str (kw t) = V.str (s_ "while")) = isWhi t := by
  rw [dec_st]
  unfold kw
  cases isWhi t with
  | true => exact decide_eq_true rfl
  | false => exact decide_eq_false (by decide +kernel)
theorem dp_list {K : PySem.W.Frag} {H : Hp} {l : Addr} {xs : List V} {ds : List PyData} (h : H l = some (.lst xs)) (d : DpAll K H xs ds) : Dp K H (.ref l) (.list ds) := .lst (.inl (.inl h)) d
/-- the head of a deed's tuple is none of the two that branch -/
theorem act_br {K : PySem.W.Frag} {H : Hp} {v : V} {d : Deed} (h : Dp K H v (dD d)) : ∃ a nm, v = .ref a ∧ SqT K H a (.str nm :: (wordsD d).map V.str) ∧ isBr nm = false := by
  have l : ∀ {nm : Str}, nm ≠ s_ "if" → nm ≠ s_ "while" → isBr nm = false := fun h1 h2 => by
    unfold isBr
    rw [decide_eq_false h1.symm, decide_eq_false h2.symm]
    rfl
  cases d with
  | copy a b => obtain ⟨p, x, y, z, rfl, s, e1, e2, e3⟩ := dp_three h; rw [dp_str e1, dp_str e2, dp_str e3] at s; exact ⟨_, _, rfl, s, l (by decide +kernel) (by decide +kernel)⟩
  | next a b => obtain ⟨p, x, y, z, rfl, s, e1, e2, e3⟩ := dp_three h; rw [dp_str e1, dp_str e2, dp_str e3] at s; exact ⟨_, _, rfl, s, l (by decide +kernel) (by decide +kernel)⟩
  | tie a b => obtain ⟨p, x, y, z, rfl, s, e1, e2, e3⟩ := dp_three h; rw [dp_str e1, dp_str e2, dp_str e3] at s; exact ⟨_, _, rfl, s, l (by decide +kernel) (by decide +kernel)⟩
  | new a => obtain ⟨p, x, y, rfl, s, e1, e2⟩ := dp_two h; rw [dp_str e1, dp_str e2] at s; exact ⟨_, _, rfl, s, l (by decide +kernel) (by decide +kernel)⟩
  | drop a => obtain ⟨p, x, y, rfl, s, e1, e2⟩ := dp_two h; rw [dp_str e1, dp_str e2] at s; exact ⟨_, _, rfl, s, l (by decide +kernel) (by decide +kernel)⟩
/-- all statements keep their places -/
theorem da_all {K : PySem.W.Frag} {H : Hp} {n : Nat} {ts : List Tw} {xs : List V} (ok : OkP n ts) (h : DpAll K H xs (dL (allP ts))) : xs.length = cntP ts := by rw [da_dL_len h, allP_len]
end K38
namespace K38
open PySem PySem.Spec PyProof.Rows L2 Z K1 TL K36 K34 K35
theorem allS_act {t : Tw} (h : isAct t = true) : allS t = [t] := by
  cases t with
  | act d => simp [allS]
  | ifs q a b => cases h
  | whi q a => cases h
theorem allS_cnt (t : Tw) : (allS t).length = cntS t := allS_len t
theorem all_part {t : Tw} (na : isAct t = false) (j : Nat) : (((parts t).take j).flatMap allP).length + 1 ≤ cntS t := by
  have e := allS_cnt t
  rw [allS_br na, List.length_cons, ← List.take_append_drop j (parts t), List.flatMap_append, List.length_append] at e
  omega
theorem all_snoc {t : Tw} {j : Nat} {p : List Tw} (f : List Tw → List Tw) (h : (parts t)[j]? = some p) : ((parts t).take (j + 1)).flatMap f = ((parts t).take j).flatMap f ++ f p := by
  rw [take_snoc h, List.flatMap_append]
  simp
theorem all_snocW {t : Tw} {j : Nat} {p : List Tw} (f : List Tw → List Str) (h : (parts t)[j]? = some p) : ((parts t).take (j + 1)).flatMap f = ((parts t).take j).flatMap f ++ f p := by
  rw [take_snoc h, List.flatMap_append]
  simp
theorem part_ok {n : Nat} {t : Tw} (ok : OkS (n + 1) t) : ∀ p ∈ parts t, OkP n p := fun p hp => by
  cases t with
  | act d => cases hp
  | ifs q a b =>
    simp only [parts, List.mem_cons, List.not_mem_nil, or_false] at hp
    rcases hp with rfl | rfl
    · exact ok.2.1
    · exact ok.2.2
  | whi q a =>
    simp only [parts, List.mem_cons, List.not_mem_nil, or_false] at hp
    rw [hp]
    exact ok.2
theorem flat_ok {n : Nat} {t : Tw} (ok : OkS (n + 1) t) (j : Nat) (f : List Tw → List Tw) (hf : ∀ p, OkP n p → OkP n (f p)) : OkP (n + 1) (((parts t).take j).flatMap f) := fun x hx => by
  obtain ⟨p, hp, hx⟩ := List.mem_flatMap.mp hx
  exact ok_mono (hf p (part_ok ok p (List.mem_of_mem_take hp)) x hx)
theorem okp_app {n : Nat} {a b : List Tw} (h : OkP n a) (k : OkP n b) : OkP n (a ++ b) := fun y hy => (List.mem_append.mp hy).elim (h y) (k y)
theorem okp_mono {n : Nat} {a : List Tw} (h : OkP n a) : OkP (n + 1) a := fun y hy => ok_mono (h y hy)
theorem okp_take {n i : Nat} {a : List Tw} (h : OkP n a) : OkP n (a.take i) := fun y hy => h y (List.mem_of_mem_take hy)
end K38

namespace K38
open PySem PySem.Spec PyProof.Rows L2 Z K1 TL K36 K34 K35
/-- [x for x in statements if ..] -/
theorem lcA {K : PySem.W.Frag} {g : TG} {tt : TT} {te : TE} {vs : List Nat} {σ : L2.St} {H1 : Hp} {D l : Addr} {Qd : Hp → Prop} {xs : List V} {as : List Tw} {n : Nat} (c : Tw → Bool) (ok : OkP n as) (hl : H1 l = some (.lst xs)) (hx : DpAll K H1 xs (dL as)) (hD : H1 D = none) (few : as.length ≤ 90000)
    (hs : ∀ x t H' (R1 : Hp → Prop) (R2 : V → Hp → Prop), t ∈ as → SAt K H' x t → OkS n t → (∀ H'', Same H' H'' → c t = false → R1 H'') → (∀ H'', Same H' H'' → c t = true → R2 x H'') →
      g x (wipe σ vs) H' fun σ2 H2 => wipe σ2 vs = wipe σ vs ∧ tt σ2 H2 fun b H3 => if b = true then te σ2 H3 R2 else R1 H3)
    (hd : ∀ H' ys, Same H1 H' → H' D = some (.lst ys) → DpAll K H' ys (dL (as.filter c)) → Qd H') :
    ∃ W : Nat → Nat → Hp → Prop, (∃ m, W 0 m (upd H1 D (.lst []))) ∧ ∀ i m H, W i m H →
      ((Itl K l).stop i H ∧ Qd H) ∨ ((Itl K l).go i H ∧ ∃ Nx : Hp → Prop, (∀ H', Nx H' → ∃ m', m' < m ∧ W (i + 1) m' H') ∧ ∀ x H', (Itl K l).yld i H x H' → g x (wipe σ vs) H' fun σ2 H2 => wipe σ2 vs = wipe σ vs ∧ tt σ2 H2 fun b H3 =>
        if b = true then te σ2 H3 fun y H4 => ∃ acc, H4 D = some (.lst acc) ∧ acc.length < sizeLine ∧ Nx (upd H4 D (.lst (acc ++ [y]))) else Nx H3) := by
  have xl := da_dL_len hx
  refine lc_list (xs := xs) (fun i H' => Same H1 H' ∧ ∃ ys, H' D = some (.lst ys) ∧ DpAll K H' ys (dL ((as.take i).filter c))) ⟨same_new hD, [], upd_same, by simp only [List.take_zero, List.filter_nil, dL]; exact .nil⟩ (fun i H' _ h => .inl (.inl (h.1 _ _ hl))) (fun i x H' hi h => ?_) (fun H' h => ?_)
  · obtain ⟨s1, ys, hk, hy⟩ := h
    obtain ⟨t, ht, hxt⟩ := da_at hx hi
    have tm := List.mem_of_getElem? ht
    have okt := ok t tm
    have okf : OkP n ((as.take i).filter c) := fun y hy => ok y (List.mem_of_mem_take (List.mem_filter.mp hy).1)
    have yl := da_dL_len hy
    have fl := List.length_filter_le c (as.take i)
    rw [List.length_take] at fl
    refine hs x t H' _ _ tm (SAt.imm okt (.of s1) hxt) okt (fun H2 s2 e => ?_) (fun H2 s2 e => ?_)
    · refine ⟨s1.trans s2, ys, s2 _ _ hk, ?_⟩
      rw [take_snoc ht, List.filter_append, List.filter_cons, e]
      simpa using da_imm okf (.of s2) hy
    · have k2 := s2 _ _ hk
      have im : Imm H2 (upd H2 D (.lst (ys ++ [x]))) := Chg.imm Chg.upd k2 trivial
      refine ⟨ys, k2, Nat.lt_of_le_of_lt (show ys.length ≤ 90000 by omega) (Nat.lt_of_lt_of_le (show 90000 < 100000 by decide) (sl_le (by decide))), fun b o eb => by rw [upd_ne (ne_of_none eb hD)]; exact s2 _ _ (s1 _ _ eb), ys ++ [x], upd_same, ?_⟩
      rw [take_snoc ht, List.filter_append, List.filter_cons, e]
      simp only [if_true, List.filter_nil]
      rw [dL_app, show dL [t] = [dS t] by simp only [dL]]
      exact da_snoc (da_imm okf ((Imm.of s2).trans im) hy) (SAt.imm okt ((Imm.of (s1.trans s2)).trans im) hxt)
  · obtain ⟨s1, ys, hk, hy⟩ := h
    rw [xl, List.take_length] at hy
    exact hd H' ys s1 hk hy
end K38
namespace K38
open PySem PySem.Spec PyProof.Rows L2 Z K1 TL K36 K34 K35
/-- [w for w in texts if ..] -/
theorem lcW {K : PySem.W.Frag} {g : TG} {tt : TT} {te : TE} {vs : List Nat} {σ : L2.St} {H1 : Hp} {D l : Addr} {Qd : Hp → Prop} {ws : List Str} (c : Str → Bool) (hl : H1 l = some (.lst (ws.map V.str))) (hD : H1 D = none) (few : ws.length ≤ 90000)
    (hs : ∀ w H' (R1 : Hp → Prop) (R2 : V → Hp → Prop), w ∈ ws → Same H1 H' → (∀ H'', Same H' H'' → c w = false → R1 H'') → (∀ H'', Same H' H'' → c w = true → R2 (.str w) H'') →
      g (.str w) (wipe σ vs) H' fun σ2 H2 => wipe σ2 vs = wipe σ vs ∧ tt σ2 H2 fun b H3 => if b = true then te σ2 H3 R2 else R1 H3)
    (hd : ∀ H', Same H1 H' → H' D = some (.lst ((ws.filter c).map V.str)) → Qd H') :
    ∃ W : Nat → Nat → Hp → Prop, (∃ m, W 0 m (upd H1 D (.lst []))) ∧ ∀ i m H, W i m H →
      ((Itl K l).stop i H ∧ Qd H) ∨ ((Itl K l).go i H ∧ ∃ Nx : Hp → Prop, (∀ H', Nx H' → ∃ m', m' < m ∧ W (i + 1) m' H') ∧ ∀ x H', (Itl K l).yld i H x H' → g x (wipe σ vs) H' fun σ2 H2 => wipe σ2 vs = wipe σ vs ∧ tt σ2 H2 fun b H3 =>
        if b = true then te σ2 H3 fun y H4 => ∃ acc, H4 D = some (.lst acc) ∧ acc.length < sizeLine ∧ Nx (upd H4 D (.lst (acc ++ [y]))) else Nx H3) := by
  refine lc_list (xs := ws.map V.str) (fun i H' => Same H1 H' ∧ H' D = some (.lst (((ws.take i).filter c).map V.str))) ⟨same_new hD, upd_same⟩ (fun i H' _ h => .inl (.inl (h.1 _ _ hl))) (fun i x H' hi h => ?_) (fun H' h => ?_)
  · obtain ⟨s1, hk⟩ := h
    obtain ⟨w, hw, rfl⟩ := map_at hi
    have fl := List.length_filter_le c (ws.take i)
    rw [List.length_take] at fl
    refine hs w H' _ _ (List.mem_of_getElem? hw) s1 (fun H2 s2 e => ?_) (fun H2 s2 e => ?_)
    · refine ⟨s1.trans s2, ?_⟩
      rw [take_snoc hw, List.filter_append, List.filter_cons, e]
      simpa using s2 _ _ hk
    · have k2 := s2 _ _ hk
      refine ⟨_, k2, Nat.lt_of_le_of_lt (show (((ws.take i).filter c).map V.str).length ≤ 90000 by rw [List.length_map]; omega) (Nat.lt_of_lt_of_le (show 90000 < 100000 by decide) (sl_le (by decide))), fun b o eb => by rw [upd_ne (ne_of_none eb hD)]; exact s2 _ _ (s1 _ _ eb), ?_⟩
      rw [upd_same, take_snoc hw, List.filter_append, List.filter_cons, e]
      simp
  · obtain ⟨s1, hk⟩ := h
    rw [List.length_map, List.take_length] at hk
    exact hd H' s1 hk
abbrev wordsT (l : List Tri) : List Str := l.flatMap fun t => [t.2.1, t.2.2]
theorem join_small {ws : List Str} (h : ∀ w ∈ ws, w.length ≤ 10) (n : ws.length ≤ 1000) : (ws.map (·.length)).sum + ws.length * (Str.ofString "").length ≤ 16777216 := by
  have e : (Str.ofString "").length = 0 := by decide +kernel
  have := StrLaws.sumLen_le (B := 10) ws h
  rw [e]
  omega
theorem sgn_small (ws : List Str) : ((sgn ws).map (·.length)).sum + (sgn ws).length * (Str.ofString "").length ≤ 16777216 := join_small (fun w hw => by
  have := (tx_let (sgn_mem.mp hw).1).len
  omega) (by have := sgn_len ws; omega)
end K38
namespace K38
open PySem PySem.Spec PyProof.Rows L2 Z K1 TL K36 K34 K35
theorem tl_join : ∀ cs : List Nat, tl (Str.join (Str.ofString "") (cs.map ch)) = cs
  | [] => by decide +kernel
  | [c] => rfl
  | c :: d :: r => by
    have ih := tl_join (d :: r)
    have e : Str.join (Str.ofString "") ((c :: d :: r).map ch) = ch c ++ Str.ofString "" ++ Str.join (Str.ofString "") ((d :: r).map ch) := rfl
    have e0 : tl (Str.ofString "") = [] := by decide +kernel
    rw [e, tl_append, tl_append, ih, e0]
    rfl
theorem txL_tl (ws : List Str) : tl (txL ws) = sgc ws := by
  unfold txL sgn
  rw [join_eq, tl_join]
theorem txL_ok (ws : List Str) : TxOk 26 (txL ws) := by
  refine ⟨?_, fun c hc => ?_⟩
  · rw [len_tl, txL_tl]
    exact Nat.le_trans (List.length_filter_le _ _) (by decide +kernel)
  · rw [txL_tl] at hc
    have := (sgc_mem.mp hc).1
    omega
theorem whi_at {K : PySem.W.Frag} {H : Hp} {v : V} {t : Tw} {n : Nat} (h : SAt K H v t) (ok : OkS n t) (w : isWhi t = true) : ∃ a x0 x1 z, v = .ref a ∧ SqT K H a [x0, x1, z] ∧ PAt K H z (body t) ∧ OkP n (body t) ∧ cntP (body t) + 1 ≤ cntS t := by
  cases t with
  | act d => cases w
  | ifs q a b => cases w
  | whi q b =>
    cases n with
    | zero => exact ok.elim
    | succ n =>
      obtain ⟨p0, z0, z1, z2, rfl, hs, d1, d2, d3⟩ := K34.dp_three h
      exact ⟨p0, z0, z1, z2, rfl, hs, d3, okp_mono ok.2, by simp only [body, cntS]; omega⟩
mutual
theorem allS_mem : ∀ t x, x ∈ allS t → cntS x ≤ cntS t
  | .act d, x, h => by simp only [allS, List.mem_singleton] at h; rw [h]; exact Nat.le_refl _
  | .ifs q a b, x, h => by
    simp only [allS, List.mem_cons, List.mem_append] at h
    rcases h with rfl | h | h
    · exact Nat.le_refl _
    · have := allP_mem a x h
      simp only [cntS]
      omega
    · have := allP_mem b x h
      simp only [cntS]
      omega
  | .whi q a, x, h => by
    simp only [allS, List.mem_cons] at h
    rcases h with rfl | h
    · exact Nat.le_refl _
    · have := allP_mem a x h
      simp only [cntS]
      omega
theorem allP_mem : ∀ ts x, x ∈ allP ts → cntS x ≤ cntP ts
  | [], x, h => by simp [allP] at h
  | t :: r, x, h => by
    simp only [allP, List.mem_append] at h
    simp only [cntP]
    rcases h with h | h
    · have := allS_mem t x h
      omega
    · have := allP_mem r x h
      omega
end
theorem dl_shaped {n : Nat} {as : List Tw} (ok : OkP n as) (hn : n ≤ 4) : SeqAt.shaped (.list (dL as)) = true := by
  have h := dl_map (n := n) as fun t ht => dg_all n t (ok t ht)
  have hd := h.dep
  have l : PyData.canLay0 (.list (dL as)) = true := by simp only [PyData.canLay0, h.lay]
  have d : PyData.depth (.list (dL as)) ≤ 64 := by
    simp only [PyData.depth]
    omega
  unfold SeqAt.shaped
  rw [l, decide_eq_true d]
  rfl
theorem eqv_nil (as : List Tw) : PyData.eqv (.list (dL as)) (.list []) = decide (as = []) := by
  cases as with
  | nil => simp [dL, PyData.eqv, PyData.eqvAll]
  | cons t r => simp [dL, PyData.eqv, PyData.eqvAll]
theorem ne_dL {K : PySem.W.Frag} {H : Hp} {D q : Addr} {as : List Tw} {n : Nat} {Q : VK} {xs : List V} (ok : OkP n as) (hn : n ≤ 4) (hd : H D = some (.lst xs)) (dx : DpAll K H xs (dL as)) (hq : H q = none) (k : ∀ H2, Same H H2 → Q (.bl (!decide (as = []))) H2) : rNeD K (.ref D) (.ref q) (upd H q (.lst [])) Q := by
  have s := same_new (o := .lst []) hq
  refine ⟨.list (dL as), .list [], dp_list (s _ _ hd) (da_imm ok (.of s) dx), .lst (.inl (.inl upd_same)) .nil, dl_shaped ok hn, by decide +kernel, ?_⟩
  rw [eqv_nil]
  exact k _ s
theorem wH_tgt {n : Nat} {t : Tw} (ok : OkS n t) : ∀ w ∈ wordsH t, isTgt w = true := by
  cases t with
  | act d => exact wD_tgt (ok_act ok)
  | ifs q a b =>
    cases n with
    | zero => exact ok.elim
    | succ n => exact wQ_tgt ok.1.1
  | whi q a =>
    cases n with
    | zero => exact ok.elim
    | succ n => exact wQ_tgt ok.1.1
theorem words_snoc {as : List Tw} {i : Nat} {t : Tw} (h : as[i]? = some t) : (as.take (i + 1)).flatMap wordsH = (as.take i).flatMap wordsH ++ wordsH t := by
  rw [take_snoc h, List.flatMap_append]
  simp
theorem plain_lists (D : List (List Tw)) : PyData.plainAll (D.map fun d => .list (dL d)) = true := by
  have ps : ∀ n t, OkS n t → True := fun _ _ _ => trivial
  induction D with
  | nil => simp [PyData.plainAll]
  | cons d r ih =>
    simp only [List.map_cons, PyData.plainAll, ih, Bool.and_true, PyData.plain]
    exact dL_plain d
where
  dD_plain : ∀ d, (dD d).plain = true := fun d => by cases d <;> simp [dD, PyData.plain, PyData.plainAll]
  q_plain : ∀ q : Quiz, (qD q).plain = true := fun q => by
    have l : ∀ l : List Tri, PyData.plainAll (l.map tD) = true := fun l => by
      induction l with
      | nil => simp [PyData.plainAll]
      | cons t r ih => simp only [List.map_cons, PyData.plainAll, ih, Bool.and_true]; simp [tD, PyData.plain, PyData.plainAll]
    simp [qD, PyData.plain, PyData.plainAll, l]
  dS_plain : ∀ t, (dS t).plain = true
    | .act d => by simp only [dS]; exact dD_plain d
    | .ifs q a b => by simp only [dS, PyData.plain, PyData.plainAll, q_plain q, dL_plain a, dL_plain b, Bool.and_true]
    | .whi q a => by simp only [dS, PyData.plain, PyData.plainAll, q_plain q, dL_plain a, Bool.and_true]
  dL_plain : ∀ ts, PyData.plainAll (dL ts) = true
    | [] => by simp [dL, PyData.plainAll]
    | t :: r => by simp only [dL, PyData.plainAll, dS_plain t, dL_plain r, Bool.and_true]
theorem dL_length (ts : List Tw) : (dL ts).length = ts.length := by rw [dL_map, List.length_map]
theorem lists_truthy (D : List (List Tw)) : (D.map fun d => PyData.list (dL d)).any PyData.truthy = D.any fun d => !decide (d = []) := by
  rw [List.any_map]
  congr 1
  funext d
  cases d with
  | nil => simp [PyData.truthy, dL]
  | cons t r => simp [PyData.truthy, dL]
end K38
namespace K38
open PySem PySem.Spec PyProof.Rows L2 Z K1 TL K36 K34 K35
theorem body_cnt (t : Tw) : cntP (body t) ≤ cntS t := by
  cases t with
  | act d => simp [body, cntP]
  | ifs q a b => simp only [body, cntS]; omega
  | whi q a => simp only [body, cntS]; omega
theorem Paired.imp {α β : Type} {F G : α → β → Prop} (h : ∀ a b, F a b → G a b) : ∀ {xs : List α} {ys : List β}, Paired F xs ys → Paired G xs ys
  | _, _, .nil => .nil
  | _, _, .cons a t => .cons (h _ _ a) (Paired.imp h t)
theorem lists_dp {K : PySem.W.Frag} {H : Hp} {F : Addr × List V → Tw → Prop} (h : ∀ p t, F p t → H p.1 = some (.lst p.2) ∧ DpAll K H p.2 (dL (loopsP (body t)))) : ∀ {ls : List (Addr × List V)} {as : List Tw}, Paired F ls as → DpAll K H (ls.map fun p => V.ref p.1) ((as.map fun t => loopsP (body t)).map fun d => .list (dL d))
  | _, _, .nil => .nil
  | _, _, .cons a t => .cons (dp_list (h _ _ a).1 (h _ _ a).2) (lists_dp h t)
end K38
namespace K38
open PySem PySem.Spec PyProof.Rows L2 Z K1 TL K36 K34 K35
/-- whether a statement's first word is one of the two that branch -/
theorem br_test {K : PySem.W.Frag} {σ : L2.St} {H : Hp} {Q : Bool → Hp → Prop} {i : Nat} {x : V} {t : Tw} {n : Nat} (hv : σ[i]? = some (some x)) (hx : SAt K H x t) (ok : OkS n t) (k : ∀ H2, Same H H2 → Q (!isAct t) H2) :
    tTest (tOp (rIn K false) (tOp (rIxT K) (tVar i) (tC (.int 0))) (tTup (tCons (tC (.str (Str.ofString "if"))) (tCons (tC (.str (Str.ofString "while"))) tNil)))) σ H Q := by
  obtain ⟨a, nm, us, rfl, hs, en⟩ : ∃ a nm us, x = .ref a ∧ SqT K H a (.str nm :: us) ∧ isBr nm = !isAct t := by
    cases ha : isAct t with
    | true =>
      cases t with
      | act d =>
        obtain ⟨a, nm, rfl, hs, hb⟩ := act_br (show Dp K H x (dD d) by have := hx; unfold SAt at this; simp only [dS] at this; exact this)
        exact ⟨a, nm, _, rfl, hs, hb⟩
      | ifs q b c => cases ha
      | whi q b => cases ha
    | false =>
      obtain ⟨m, a, qv, ps, q, _, rfl, hs, _⟩ := br_at hx ok ha
      exact ⟨a, kw t, _, rfl, hs, kw_br t⟩
  refine ⟨_, hv, a, _, 0, _, rfl, rfl, hs, at_first, sl_le (by show 2 ≤ 1000000; decide), fun p hp => ⟨p, _, rfl, .inr (.inl (.inl upd_same)), rfl, rfl, _, rfl, ?_⟩⟩
  rw [show (if false = true then !inV (V.str nm) [V.str (Str.ofString "if"), V.str (Str.ofString "while")] else inV (V.str nm) [V.str (Str.ofString "if"), V.str (Str.ofString "while")]) = isBr nm from in_br _, en]
  exact k _ (same_new hp)
theorem acts_part {t : Tw} (na : isAct t = false) (j : Nat) : (((parts t).take j).flatMap actsP).length + 1 ≤ cntS t := by
  have l : ∀ l : List (List Tw), (l.flatMap actsP).length ≤ (l.flatMap allP).length := fun l => by
    induction l with
    | nil => simp
    | cons p r ih =>
      have := List.length_filter_le isAct (allP p)
      simp only [List.flatMap_cons, List.length_append, actsP] at ih ⊢
      omega
  have := l ((parts t).take j)
  have := all_part na j
  omega
theorem actsS_act {t : Tw} (h : isAct t = true) : actsS t = [t] := by
  unfold actsS
  rw [allS_act h]
  simp [h]
theorem nestS_act {t : Tw} (h : isAct t = true) : nestS t = 0 := by
  cases t with
  | act d => simp [nestS]
  | ifs q a b => cases h
  | whi q a => cases h
theorem cntS_act {t : Tw} (h : isAct t = true) : cntS t = 1 := by
  cases t with
  | act d => simp [cntS]
  | ifs q a b => cases h
  | whi q a => cases h
/-- [s for s in letters if s in found] -/
theorem lcSg {K : PySem.W.Frag} {σ : L2.St} {i f : Nat} {H : Hp} {Q : VK} {ws : List Str} {p : Addr} (hi : i < σ.length) (nf : f ≠ i) (hf : σ[f]? = some (some (.ref p))) (hp : H p = some (.lst (ws.map V.str)))
    (hd : ∀ H' D, Same H H' → H D = none → H' D = some (.lst ((sgn ws).map V.str)) → Q (.ref D) H') :
    tLc (iStr (tC (.str (Str.ofString "abcdefghijklmnopqrstuvwxyz")))) (gName i) (tTest (tOp (rIn K false) (tVar i) (tVar f))) (tVar i) [i] σ H Q := by
  refine ⟨Str.ofString "abcdefghijklmnopqrstuvwxyz", rfl, fun D hD => ?_⟩
  have sz : (Str.ofString "abcdefghijklmnopqrstuvwxyz").cps.size = abc.length := by decide +kernel
  have wf : ∀ x : V, (List.set (wipe σ [i]) i (some x))[f]? = some (some (.ref p)) := fun x => by
    show (List.set (List.set σ i none) i (some x))[f]? = _
    rw [List.getElem?_set_ne nf.symm, List.getElem?_set_ne nf.symm]
    exact hf
  have wi : ∀ x : V, (List.set (wipe σ [i]) i (some x))[i]? = some (some x) := fun x => by
    show (List.set (List.set σ i none) i (some x))[i]? = _
    rw [List.getElem?_set_self (by rw [List.length_set]; exact hi)]
  have ww : ∀ x : V, wipe (List.set (wipe σ [i]) i (some x)) [i] = wipe σ [i] := fun x => by
    show List.set (List.set (List.set σ i none) i (some x)) i none = List.set σ i none
    rw [List.set_set, List.set_set]
  refine lc_it (n := abc.length) (fun j H' => Same H H' ∧ H' D = some (.lst ((((abc.take j).filter fun c => decide (ch c ∈ ws)).map ch).map V.str))) ⟨same_new hD, upd_same⟩ (fun j H' hj _ => by show j < (Str.ofString "abcdefghijklmnopqrstuvwxyz").cps.size; omega) (fun H' _ => Nat.le_of_eq sz) (fun j x H' H2 hj h y => ?_) (fun H' h => ?_)
  · obtain ⟨sm, hk⟩ := h
    obtain ⟨rfl, c, hc, rfl⟩ := y
    have hc2 : abc[j]? = some c := by rw [← abc_cps, Array.getElem?_toList]; exact hc
    refine ⟨ww _, _, wi _, _, wf _, p, _, rfl, .inl (.inl (.inl (sm _ _ hp))), rfl, flat_str ws, _, rfl, ?_⟩
    show if (inV (V.str (ch c)) (ws.map V.str)) = true then _ else _
    rw [inV_str]
    by_cases hm : ch c ∈ ws
    · rw [decide_eq_true hm]
      refine iteT ⟨_, wi _, _, hk, ?_, fun b o e => ?_, ?_⟩
      · rw [List.length_map, List.length_map]
        have h1 := List.length_filter_le (fun c => decide (ch c ∈ ws)) (abc.take j)
        rw [List.length_take] at h1
        have : abc.length = 26 := by decide +kernel
        exact Nat.lt_of_lt_of_le (show _ < 1000 by omega) (sl_le (by decide))
      · rw [upd_ne (ne_of_none e hD)]
        exact sm _ _ e
      · rw [upd_same, take_snoc hc2, List.filter_append, List.filter_cons, decide_eq_true hm]
        simp [ch]
    · rw [decide_eq_false hm]
      refine iteF ⟨sm, ?_⟩
      rw [hk, take_snoc hc2, List.filter_append, List.filter_cons, decide_eq_false hm]
      simp
  · refine hd H' D h.1 hD ?_
    have := h.2
    rw [List.take_length] at this
    exact this
end K38
namespace K38
open PySem PySem.Spec PyProof.Rows L2 Z K1 TL K36 K34 K35
theorem mx_snoc {t : Tw} {e j : Nat} {p : List Tw} (h : (parts t)[j]? = some p) : mxP e ((parts t).take (j + 1)) = max (mxP e ((parts t).take j)) (nestP p + e) := by
  rw [take_snoc h, mx_app]
  simp [mxP]
theorem max_int (i j : Nat) : (if ((j : Int) > (i : Int)) then (j : Int) else (i : Int)) = ((max i j : Nat) : Int) := by
  split <;> omega
theorem sum_int : ∀ l : List (List Tw), (l.map fun p => ((cntP p : Nat) : Int)).sum = (((l.map cntP).sum : Nat) : Int)
  | [] => rfl
  | p :: r => by simp only [List.map_cons, List.sum_cons, sum_int r]; omega
theorem words_len (t : Tw) : (wordsH t).length ≤ 2 * (match t with | .act _ => 1 | .ifs q _ _ => q.2.length | .whi q _ => q.2.length) := by
  have l : ∀ l : List Tri, (l.flatMap fun t => [t.2.1, t.2.2]).length = 2 * l.length := fun l => by
    induction l with
    | nil => rfl
    | cons t r ih => simp only [List.flatMap_cons, List.length_append, ih, List.length_cons, List.length_nil]; omega
  cases t with
  | act d => cases d <;> simp [wordsH, wordsD]
  | ifs q a b => simp [wordsH, wordsQ, l]
  | whi q a => simp [wordsH, wordsQ, l]
theorem wS_act {t : Tw} (h : isAct t = true) : wordsS t = wordsH t := by
  unfold wordsS
  rw [allS_act h]
  simp
theorem parts_two (t : Tw) : (parts t).length ≤ 2 := by cases t <;> simp [parts]
end K38

namespace K38
open PySem PySem.Spec PyProof.Rows L2 Z K1 TL K36 K34 K35
theorem due_fit {k : Nat} {ts : List Tw} (ok : OkP 4 ts) (c : cntP ts ≤ 30) : Fit (dueD k ts) 28000 13 := by
  match k with
  | 0 => exact fit_le (fit_str (n := 26) (txL_ok _).small (txL_ok _).len) (by decide) (by decide)
  | 1 =>
    have h := (dg_prog (ts := actsP ts) (sub_ok isAct ok)).fit
    have := act_cnt ts
    exact fit_le h (by omega) (by decide)
  | 2 => exact fit_le (fit_bl _) (by decide) (by decide)
  | 3 => exact fit_le (fit_bl _) (by decide) (by decide)
  | n + 4 => exact fit_le (fit_int (by omega) (by omega)) (by decide) (by decide)
theorem told_fit {k : Nat} {ts : List Tw} (ok : OkP 4 ts) (c : cntP ts ≤ 30) : Fit (toldD k ts) 100000 14 := by
  refine fit_le (fit_list (k := 28000) (m := 13) fun d hd => ?_) (show (28000 + 2) * 3 + 3 ≤ 100000 by decide) (by decide)
  simp only [List.mem_cons, List.not_mem_nil, or_false, or_self] at hd
  rcases hd with rfl | rfl
  · exact fit_le (fit_str (n := 4) (txB_ok (n := 4) (by decide +kernel)).small (by decide +kernel)) (by decide) (by decide)
  · exact due_fit ok c
theorem sg4 {x : V} (h : x ∈ [V.str (Str.ofString "x"), V.str (Str.ofString "xy"), V.str (Str.ofString "abc"), V.str (Str.ofString "vwxyz")]) : ∃ z, x = .str z ∧ 1 ≤ z.length ∧ z.length ≤ 100 ∧ ∀ c ∈ tl z, 97 ≤ c ∧ c ≤ 122 := by
  simp only [List.mem_cons, List.not_mem_nil, or_false] at h
  rcases h with rfl | rfl | rfl | rfl <;> exact ⟨_, rfl, by decide +kernel, by decide +kernel, by decide +kernel⟩
/-- [refused, v, True] -/
abbrev refD (d : PyData) : PyData := .list [.str (s_ "refused"), d, .bool true]
theorem ref_ok {d : PyData} (h : ShOk d) : (refD d).showable = true ∧ (refD d).depth ≤ 62 ∧ (refD d).shown.length ≤ sizeLine := by
  obtain ⟨h1, h2, h3⟩ := h
  refine ⟨?_, ?_, ?_⟩
  · simp only [PyData.showable, PyData.showableAll, h1, Bool.and_true]
  · simp only [PyData.depth, PyData.depthAll]
    omega
  · have l := listText_len_le (PyData.shownAll [.str (s_ "refused"), d, .bool true])
    have e : (PyData.shownAll [.str (s_ "refused"), d, .bool true]) = [PyData.shown (.str (s_ "refused")), d.shown, PyData.shown (.bool true)] := by simp [PyData.shownAll]
    have a1 : (PyData.shown (.str (s_ "refused"))).length ≤ 100 := by decide +kernel
    have a2 : (PyData.shown (.bool true)).length ≤ 100 := by decide +kernel
    rw [e] at l
    simp only [List.map_cons, List.map_nil, List.sum_cons, List.sum_nil, List.length_cons, List.length_nil] at l
    refine sl_le ?_
    simp only [PyData.shown]
    rw [e]
    omega
theorem ref_dx {K : PySem.W.Frag} {H : Hp} {l : Addr} {v : V} {d : PyData} (h : H l = some (.lst [.str (s_ "refused"), v, .bl true])) (s : Sh K H v d) : Dx K H (.ref l) (refD d) := .lst (.inl (.inl h)) (.cons (.str _) (.cons s.dx (.cons (.bl true) .nil)))
/-- what the law asks: the five answers, in a list -/
theorem due_at {K : PySem.W.Frag} {H : Hp} {q : Addr} {ts : List Tw} (hq : PAt K H (.ref q) (actsP ts)) (k : Nat) (hk : k < 5) : ∃ v, atI [V.str (txL (wordsP ts)), .ref q, .bl (!decide (loopsP ts = [])), .bl (plainB ts), .int (cntP ts : Nat)] (k : Int) = some v ∧ Dp K H v (dueD k ts) := by
  match k, hk with
  | 0, _ => exact ⟨_, rfl, .str _⟩
  | 1, _ => exact ⟨_, rfl, hq⟩
  | 2, _ => exact ⟨_, rfl, .bl _⟩
  | 3, _ => exact ⟨_, rfl, .bl _⟩
  | 4, _ => exact ⟨_, rfl, .int _⟩
theorem due_same {K : PySem.W.Frag} {H H' : Hp} {k : Nat} {ts : List Tw} {v : V} (ok : OkP 4 ts) (s : Same H H') (h : Dp K H v (dueD k ts)) : Dp K H' v (dueD k ts) := by
  match k with
  | 0 => obtain rfl := dp_str h; exact .str _
  | 1 => exact PAt.imm (sub_ok isAct ok) (.of s) h
  | 2 => cases h; exact .bl _
  | 3 => cases h; exact .bl _
  | n + 4 => cases h; exact .int _
end K38
/-! Cells and names as dicts. -/
namespace K6
open PySem PySem.Spec L2 Z K1 PyProof.Rows
def putc (cs : List (Int × Int)) (k v : Int) : List (Int × Int) := if k ∈ cs.map (·.1) then cs.map (fun p => if p.1 = k then (p.1, v) else p) else cs ++ [(k, v)]
theorem putK_kC (cs : List (Int × Int)) (k v : Int) : putK (kC cs) (Sum.inl k : Key) (.int v) = kC (putc cs k v) := by
  unfold putK putc
  have e : ((kC cs).any fun kv => decide (kv.1 = (Sum.inl k : Key))) = decide (k ∈ cs.map (·.1)) := by
    unfold kC
    rw [List.any_map, Bool.eq_iff_iff, List.any_eq_true, decide_eq_true_eq, List.mem_map]
    constructor
    · rintro ⟨p, hp, h⟩
      exact ⟨p, hp, by simpa using h⟩
    · rintro ⟨p, hp, h⟩
      exact ⟨p, hp, by simp [h]⟩
  rw [e]
  by_cases h : k ∈ cs.map (·.1)
  · rw [if_pos h, if_pos (decide_eq_true h)]
    unfold kC
    rw [List.map_map, List.map_map]
    refine List.map_congr_left fun p hp => ?_
    show (if (Sum.inl p.1 : Key) = Sum.inl k then ((Sum.inl p.1 : Key), V.int v) else (Sum.inl p.1, V.int p.2)) = _
    by_cases q : p.1 = k
    · rw [if_pos (by rw [q])]
      show _ = ((fun p : Int × Int => ((Sum.inl p.1 : Key), V.int p.2)) (if p.1 = k then (p.1, v) else p))
      rw [if_pos q]
    · rw [if_neg (fun z => q (Sum.inl.inj z))]
      show _ = ((fun p : Int × Int => ((Sum.inl p.1 : Key), V.int p.2)) (if p.1 = k then (p.1, v) else p))
      rw [if_neg q]
  · rw [if_neg h, if_neg (by simpa using h)]
    unfold kC
    rw [List.map_append]
    rfl
theorem putc_keys (cs : List (Int × Int)) (k v : Int) : (putc cs k v).map (·.1) = if k ∈ cs.map (·.1) then cs.map (·.1) else cs.map (·.1) ++ [k] := by
  unfold putc
  by_cases h : k ∈ cs.map (·.1)
  · rw [if_pos h, if_pos h, List.map_map]
    refine List.map_congr_left fun p _ => ?_
    show (if p.1 = k then (p.1, v) else p).1 = p.1
    split <;> rfl
  · rw [if_neg h, if_neg h, List.map_append]
    rfl
theorem putc_nd {cs : List (Int × Int)} (k v : Int) (n : (cs.map (·.1)).Nodup) : ((putc cs k v).map (·.1)).Nodup := by
  rw [putc_keys]
  split
  · exact n
  · rename_i h
    refine List.nodup_append.mpr ⟨n, by simp, fun a ha b hb e => ?_⟩
    cases List.mem_singleton.mp hb
    exact h (e ▸ ha)
theorem putc_len (cs : List (Int × Int)) (k v : Int) : (putc cs k v).length ≤ cs.length + 1 := by
  unfold putc
  split
  · rw [List.length_map]
    omega
  · rw [List.length_append]
    exact Nat.le_refl _
theorem putc_mem {cs : List (Int × Int)} {k v : Int} {p : Int × Int} (h : p ∈ putc cs k v) : p ∈ cs ∨ p = (k, v) := by
  unfold putc at h
  split at h
  · obtain ⟨q, hq, rfl⟩ := List.mem_map.mp h
    by_cases e : q.1 = k
    · rw [if_pos e]
      exact .inr (by rw [e])
    · rw [if_neg e]
      exact .inl hq
  · rcases List.mem_append.mp h with h | h
    · exact .inl h
    · exact .inr (List.mem_singleton.mp h)
theorem kC_len (cs : List (Int × Int)) : (kC cs).length = cs.length := List.length_map ..
theorem kN_len (ns : List (Nat × Int)) : (kN ns).length = ns.length := List.length_map ..
theorem ch_eq {a b : Nat} (h : ch a = ch b) : a = b := by
  have := ch_inj (a := a) (b := b)
  rw [h, beq_self_eq_true] at this
  exact of_decide_eq_true this.symm
theorem putK_kN {ns : List (Nat × Int)} {c : Nat} {v : Int} (h : c ∉ ns.map (·.1)) : putK (kN ns) (Sum.inr (ch c) : Key) (.int v) = kN (ns ++ [(c, v)]) := by
  rw [putK_new _ (valV_none fun z => ?_)]
  · unfold kN
    rw [List.map_append]
    rfl
  · unfold kN at z
    rw [List.map_map] at z
    obtain ⟨p, hp, e⟩ := List.mem_map.mp z
    exact h (List.mem_map.mpr ⟨p, hp, ch_eq (Sum.inr.inj e)⟩)
theorem val_c {cs : List (Int × Int)} {k : Int} (h : k ∈ cs.map (·.1)) : valV (kC cs) (Sum.inl k : Key) = some (.int (val cs k)) := by
  rw [find_c]
  unfold val
  cases e : cs.find? fun p => decide (p.1 = k) with
  | some p => rfl
  | none =>
    obtain ⟨p, hp, rfl⟩ := List.mem_map.mp h
    have := List.find?_eq_none.mp e p hp
    simp at this
theorem val_mem {cs : List (Int × Int)} {k : Int} (h : k ∈ cs.map (·.1)) : (k, val cs k) ∈ cs := by
  unfold val
  cases e : cs.find? fun p => decide (p.1 = k) with
  | some p =>
    have h1 := List.mem_of_find?_eq_some e
    have h2 := List.find?_some e
    have h3 : p.1 = k := by simpa using h2
    rw [← h3]
    exact h1
  | none =>
    obtain ⟨p, hp, rfl⟩ := List.mem_map.mp h
    have := List.find?_eq_none.mp e p hp
    simp at this
theorem ints_of_keys (cs : List (Int × Int)) : (kC cs).map (·.1) = (cs.map (·.1)).map (Sum.inl : Int → Key) := by
  unfold kC
  rw [List.map_map, List.map_map]
  rfl
theorem strs_of_keys (ns : List (Nat × Int)) : (kN ns).map (·.1) = (ns.map fun p => ch p.1).map (Sum.inr : Str → Key) := by
  unfold kN
  rw [List.map_map, List.map_map]
  rfl
/-- sorted keys -/
theorem keys_sorted {cs : List (Int × Int)} (n : (cs.map (·.1)).Nodup) {ys : List Int} (p : ys.Perm (cs.map (·.1))) (a : ys.Pairwise (· ≤ ·)) : ys = (srt cs).map (·.1) :=
  asc_uniq (asc_of a (p.nodup_iff.mpr n)) (srt_asc n) (p.trans ((srt_perm cs).map _).symm)
theorem lets_sorted {ns : List (Nat × Int)} (ok : NOk ns) {ys : List Str} (p : ys.Perm (ns.map fun p => ch p.1)) (s : sortedS ys = true) : ys = ns.map fun p => ch p.1 := by
  have e : (ns.map fun p => ch p.1) = (ns.map (·.1)).map ch := by rw [List.map_map]; rfl
  rw [e] at p ⊢
  have nd : (ns.map (·.1)).Nodup := ok.asc.imp fun h => Nat.ne_of_lt h
  obtain ⟨l, rfl, pl, as⟩ := sorted_ch p s nd
  rw [List.Perm.eq_of_pairwise (le := fun a b : Nat => a < b) (fun a b _ _ h3 h4 => by omega) as ok.asc pl]
end K6
/-! Texts. -/
namespace K6
open PySem PySem.Spec L2 Z K1
theorem joinL_app (S : List Nat) : ∀ (A B : List (List Nat)), A ≠ [] → B ≠ [] → TL.joinL S (A ++ B) = TL.joinL S A ++ S ++ TL.joinL S B
  | [], _, h, _ => absurd rfl h
  | [x], b :: B, _, _ => by
    show x ++ (S ++ TL.joinL S (b :: B)) = x ++ S ++ TL.joinL S (b :: B)
    rw [List.append_assoc]
  | x :: y :: A, B, _, hB => by
    show x ++ (S ++ TL.joinL S ((y :: A) ++ B)) = (x ++ (S ++ TL.joinL S (y :: A))) ++ S ++ TL.joinL S B
    rw [joinL_app S (y :: A) B (List.cons_ne_nil _ _) hB]
    simp only [List.append_assoc]
theorem join_app (y : Str) {A B : List Str} (hA : A ≠ []) (hB : B ≠ []) : Txt.join y (A ++ B) = Txt.join y A ++ y ++ Txt.join y B := by
  refine TL.ext_tl ?_
  rw [tl_glue, List.map_append, joinL_app _ _ _ (by simpa using hA) (by simpa using hB), TL.tl_append, TL.tl_append, tl_glue, tl_glue]
theorem join_one (y x : Str) : Txt.join y [x] = x := TL.ext_tl (by rw [tl_glue]; rfl)
def cellWords (cs : List (Int × Int)) : List Str := if cs = [] then [Str.ofString "none"] else cs.map cellW
theorem cellWords_ne (cs : List (Int × Int)) : cellWords cs ≠ [] := by
  unfold cellWords
  split
  · exact List.cons_ne_nil _ _
  · rename_i h
    simpa using h
theorem join_cells (cs : List (Int × Int)) : Txt.join sp1 (cellWords cs) = cTxt cs := by
  unfold cellWords cTxt
  split
  · exact join_one _ _
  · rfl
theorem join_store {ns : List (Nat × Int)} (ok : NOk ns) (cs : List (Int × Int)) : Txt.join (Str.ofString " ") (ns.map nameW ++ [Str.ofString "|"] ++ cellWords cs) = stTxt ns cs := by
  have n1 : ns.map nameW ≠ [] := fun z => by
    have h1 := congrArg List.length z
    rw [List.length_map] at h1
    have h2 := ok.one
    rw [h1] at h2
    exact absurd h2 (by decide)
  show Txt.join sp1 _ = _
  rw [join_app _ (by simp) (cellWords_ne cs), join_app _ n1 (List.cons_ne_nil _ _), join_one, join_cells]
  refine TL.ext_tl ?_
  unfold stTxt nTxt
  simp only [TL.tl_append]
  rw [sp_tl, show TL.tl (Str.ofString "|") = [124] by decide +kernel, show TL.tl (Str.ofString " | ") = [32, 124, 32] by decide +kernel]
  simp only [List.append_assoc, List.cons_append, List.nil_append]
theorem words_len {ns : List (Nat × Int)} {cs : List (Int × Int)} (ok : NOk ns) (ck : COk cs) (c9 : cs.length ≤ 9) : ((ns.map nameW ++ [Str.ofString "|"] ++ cellWords cs).map fun x => x.length).sum + (ns.map nameW ++ [Str.ofString "|"] ++ cellWords cs).length * (Str.ofString " ").length ≤ 16777216 := by
  have a1 := sum_len (k := 7) (ys := ns.map nameW ++ [Str.ofString "|"] ++ cellWords cs) fun y hy => by
    simp only [List.mem_append, List.mem_singleton] at hy
    rcases hy with (hy | rfl) | hy
    · obtain ⟨p, hp, rfl⟩ := List.mem_map.mp hy
      exact Nat.le_trans (nameW_len (ok.pl p hp).1 (ok.pl p hp).2) (by decide)
    · decide +kernel
    · unfold cellWords at hy
      split at hy
      · rw [List.mem_singleton.mp hy]
        decide +kernel
      · exact cs_le ck y hy
  have l1 : (ns.map nameW ++ [Str.ofString "|"] ++ cellWords cs).length ≤ 15 := by
    have := ok.four
    have l2 : (cellWords cs).length ≤ 9 := by
      unfold cellWords
      split
      · decide
      · rw [List.length_map]
        exact c9
    simp only [List.length_append, List.length_map, List.length_cons, List.length_nil]
    omega
  rw [sp1_len]
  omega
theorem all_true {α : Type} (l : List α) : l.filter (fun _ => true) = l := by simp
def sD (l : List Str) : List PyData := l.map PyData.str
theorem dp_strs {K : PySem.W.Frag} {H : Hp} (l : List Str) : DpAll K H (l.map V.str) (sD l) := by
  induction l with
  | nil => exact .nil
  | cons a l ih => exact .cons (.str _) ih
theorem strOk_small {x : Str} (h : ∀ c ∈ TL.tl x, c < 0x110000) : PyData.strOk x = true := by
  show x.cps.all (· < 0x110000) = true
  rw [Array.all_eq_true_iff_forall_mem]
  intro c hc
  exact decide_eq_true (h c (Array.mem_toList_iff.mpr hc))
theorem shape_strs (l : List Str) (h : ∀ x ∈ l, ∀ c ∈ TL.tl x, c < 0x110000) : SeqAt.shaped (.list (sD l)) = true := by
  have e1 : PyData.canLayAll0 (sD l) = true := by
    unfold sD
    induction l with
    | nil => simp [PyData.canLayAll0]
    | cons a t ih => rw [List.map_cons, PyData.canLayAll0, ih fun x hx => h x (List.mem_cons_of_mem _ hx), PyData.canLay0, strOk_small (h a List.mem_cons_self)]; rfl
  have e2 : PyData.depthAll (sD l) = 0 := by
    clear e1 h
    unfold sD
    induction l with
    | nil => simp [PyData.depthAll]
    | cons a t ih => simp only [List.map_cons, PyData.depthAll, PyData.depth, ih, Nat.max_self]
  unfold SeqAt.shaped
  rw [Bool.and_eq_true, decide_eq_true_eq]
  refine ⟨by simp only [PyData.canLay0, e1], ?_⟩
  simp only [PyData.depth, e2]
  decide
theorem eqv_snil (l : List Str) : PyData.eqv (.list (sD l)) (.list []) = decide (l = []) := by
  cases l with
  | nil => simp [sD, PyData.eqv, PyData.eqvAll]
  | cons a l => simp [sD, PyData.eqv, PyData.eqvAll]
theorem cellW_mem {p : Int × Int} (h1 : 0 ≤ p.1) (h2 : 0 ≤ p.2) {c : Nat} (hc : c ∈ TL.tl (cellW p)) : c < 0x110000 := by
  unfold cellW at hc
  rw [TL.tl_append, TL.tl_append] at hc
  rcases List.mem_append.mp hc with h | h
  · rcases List.mem_append.mp h with h | h
    · have := num_dig h1 c h
      omega
    · rw [show TL.tl (Str.ofString ">") = [62] by decide +kernel] at h
      rw [List.mem_singleton.mp h]
      decide
  · have := num_dig h2 c h
    omega
theorem shape_cells {cs : List (Int × Int)} (ck : COk cs) : SeqAt.shaped (.list (sD (cs.map cellW))) = true := shape_strs _ fun x hx c hc => by
  obtain ⟨p, hp, rfl⟩ := List.mem_map.mp hx
  obtain ⟨p1, p2, p3, p4⟩ := ck.pl p hp
  exact cellW_mem (by omega) p3 hc
end K6
/-! More walks. -/
namespace K6
open PySem PySem.Spec L2 Z K1
theorem dc_it {J : It} {n : Nat} {g : TG} {tt : TT} {tk tv : TE} {vs : List Nat} {σ : L2.St} {H1 : Hp} {D : Addr} {Qd : Hp → Prop} (Pv : Nat → Hp → Prop) (h0 : Pv 0 (upd H1 D (.dK []))) (go : ∀ i H, i < n → Pv i H → J.go i H) (stop : ∀ H, Pv n H → J.stop n H)
    (hs : ∀ i x H H', i < n → Pv i H → J.yld i H x H' → g x (wipe σ vs) H' fun σ2 H2 => wipe σ2 vs = wipe σ vs ∧ tt σ2 H2 fun b H3 =>
      if b = true then tk σ2 H3 fun y H4 => tv σ2 H4 fun z H5 => ∃ kvs k, y = kV k ∧ H5 D = some (.dK kvs) ∧ kvs.length < sizeLine ∧ Pv (i + 1) (upd H5 D (.dK (putK kvs k z))) else Pv (i + 1) H3) (hd : ∀ H, Pv n H → Qd H) :
    ∃ W : Nat → Nat → Hp → Prop, (∃ m, W 0 m (upd H1 D (.dK []))) ∧ ∀ i m H, W i m H →
      (J.stop i H ∧ Qd H) ∨ (J.go i H ∧ ∃ Nx : Hp → Prop, (∀ H', Nx H' → ∃ m', m' < m ∧ W (i + 1) m' H') ∧ ∀ x H', J.yld i H x H' → g x (wipe σ vs) H' fun σ2 H2 => wipe σ2 vs = wipe σ vs ∧ tt σ2 H2 fun b H3 =>
        if b = true then tk σ2 H3 fun y H4 => tv σ2 H4 fun z H5 => ∃ kvs k, y = kV k ∧ H5 D = some (.dK kvs) ∧ kvs.length < sizeLine ∧ Nx (upd H5 D (.dK (putK kvs k z))) else Nx H3) := by
  refine ⟨fun i m H => m = n - i ∧ i ≤ n ∧ Pv i H, ⟨n, by simp, Nat.zero_le _, h0⟩, ?_⟩
  rintro i m H ⟨rfl, hi, p⟩
  by_cases hlt : i < n
  · exact .inr ⟨go i H hlt p, Pv (i + 1), fun H' p' => ⟨n - (i + 1), by omega, rfl, hlt, p'⟩, fun x H' y => hs i x H H' hlt p y⟩
  · have e : i = n := by omega
    subst e
    exact .inl ⟨stop H p, hd H p⟩
theorem dcT {K : PySem.W.Frag} {gs : List Int} {v : Nat} {l : Addr} {g : TG} {tk tv : TE} {vs : List Nat} {σ : L2.St} {H : Hp} {Q : VK} (hv : σ[v]? = some (some (.ref l))) (hl : SqT K H l (gs.map V.int)) (hz : gs.length ≤ 1000)
    (hs : ∀ (i : Int) H' (R : V → V → Hp → Prop), Same H H' → R (.int i) (.bl true) H' → g (.int i) (wipe σ vs) H' fun σ2 H2 => wipe σ2 vs = wipe σ vs ∧ tk σ2 H2 fun y H4 => tv σ2 H4 fun z H5 => R y z H5)
    (hd : ∀ H' D kvs, Same H H' → H D = none → H' D = some (.dK kvs) → (∀ j : Int, (valV kvs (Sum.inl j : Key)).isSome = decide (j ∈ gs)) → Q (.ref D) H') : tDc (iTup K (tVar v)) g tYes tk tv vs σ H Q := by
  refine ⟨_, hv, l, rfl, ⟨_, hl⟩, fun D hD => ?_⟩
  refine dc_it (n := gs.length) (fun i H' => Same H H' ∧ ∃ kvs : List (Key × V), H' D = some (.dK kvs) ∧ kvs.length ≤ i ∧ ∀ j : Int, (valV kvs (Sum.inl j : Key)).isSome = decide (j ∈ gs.take i)) ⟨same_new hD, [], upd_same, Nat.le_refl _, fun j => by simp [valV_nil]⟩
    (fun i H' hi h => ⟨gs.map V.int, (gs.map V.int)[i]'(by simpa using hi), SqT.imm (.of h.1) hl, List.getElem?_eq_getElem _⟩) (fun H' h => ⟨gs.map V.int, SqT.imm (.of h.1) hl, by simp⟩) (fun i x H' H2 hi h y => ?_) (fun H' h => ?_)
  · obtain ⟨s2, kvs, hk, kl, hv⟩ := h
    obtain ⟨rfl, y⟩ := y
    obtain ⟨z, e4, rfl⟩ := map_at (y _ (SqT.imm (.of s2) hl))
    refine hs z H2 (fun y z2 H5 => ∃ kvs k, y = kV k ∧ H5 D = some (.dK kvs) ∧ kvs.length < sizeLine ∧ (Same H (upd H5 D (.dK (putK kvs k z2))) ∧ ∃ kvs' : List (Key × V), upd H5 D (.dK (putK kvs k z2)) D = some (.dK kvs') ∧ kvs'.length ≤ i + 1 ∧ ∀ j : Int, (valV kvs' (Sum.inl j : Key)).isSome = decide (j ∈ gs.take (i + 1)))) s2
      ⟨kvs, Sum.inl z, rfl, hk, ?_, fun c o e => ?_, _, upd_same, ?_, fun j => ?_⟩
    · exact small1000 (by omega)
    · rw [upd_ne (ne_of_none e hD)]
      exact s2 _ _ e
    · exact Nat.le_trans (length_putK _ _ _) (by omega)
    · rw [valV_put, List.take_add_one, e4]
      by_cases ej : j = z
      · subst ej
        rw [if_pos rfl]
        simp
      · rw [if_neg (fun q => ej (Sum.inl.inj q)), hv]
        simp [ej]
  · obtain ⟨s2, kvs, hk, _, hv⟩ := h
    rw [List.take_length] at hv
    exact hd H' D kvs s2 hD hk hv

theorem for_enumI {K : PySem.W.Frag} {xs : List V} {a : Addr} {g : TG} {tb : TS} {D : Ends} {σ : L2.St} {H H0 : Hp} (Pv : Nat → L2.St → Hp → Prop) (h0 : Pv 0 σ H) (hT : SqT K H0 a xs) (hI : ∀ i σ H, Pv i σ H → Same H0 H)
    (hs : ∀ i x σ H t, xs[i]? = some x → Pv i σ H → H t = none → g (.ref t) σ (upd H t (.tup [.int (i : Nat), x])) fun σ2 H2 => tb { D with nx := Pv (i + 1), ct := Pv (i + 1), bk := D.nx } σ2 H2) (hd : ∀ σ H, Pv xs.length σ H → D.nx σ H) :
    ∃ W : Nat → Nat → L2.St → Hp → Prop, (∃ m, W 0 m σ H) ∧ ∀ i m σ H, W i m σ H →
      ((IteT K a).stop i H ∧ D.nx σ H) ∨ ((IteT K a).go i H ∧ ∃ N : L2.St → Hp → Prop, (∀ σ' H', N σ' H' → ∃ m', m' < m ∧ W (i + 1) m' σ' H') ∧ ∀ x H', (IteT K a).yld i H x H' → g x σ H' fun σ2 H2 => tb { D with nx := N, ct := N, bk := D.nx } σ2 H2) := by
  refine K1.for_it (n := xs.length) Pv h0 (fun i σ H hi p => ⟨xs, xs[i], SqT.imm (.of (hI _ _ _ p)) hT, List.getElem?_eq_getElem _⟩) (fun σ H p => ⟨xs, SqT.imm (.of (hI _ _ _ p)) hT, rfl⟩) (fun i v σ H H' hi p y => ?_) hd
  obtain ⟨t, x, rfl, hn, rfl, y⟩ := y
  exact hs i x σ H t (y _ (SqT.imm (.of (hI _ _ _ p)) hT)) p hn
/-- some of a tuple's pairs -/
theorem lcPf {α : Type} {K : PySem.W.Frag} {te0 : TE} {g : TG} {tt : TT} {te : TE} {vs : List Nat} {σ : L2.St} {H : Hp} {Q : VK} {a : Addr} {rs : List Addr} (ls : List α) (emb : α → V × V) (c : α → Bool) (hz : ls.length ≤ 10000)
    (hT : PT H a (rs.map V.ref)) (hp : Paired (fun b (p : V × V) => SqT K H b [p.1, p.2]) rs (ls.map emb)) (hte : ∀ R : VK, R (.ref a) H → te0 σ H R)
    (hs : ∀ b p H' (R : V → Hp → Prop) (R1 : Hp → Prop), p ∈ ls → Same H H' → SqT K H' b [(emb p).1, (emb p).2] → (c p = true → R (.ref b) H') → (c p = false → R1 H') →
      g (.ref b) (wipe σ vs) H' fun σ2 H2 => wipe σ2 vs = wipe σ vs ∧ tt σ2 H2 fun b H3 => if b = true then te σ2 H3 R else R1 H3)
    (hd : ∀ H' D rs', Same H H' → H D = none → H' D = some (.lst (rs'.map V.ref)) → Paired (fun b (p : V × V) => SqT K H' b [p.1, p.2]) rs' ((ls.filter c).map emb) → Q (.ref D) H') : tLc (iTup K te0) g tt te vs σ H Q := by
  refine hte _ ⟨a, rfl, ⟨_, hT.sq⟩, fun D hD => ?_⟩
  have hl : rs.length = ls.length := by rw [Paired.len hp, List.length_map]
  refine lc_it (n := ls.length) (fun i H' => Same H H' ∧ ∃ rs', H' D = some (.lst (rs'.map V.ref)) ∧ Paired (fun b (p : V × V) => SqT K H' b [p.1, p.2]) rs' (((ls.take i).filter c).map emb)) ⟨same_new hD, [], upd_same, .nil⟩
    (fun i H' hi h => ⟨rs.map V.ref, (rs.map V.ref)[i]'(by rw [List.length_map, hl]; exact hi), (PT.same h.1 hT).sq, List.getElem?_eq_getElem _⟩) (fun H' h => ⟨rs.map V.ref, (PT.same h.1 hT).sq, by rw [List.length_map, hl]; exact Nat.le_refl _⟩) (fun i v H' H2 hi h y => ?_) (fun H' h => ?_)
  · obtain ⟨sm, rs', hk, hp'⟩ := h
    obtain ⟨rfl, y⟩ := y
    obtain ⟨b, q, rfl, eb, eq, hq⟩ := pairs_at (Paired.imm (.of sm) hp) (y _ (PT.same sm hT).sq)
    obtain ⟨p, ep, rfl⟩ := map_at eq
    refine hs b p H2 (fun y H4 => ∃ acc, H4 D = some (.lst acc) ∧ acc.length < sizeLine ∧ (Same H (upd H4 D (.lst (acc ++ [y]))) ∧ ∃ rs', upd H4 D (.lst (acc ++ [y])) D = some (.lst (rs'.map V.ref)) ∧ Paired (fun b (p : V × V) => SqT K (upd H4 D (.lst (acc ++ [y]))) b [p.1, p.2]) rs' (((ls.take (i + 1)).filter c).map emb)))
      (fun H4 => Same H H4 ∧ ∃ rs', H4 D = some (.lst (rs'.map V.ref)) ∧ Paired (fun b (p : V × V) => SqT K H4 b [p.1, p.2]) rs' (((ls.take (i + 1)).filter c).map emb)) (List.mem_of_getElem? ep) sm hq (fun hc => ⟨_, hk, ?_, ?_⟩) (fun hc => ⟨sm, rs', hk, ?_⟩)
    · rw [List.length_map, Paired.len hp', List.length_map]
      have := List.length_filter_le c (ls.take i)
      rw [List.length_take] at this
      exact Nat.lt_of_lt_of_le (show _ < 20000 by omega) (sl_le (by decide))
    · have im : Imm H2 (upd H2 D (.lst (rs'.map V.ref ++ [V.ref b]))) := Chg.imm Chg.upd hk trivial
      refine ⟨fun a o e => ?_, rs' ++ [b], by rw [upd_same, List.map_append]; rfl, ?_⟩
      · rw [upd_ne (ne_of_none e hD)]
        exact sm _ _ e
      · rw [List.take_add_one, ep, List.filter_append, List.map_append]
        show Paired _ _ (_ ++ (List.filter c [p]).map emb)
        rw [List.filter_cons_of_pos hc]
        exact Paired.snoc (F := fun b (p : V × V) => SqT K _ b [p.1, p.2]) (x := b) (y := emb p) (SqT.imm im hq) (Paired.imm im hp')
    · rw [List.take_add_one, ep, List.filter_append]
      show Paired _ _ ((_ ++ List.filter c [p]).map emb)
      rw [List.filter_cons_of_neg (by simp [hc])]
      simpa using hp'
  · obtain ⟨sm, rs', hk, hp'⟩ := h
    rw [List.take_length] at hp'
    exact hd H' D rs' sm hD hk hp'
end K6
/-! Parts, and laying them together. -/
namespace K6
open PySem PySem.Spec L2 Z K1
theorem eqBB (a b : Bool) : decide (V.bl a = V.bl b) = decide (a = b) := by cases a <;> cases b <;> rfl
theorem pick_ok {ks : List Int} {b : Bool} {cs : List (Int × Int)} (ck : COk cs) : COk (pick ks b cs) :=
  ⟨Nat.le_trans (List.length_filter_le _ _) ck.few, fun p hp => ck.pl p (List.mem_filter.mp hp).1, ck.asc.sublist (List.filter_sublist.map _)⟩
theorem catP {K : PySem.W.Frag} {H : Hp} {a b : Addr} {xs ys : List V} {Q : VK} (ha : SqT K H a xs) (hb : SqT K H b ys) (hz : xs.length + ys.length ≤ sizeLine) (k : ∀ t H', Same H H' → SqT K H' t (xs ++ ys) → Q (.ref t) H') : rCatP K (.ref a) (.ref b) H Q := by
  refine ⟨a, b, xs, ys, rfl, rfl, ha, hb, hz, fun e => ?_, fun _ e => ?_, fun _ _ p o hp ho => ?_⟩
  · exact k b H (fun _ _ h => h) (by rw [e]; exact hb)
  · exact k a H (fun _ _ h => h) (by rw [e, List.append_nil]; exact ha)
  · exact k p _ (same_new hp) (PT.sq (PT.new ho))
theorem paired_zip {K : PySem.W.Frag} {H : Hp} : ∀ {rs : List Addr} {ps : List (Int × Int)}, Paired (fun b (p : V × V) => SqT K H b [p.1, p.2]) rs (ps.map cV) → (rs.zip ps).map (·.1) = rs ∧ (rs.zip ps).map (·.2) = ps ∧ ∀ z ∈ rs.zip ps, SqT K H z.1 [.int z.2.1, .int z.2.2]
  | [], [], _ => ⟨rfl, rfl, fun _ h => nomatch h⟩
  | r :: rs, p :: ps, .cons h t => by
    obtain ⟨h1, h2, h3⟩ := paired_zip t
    refine ⟨by rw [List.zip_cons_cons, List.map_cons, h1], by rw [List.zip_cons_cons, List.map_cons, h2], fun z hz => ?_⟩
    rcases List.mem_cons.mp hz with rfl | hz
    · exact h
    · exact h3 z hz
theorem zip_paired {K : PySem.W.Frag} {H : Hp} : ∀ {L : List (Addr × (Int × Int))}, (∀ z ∈ L, SqT K H z.1 [.int z.2.1, .int z.2.2]) → Paired (fun b (p : V × V) => SqT K H b [p.1, p.2]) (L.map (·.1)) ((L.map (·.2)).map cV)
  | [], _ => .nil
  | z :: L, h => .cons (h z (.head _)) (zip_paired fun y hy => h y (.tail _ hy))
theorem lex_keys {L : List (Addr × (Int × Int))} (h : L.Pairwise (fun z w => SrtO.lexB w.2 z.2 = false)) : ((L.map (·.2)).map (·.1)).Pairwise (· ≤ ·) := by
  rw [List.map_map, List.pairwise_map]
  refine h.imp fun {z w} e => ?_
  have := SrtO.lexB_no.mp e
  show z.2.1 ≤ w.2.1
  omega
theorem nd_app {as bs : List (Int × Int)} (h1 : (as.map (·.1)).Pairwise (· < ·)) (h2 : (bs.map (·.1)).Pairwise (· < ·)) (h : ∀ p ∈ as, p.1 ∉ bs.map (·.1)) : ((as ++ bs).map (·.1)).Nodup := by
  rw [List.map_append]
  refine List.nodup_append.mpr ⟨h1.imp fun e => by omega, h2.imp fun e => by omega, fun a ha b hb e => ?_⟩
  obtain ⟨p, hp, rfl⟩ := List.mem_map.mp ha
  exact h p hp (e ▸ hb)
theorem sorted_app {as bs : List (Int × Int)} {L' : List (Addr × (Int × Int))} {L : List (Addr × (Int × Int))} (n : ((as ++ bs).map (·.1)).Nodup) (p : L'.Perm L) (e : L.map (·.2) = as ++ bs) (s : L'.Pairwise (fun z w => SrtO.lexB w.2 z.2 = false)) : L'.map (·.2) = srt (as ++ bs) := by
  have pm : (L'.map (·.2)).Perm (as ++ bs) := e ▸ p.map _
  exact pair_uniq (asc_of (lex_keys s) ((pm.map _).nodup_iff.mpr n)) (srt_asc n) (pm.trans (srt_perm _).symm)
theorem srt_app_ok {as bs : List (Int × Int)} (ca : COk as) (cb : COk bs) (l : as.length + bs.length ≤ 400) (n : ((as ++ bs).map (·.1)).Nodup) : COk (srt (as ++ bs)) := by
  refine ⟨?_, fun p hp => ?_, srt_asc n⟩
  · rw [(srt_perm _).length_eq, List.length_append]
    exact l
  · rcases List.mem_append.mp ((srt_perm _).mem_iff.mp hp) with h | h
    · exact ca.pl p h
    · exact cb.pl p h
theorem isC_not {bs : List (Int × Int)} {i : Int} (h : i ∉ bs.map (·.1)) : isC bs i = false := by
  unfold isC
  rw [List.any_eq_false]
  intro p hp
  have : p.1 ≠ i := fun e => h (e ▸ List.mem_map_of_mem hp)
  simpa using this
end K6
/-! What is shown. -/
namespace K6
open PySem PySem.Spec L2 Z K1
theorem showsD {K : PySem.W.Frag} {H : Hp} {v : V} {d : PyData} {Q : VK} (hd : Dp K H v d) {n m : Nat} (F : Fit d n m) (hn : n ≤ 1000000) (hm : m ≤ 50) (k : Q (.str d.shown) H) : rShow K [v] H Q :=
  ⟨v, d, rfl, .of hd F.nod, F.ok, Nat.le_trans F.dep (by omega), sl_le (Nat.le_trans F.len hn), k⟩
theorem isC_srt (cs : List (Int × Int)) (i : Int) : isC (srt cs) i = isC cs i := by
  unfold isC
  rw [Bool.eq_iff_iff, List.any_eq_true, List.any_eq_true]
  exact ⟨fun ⟨p, h, e⟩ => ⟨p, (srt_perm cs).mem_iff.mp h, e⟩, fun ⟨p, h, e⟩ => ⟨p, (srt_perm cs).mem_iff.mpr h, e⟩⟩
theorem gone_eq (ns : List (Nat × Int)) (cs : List (Int × Int)) (i : Int) : goneB ns (srt cs) i = (decide (i ∈ ns.map (·.2) ++ cs.map (·.2)) && (!decide (i = 0) && !isC cs i)) := by
  unfold goneB
  rw [isC_srt]
  have e : decide (i ∈ goals ns (srt cs)) = decide (i ∈ ns.map (·.2) ++ cs.map (·.2)) := by
    unfold goals
    rw [decide_eq_decide, List.mem_append, List.mem_append, ((srt_perm cs).map _).mem_iff]
  rw [e]
  cases decide (i = 0) <;> cases isC cs i <;> cases decide (i ∈ ns.map (·.2) ++ cs.map (·.2)) <;> rfl
theorem rd_frz {H : Hp} {d : Addr} {od : Obj} {kvs : List (Key × V)} {k : Key} {v : V} (h : H d = some (.frz od (.dK kvs))) (e : valV kvs k = some v) : DGet H d (kV k) (some v) := .inl ⟨kvs, k, .inr ⟨od, h⟩, rfl, e.symm⟩
theorem val_cs {cs : List (Int × Int)} (n : (cs.map (·.1)).Nodup) {p : Int × Int} (h : p ∈ cs) : valV (kC cs) (Sum.inl p.1 : Key) = some (.int p.2) := by
  have := val_c (List.mem_map_of_mem (f := (·.1)) h)
  rw [val_of n h] at this
  exact this
end K6
/-! The law's end, the part of the heap at the modules' table known to be a namespace (repr of dicts within lists asks that no list stands there). -/
namespace Z
open PySem PySem.Spec PyProof.Rows L2 LamX
theorem law_callGS {P : Program} {w : World} {K : PySem.W.Frag} {mg mb : Str → Option Value} {k : Nat} {fa a : Addr} {cs : List (Addr × Addr)} {fd : FuncData} {x : Str} {sp : Sp} {s₁ : Shared} {vs : List Value} {ns : List Int}
    (KX : K.In s₁.heap) (hns : s₁.heap.Ns mainGlobals mg) (hsys : ∃ mm, s₁.heap.Ns sysModules mm) (hb : s₁.heap.Ns builtinsNs mb) (hbb : ∀ x : Str, x ≠ "__name__" → mb x = bootBuiltins x) (hlim : s₁.heap.NoLimit) (hg : s₁.gens = #[])
    (hT : ∀ p ∈ cs, s₁.heap.get? p.2 = some noTab) (nT : ∀ p ∈ cs, K.lookup p.2 = none)
    (hC : ∀ p ∈ cs, PySem.W.CodeHd s₁.heap p.1 p.2)
    (hbm : ∃ (bm : Addr) (ob : Obj), mg "__builtins__" = some (.ref bm) ∧ bm ≠ builtinsNs ∧
      s₁.heap.get? bm = some ob ∧ ob.cls = .type "module" ∧ ob.dict = some builtinsNs ∧ ob.data = .plain)
    (ha : s₁.heap.get? a = some (lstO vs)) (hi : IntsAre vs ns) (hl : ns.length ≤ sizeLine) (hr : Room k callerA)
    (F : ∀ base : Heap, K.In base → base.Ns mainGlobals mg → (∃ mm, base.Ns sysModules mm) → (∀ p ∈ cs, TabB base mg p.1 p.2) → FnG P w K mg base k fa fd [x] sp)
    (hbind : ∀ (s : Shared) (u : Value), BindsTo s fd ⟨[u], []⟩ [(x, u)])
    (hsp : ∀ H : Hp, (∀ p ∈ cs, H p.2 = some (.tbl #[])) → SqL K H a (ns.map V.int) → sp [.ref a] H (fun v _ => v = .bl true) fun _ _ _ => False) :
    codeAny (model P w) callerA (.call (.ref fa) ⟨[.ref a], []⟩)
      (fun r s' => r = .ok (.ret (.bool true)) ∧ OldK s₁.heap s'.heap ∧ s'.os = s₁.os ∧ AllBare s'.gens) s₁ := by
  have rv := vals_ints hi
  have lenV := hi.length
  obtain ⟨ts, hts⟩ : ∃ ts, ts = cs.map (·.2) := ⟨_, rfl⟩
  have tab : ∀ b ∈ ts, ∃ p ∈ cs, p.2 = b := fun b m => by
    rw [hts] at m
    obtain ⟨p, hp, e⟩ := List.mem_map.mp m
    exact ⟨p, hp, e⟩
  have tabO : ∀ b ∈ ts, s₁.heap.get? b = some noTab := fun b m => by
    obtain ⟨p, hp, rfl⟩ := tab b m
    exact hT p hp
  have inT : ∀ p ∈ cs, p.2 ∈ ts := fun p hp => by
    rw [hts]
    exact List.mem_map_of_mem hp
  have aT : a ∉ ts := fun z => by
    have q := tabO a z
    rw [ha] at q
    exact nomatch (show Data.seq vs.toArray _ = Data.fields #[] from congrArg Obj.data (Option.some.inj q))
  suffices core : ∀ H : Hp, (∀ p ∈ cs, H p.2 = some (.tbl #[])) → OnlyT ts H → SqL K H a (ns.map V.int) → HOk P w H s₁.heap →
      (∀ b, H b ≠ none → b = a ∨ b ∈ ts) → (H a ≠ none → K.lookup a = none) →
      codeAny (model P w) callerA (.call (.ref fa) ⟨[.ref a], []⟩)
        (fun r s' => r = .ok (.ret (.bool true)) ∧ OldK s₁.heap s'.heap ∧ s'.os = s₁.os ∧ AllBare s'.gens) s₁ by
    have tbls : Hp := fun b => if b ∈ ts then some (.tbl #[]) else none
    cases hk : K.lookup a with
    | some o =>
      have e := KX a o hk
      rw [ha] at e
      cases e
      refine core (fun b => if b ∈ ts then some (.tbl #[]) else none) (fun p hp => if_pos (inT p hp)) (fun b => ?_) (.inr ⟨_, vs.toArray, _, hk, rfl, rfl, rfl, ?_, by simpa using rv⟩) (fun b u z => ?_) (fun b z => ?_) (fun z => absurd (if_neg aT) z)
      · by_cases m : b ∈ ts
        · exact .inr (.inl m)
        · exact .inl (if_neg m)
      · rw [List.size_toArray, lenV]
        exact hl
      · by_cases m : b ∈ ts
        · cases (if_pos m).symm.trans z
          exact tabO b m
        · cases (if_neg m).symm.trans z
      · by_cases m : b ∈ ts
        · exact .inr m
        · exact absurd (if_neg m) z
    | none =>
      let sc : HO := .frz (lstO vs) (.lst (ns.map V.int))
      refine core (fun b => if b = a then some sc else if b ∈ ts then some (.tbl #[]) else none) (fun p hp => ?_) (fun b => ?_) (.inl (.inr ⟨lstO vs, if_pos rfl⟩)) (fun b u z => ?_) (fun b z => ?_) fun _ => hk
      · exact (if_neg (show ¬ p.2 = a from fun z => aT (z ▸ inT p hp))).trans (if_pos (inT p hp))
      · by_cases e : b = a
        · exact .inr (.inr ⟨_, _, if_pos e⟩)
        · by_cases m : b ∈ ts
          · exact .inr (.inl m)
          · exact .inl ((if_neg e).trans (if_neg m))
      · by_cases e : b = a
        · subst e
          cases (show some sc = some u from (if_pos rfl).symm.trans z)
          exact ⟨ha, by rw [List.length_map]; exact hl, vs, _, rv, ha⟩
        · have z1 := (if_neg e).symm.trans z
          by_cases m : b ∈ ts
          · cases (if_pos m).symm.trans z1
            exact tabO b m
          · cases (if_neg m).symm.trans z1
      · by_cases e : b = a
        · exact .inl e
        · by_cases m : b ∈ ts
          · exact .inr m
          · exact absurd ((if_neg e).trans (if_neg m)) z
  intro H hH hO hS hok hA hK
  have free : ∀ {b : Addr} {o : Obj}, s₁.heap.get? b = some o → (∀ xs n, o.data ≠ .seq xs n) → o.data ≠ .fields #[] → H b = none := fun {b o} e h1 h2 => by
    by_cases z : H b = none
    · exact z
    · rcases hA b z with rfl | m
      · rw [ha] at e
        cases e
        exact (h1 _ _ rfl).elim
      · rw [tabO b m] at e
        cases e
        exact (h2 rfl).elim
  have freeD : ∀ {b : Addr} {o : Obj} {es : Array DictEntry} {ep : Nat}, s₁.heap.get? b = some o → o.data = .dict es ep → H b = none := fun e d =>
    free e (fun xs n z => by rw [d] at z; cases z) (fun z => by rw [d] at z; cases z)
  have nsK : ∀ {b : Addr} {m : Str → Option Value}, s₁.heap.Ns b m → (hidT s₁.heap H).Ns b m := fun n => by
    obtain ⟨o, es, ep, e, d, r⟩ := n
    exact ⟨o, es, ep, hidT_get e (freeD e d), d, r⟩
  have hKb : K.In (hidT s₁.heap H) := fun b o e => hidT_get (KX b o e) (by
    by_cases z : H b = none
    · exact z
    · rcases hA b z with rfl | m
      · rw [hK z] at e
        cases e
      · obtain ⟨p, hp, rfl⟩ := tab b m
        rw [nT p hp] at e
        cases e)
  have hM : Mod K mg (hidT s₁.heap H) := ⟨hKb, nsK hns, ⟨mb, nsK hb, hbb⟩, let ⟨mc, h1, h2⟩ := hlim; ⟨mc, nsK h1, h2⟩⟩
  have TB : ∀ p ∈ cs, TabB (hidT s₁.heap H) mg p.1 p.2 := fun p hp => by
    have isT := hT p hp
    refine ⟨?_, ?_, fun z => ?_⟩
    · obtain ⟨o, us, file, tf, flags, tg, inF, text, tt, e1, r1, r2, r3, rest⟩ := hC p hp
      refine ⟨o, us, file, tf, flags, tg, inF, text, tt, hidT_get e1 (free e1 (fun xs n z => ?_) fun z => ?_), r1, r2, r3, rest⟩
      · rw [r2] at z
        cases z
      · rw [r2] at z
        cases z
        simp at r3
    · obtain ⟨bm, ob, b1, b2, b3, b4, b5, b6⟩ := hbm
      refine ⟨bm, ob, b1, b2, fun q => ?_, fun q => ?_, hidT_get b3 (free b3 (fun xs n z => by rw [b6] at z; cases z) (fun z => by rw [b6] at z; cases z)), b4, b5, b6⟩
      · obtain ⟨o, es, ep, e, hd, _⟩ := hns
        rw [q, e] at b3
        cases b3
        rw [hd] at b6
        cases b6
      · rw [q, isT] at b3
        cases b3
        cases b6
    · obtain ⟨o, es, ep, e, hd, _⟩ := hns
      rw [z, isT] at e
      cases e
      cases hd
  have nil0 : ∀ b : Addr, b ∉ ([] : List Addr) := fun b => by simp
  have e0 : Env0 P w K mg (hidT s₁.heap H) callerA [] s₁ H := ⟨rfl, hM, fun b o e => of_hidT e, Nat.le_of_eq (hidT_size _ _), trivial, fun b hb => absurd hb (nil0 b), hok, .of_eq hg⟩
  refine codeAny_mono ((F _ hKb (nsK hns) (let ⟨mm, z⟩ := hsys; ⟨mm, nsK z⟩) TB).run callerA [] s₁ H ⟨[.ref a], []⟩ [.ref a] [.ref a] _ _ hr rfl e0 (hbind s₁ (.ref a)) (.cons rfl .nil) (hsp H hH hS)) fun r s' h => ?_
  match r, h with
  | .error e, h => exact False.elim h
  | .ok .next, h => exact False.elim h
  | .ok .brk, h => exact False.elim h
  | .ok .cont, h => exact False.elim h
  | .ok (.ret u), h =>
    obtain ⟨v, H', os, bare, un, hok', r', q⟩ := h
    cases (show v = .bl true from q)
    cases (show u = Value.bool true from r')
    have keep : ∀ b o, b ∉ ts → s₁.heap.get? b = some o → s'.heap.get? b = some o := fun b o m e => by
      by_cases z : H b = none
      · exact un.keep b o e z (nil0 b) (by simp)
      · rcases hO b with y | y | ⟨ob, xs, y⟩
        · exact absurd y z
        · exact absurd y m
        · obtain ⟨e1, _⟩ := hok b _ y
          obtain ⟨e2, _⟩ := hok' b _ (un.frzs b ob _ y)
          rw [e] at e1
          cases e1
          exact e2
    have grown : ∀ p ∈ cs, ∃ more : Array Value, s'.heap.get? p.2 = some { cls := .none, data := .fields more } := fun p hp => by
      obtain ⟨more, z⟩ := un.tbls p.2 #[] (hH p hp)
      exact ⟨_, hok' p.2 _ z⟩
    refine ⟨rfl, ⟨fun b o e => ?_, fun b o e => ?_⟩, os, bare⟩
    · by_cases m : b ∈ ts
      · obtain ⟨p, hp, rfl⟩ := tab b m
        obtain ⟨more, hm⟩ := grown p hp
        rw [hT p hp] at e
        cases e
        refine .inr (.inl ⟨((hC p hp).tab (hT p hp)).isCodeTable, rfl, #[], more, rfl, ?_⟩)
        rw [Array.empty_append]
        exact hm
      · exact .inl (keep b o m e)
    · by_cases m : b ∈ ts
      · obtain ⟨p, hp, rfl⟩ := tab b m
        obtain ⟨more, hm⟩ := grown p hp
        exact ⟨_, hm⟩
      · exact ⟨o, keep b o m e⟩
/-- what is known of the law's promise at the head's heap -/
def LawAtS2 (l : PySem.W.OpenLaw) (w : World) (K : PySem.W.Frag) (k n : Nat) (x : Str) (mg : Str → Option Value) (fa : Addr) (h : Heap) : Prop :=
  ∃ (fd : FuncData) (cs : List (Addr × Addr)) (sp : Sp), (∀ p ∈ cs, h.get? p.2 = some noTab) ∧
    (∀ p ∈ cs, K.lookup p.2 = none) ∧ (∀ p ∈ cs, PySem.W.CodeHd h p.1 p.2) ∧
    (∀ (s : Shared) (u : Value), BindsTo s fd ⟨[u], []⟩ [(x, u)]) ∧
    (∀ (H : Hp) (a : Addr) (ns : List Int), ns.length ≤ n → (∀ p ∈ cs, H p.2 = some (.tbl #[])) → SqL K H a (ns.map V.int) → sp [.ref a] H (fun v _ => v = .bl true) fun _ _ _ => False) ∧
    ∀ base : Heap, K.In base → base.Ns mainGlobals mg → (∃ mm, base.Ns sysModules mm) → (∀ p ∈ cs, TabB base mg p.1 p.2) → FnG l.prog w K mg base k fa fd [x] sp
theorem walkGS {l : PySem.W.OpenLaw} {n k : Nat} {q : Program} {loose : List Str} {XP : (Str → Option Value) → Heap → Prop} {YP : World → Heap → Prop} {d : DefRec} {K : Params → PySem.W.Frag} {x : Str}
    (hn : l.most = some n) (hn2 : n ≤ sizeLine) (hdf : d.params.defaults = []) (hr : Room k callerA)
    (hY : ∀ (w : World) (h : Heap), YP w h → (K w.params).In h) (nms : List Str) (himp : importsNone q = true) (hrec : (nms.all fun nm => (recsOf q).any fun e => e.name == nm) = true)
    (F : ∀ (w : World) (mg : Str → Option Value) (fa : Addr) (h : Heap), (K w.params).In h → h.Ns mainGlobals mg → mg d.name = some (.ref fa) → (∀ nm ∈ nms, TabOf mg h nm) → LawAtS2 l w (K w.params) k n x mg fa h) :
    PySem.W.WalkO q loose XP YP l.row.toRowW d [] (fun f vs => PySem.call f vs) := by
  refine Att.attach_call hn hdf fun w s₀ s₁ mg mb fa o pm cd doc a vs ns G Y ho hd hcd hmg hobj hints hlen hg => ?_
  have KX := hY w _ Y
  have tabs : ∀ nm ∈ nms, TabOf mg s₁.heap nm := fun nm hm => by
    obtain ⟨dL, h1, h2⟩ := List.any_eq_true.mp (List.all_eq_true.mp hrec nm hm)
    have e := G.T.tab dL h1
    rw [beq_iff_eq.mp h2] at e
    exact e
  obtain ⟨fd, cs, sp, hT, nT, hC, hb, hsp, hF⟩ := F w mg fa _ KX G.T.g hmg tabs
  exact law_callGS KX G.T.g (let ⟨mm, z, _⟩ := (G.T.seer himp).mods; ⟨mm, z⟩) G.T.b G.T.builtins G.T.nolimit hg hT nT hC G.T.bmain hobj hints (Nat.le_trans hlen hn2) hr hF hb fun H hH hS => hsp H a ns hlen hH hS
end Z
/-! A dict against the empty dict. -/
namespace Z
open PySem PySem.Spec PyProof.Rows L2
section
variable {X : Cx}
def rNeDE : R2 := fun x y H Q => ∃ a b ks, x = .ref a ∧ y = .ref b ∧ H a = some (.dK ks) ∧ H b = some (.dK []) ∧ Q (.bl (!decide (ks.length = 0))) H
theorem op_ne_dictE (hu : X.A.units < cLine) : OpR X (compareOp .NotEq) rNeDE := by
  intro pins s σ H x y v u Q I rx ry h
  obtain ⟨a, b, ks, rfl, rfl, ea, eb, q⟩ := h
  obtain rfl : v = Value.ref a := rx
  obtain rfl : u = Value.ref b := ry
  obtain ⟨_, ya, va, ra, da⟩ := (show ObjOk X.prog X.w H s.heap a (.dK ks) from I.hok a _ ea)
  obtain ⟨_, yb, vb, rb, db⟩ := (show ObjOk X.prog X.w H s.heap b (.dK []) from I.hok b _ eb)
  have la : va.length = ks.length := by rw [← ra.length]
  have lb : vb.length = 0 := by rw [← rb.length]; rfl
  cases ks with
  | nil =>
    have hl : va.length = vb.length := by rw [la, lb]; rfl
    exact PySem.W.keq_ne (knd := mixKind X.prog X.w) (r := true) ya yb da db hu (fun _ => hits_all rb ra (fun p hp => nomatch hp)) (fin_bl I q (by simp [hl]))
  | cons k r =>
    have hl : va.length ≠ vb.length := by rw [la, lb]; exact Nat.succ_ne_zero _
    exact PySem.W.keq_ne (knd := mixKind X.prog X.w) (r := true) ya yb da db hu (fun e => absurd e hl) (fin_bl I q (by simp [hl]))
end
end Z
/-! Tests on stores: promises. -/
namespace K40
open PySem PySem.Spec PyProof.Rows L2 Z K1 TL K36 K34 K35 K38 K6
/-- the first sign that is not among the names' -/
def firstNo (cs : List Nat) (ns : List (Nat × Int)) : Option Nat := cs.find? fun c => !decide (c ∈ ns.map (·.1))
def valN (ns : List (Nat × Int)) (w : Str) : Int := match ns.find? fun p => decide (ch p.1 = w) with
  | some p => p.2
  | none => 0
def Known (ns : List (Nat × Int)) (w : Str) : Prop := w = s_ "END" ∨ ∃ p ∈ ns, w = ch p.1
def oneB (ns : List (Nat × Int)) (t : Tri) : Bool := decide (t.1 = s_ "=") == decide (valN ns t.2.1 = valN ns t.2.2)
def holdsB (ns : List (Nat × Int)) (q : Quiz) : Bool := if q.1 = s_ "and" then (q.2.map (oneB ns)).all id else (q.2.map (oneB ns)).any id
def lack (q : Quiz) (ns : List (Nat × Int)) : Option Nat := firstNo (sgc (wordsQ q)) ns
def dueL (ns : List (Nat × Int)) (q : Quiz) : List V := match lack q ns with
  | none => [.str (s_ "told"), .bl (holdsB ns q)]
  | some c => [.str (s_ "name"), .str (ch c), .bl true]
def NotSt (K : PySem.W.Frag) (H : Hp) (v : V) : Prop := NotStr K H v ∨ ∃ z, v = .str z
section
variable (K : PySem.W.Frag) (C CT CN CU : Addr)
def b_known : Sp := fun vs H Q E => ∃ (z n : Str) (ns : List (Nat × Int)), vs = [.str z, .str n] ∧ TL.tl n = ns.map (·.1) ∧ z.length ≤ 1000 ∧ ns.length ≤ 1000 ∧ ((firstNo (TL.tl z) ns = none ∧ Q .non H) ∨ ∃ c, firstNo (TL.tl z) ns = some c ∧ ∀ H', Same H H' → Bad CU "given" (.str (ch c)) H' E)
def b_told : Sp := fun vs H Q _ => ∃ (d : Addr) (ns : List (Nat × Int)) (w : Str), vs = [.ref d, .str w] ∧ H d = some (.dK (kN ns)) ∧ (ns.map (·.1)).Nodup ∧ Known ns w ∧ Q (.int (valN ns w)) H
def b_hold : Sp := fun vs H Q _ => ∃ (v : V) (q : Quiz) (d : Addr) (ns : List (Nat × Int)), vs = [v, .ref d] ∧ QAt K H v q ∧ QOk q ∧ H d = some (.dK (kN ns)) ∧ (ns.map (·.1)).Nodup ∧ (∀ w ∈ wordsQ q, Known ns w) ∧ ∀ H', Same H H' → Q (.bl (holdsB ns q)) H'
def b_so : Sp := fun vs H Q _ => ∃ (v : V) (q : Quiz) (d : Addr) (ns : List (Nat × Int)), vs = [.ref d, v] ∧ QAt K H v q ∧ QOk q ∧ H d = some (.dK (kN ns)) ∧ (ns.map (·.1)).Nodup ∧ (∀ w ∈ wordsQ q, Known ns w) ∧ ∀ H', Same H H' → Q (.bl (holdsB ns q)) H'
def b_need : Sp := fun vs H Q E => ∃ v, vs = [v] ∧ ((∃ x ns cs, v = .ref x ∧ St K C H x ns cs ∧ Q .non H) ∨ (NotSt K H v ∧ ∀ H', Same H H' → Bad CN "given" v H' E))
def IsTest (v : V) (q : Quiz) : Prop := ∃ x, v = .str x ∧ TxOk 12000 x ∧ tst (spl x) = some q
def b_holds : Sp := fun vs H Q E => ∃ t s, vs = [t, s] ∧
  ((∃ q y ns cs, IsTest t q ∧ s = .ref y ∧ St K C H y ns cs ∧ (lack q ns = none → ∀ H', Same H H' → Q (.bl (holdsB ns q)) H') ∧ ∀ c, lack q ns = some c → ∀ H', Same H H' → Bad CU "given" (.str (ch c)) H' E) ∨
   (NoTest K H t ∧ ∀ H', Same H H' → Bad CT "given" t H' E) ∨
   ((∃ q, IsTest t q) ∧ NotSt K H s ∧ (∀ H', Same H H' → NotSt K H' s) ∧ ∀ H', Same H H' → Bad CN "given" s H' E))
def b_drawn : Sp := fun vs H Q _ => ∃ (j : Addr) (z : Str) (lim : Nat), vs = [.ref j, .str z, .int (lim : Int)] ∧ JugAt H j ∧ 1 ≤ z.length ∧ z.length ≤ 4 ∧ (∀ c ∈ TL.tl z, 97 ≤ c ∧ c ≤ 122) ∧ (TL.tl z).Pairwise (· < ·) ∧ lim ≤ 7 ∧
  ∀ (H' : Hp) (s : Addr) (ns : List (Nat × Int)) (cs : List (Int × Int)), Chg j H H' → JugAt H' j → H s = none → LS H' s ns cs → NOk ns → DOk cs → ns.map (·.1) = TL.tl z → Q (.ref s) H'
def b_lacking : Sp := fun vs H Q _ => ∃ (d l : Addr) (ns : List (Nat × Int)) (ws : List Str), vs = [.ref d, .ref l] ∧ H d = some (.dK (kN ns)) ∧ H l = some (.lst (ws.map V.str)) ∧ (∀ w ∈ ws, isTgt w = true) ∧ ws.length ≤ 60 ∧
  ∀ (H' : Hp) (p : Addr) (us : List Str), Same H H' → H p = none → H' p = some (.lst (us.map V.str)) → us.length ≤ 60 → (∀ u ∈ us, isTgt u = true) → us.head? = (firstNo (sgc ws) ns).map ch → Q (.ref p) H'
def b_due : Sp := fun vs H Q _ => ∃ (s : Addr) (v : V) (ns : List (Nat × Int)) (cs : List (Int × Int)) (q : Quiz), vs = [.ref s, v] ∧ LS H s ns cs ∧ NOk ns ∧ QAt K H v q ∧ QOk q ∧ ∀ H' l, Same H H' → H' l = some (.lst (dueL ns q)) → Q (.ref l) H'
def b_asked : Sp := fun vs H Q _ => ∃ (t s : V) (b : Bool), vs = [t, s, .bl b] ∧
  ((∃ q y ns cs, IsTest t q ∧ s = .ref y ∧ St K C H y ns cs ∧ ∀ H' l, Same H H' → H' l = some (.lst (dueL ns q)) → Q (.ref l) H') ∨
   (NoTest K H t ∧ ∀ H' l, Same H H' → H' l = some (.lst [.str (s_ "test"), t]) → Q (.ref l) H') ∨
   ((∃ q, IsTest t q) ∧ NotSt K H s ∧ (∀ H', Same H H' → NotSt K H' s) ∧ ∀ H' l, Same H H' → H' l = some (.lst [.str (s_ "store"), s]) → Q (.ref l) H'))
def b_odd : Sp := fun vs H Q _ => ∃ j, vs = [.ref j] ∧ JugAt H j ∧ ∀ H' v, Chg j H H' → JugAt H' j → (∀ H2, Chg j H' H2 → NoTest K H2 v ∧ Shown K H2 v) → Q v H'
end
/-! ### values by name -/
theorem valN_of {ns : List (Nat × Int)} {p : Nat × Int} (nd : (ns.map (·.1)).Nodup) (hp : p ∈ ns) : valN ns (ch p.1) = p.2 := by
  induction ns with
  | nil => cases hp
  | cons a r ih =>
    rw [List.map_cons, List.nodup_cons] at nd
    unfold valN
    rcases List.mem_cons.mp hp with rfl | hp
    · rw [List.find?_cons_of_pos (by simp)]
    · have ne : ¬ ch a.1 = ch p.1 := fun e => nd.1 (by rw [ch_inj e]; exact List.mem_map.mpr ⟨p, hp, rfl⟩)
      rw [List.find?_cons_of_neg (by simpa using ne)]
      exact ih nd.2 hp
theorem valN_end (ns : List (Nat × Int)) : valN ns (s_ "END") = 0 := by
  unfold valN
  have : ns.find? (fun p => decide (ch p.1 = s_ "END")) = none := List.find?_eq_none.mpr fun p _ => by simpa using ch_end
  rw [this]
theorem known_of {ns : List (Nat × Int)} {w : Str} (ht : isTgt w = true) (h : ∀ c, w = ch c → c ∈ ns.map (·.1)) : Known ns w := by
  rcases tgt_two ht with ⟨c, rfl, _, _⟩ | rfl
  · obtain ⟨p, hp, e⟩ := List.mem_map.mp (h c rfl)
    exact .inr ⟨p, hp, by rw [e]⟩
  · exact .inl rfl
theorem known_all {ns : List (Nat × Int)} {q : Quiz} (ok : QOk q) (h : lack q ns = none) : ∀ w ∈ wordsQ q, Known ns w := fun w hw => by
  refine known_of (wQ_tgt ok w hw) fun c e => ?_
  subst e
  have tc := wQ_tgt ok _ hw
  rcases tgt_two tc with ⟨d, e, d1, d2⟩ | e
  · obtain rfl := ch_inj e
    have := List.find?_eq_none.mp h c (sgc_mem.mpr ⟨⟨d1, d2⟩, hw⟩)
    simpa using this
  · exact absurd e ch_end
theorem val_dk {ns : List (Nat × Int)} {p : Nat × Int} (nd : (ns.map (·.1)).Nodup) (hp : p ∈ ns) : valV (kN ns) (Sum.inr (ch p.1) : Key) = some (.int p.2) := by
  induction ns with
  | nil => cases hp
  | cons a r ih =>
    rw [List.map_cons, List.nodup_cons] at nd
    show valV ((Sum.inr (ch a.1), V.int a.2) :: kN r) _ = _
    rcases List.mem_cons.mp hp with rfl | hp
    · exact valV_pos rfl
    · rw [valV_neg (fun e => nd.1 ?_)]
      · exact ih nd.2 hp
      · have e2 : ch a.1 = ch p.1 := Sum.inr.inj e
        rw [ch_inj e2]
        exact List.mem_map.mpr ⟨p, hp, rfl⟩
/-! ### the first one lacking -/
theorem find_asc : ∀ {l : List Nat} {f : Nat → Bool}, l.Pairwise (· < ·) → ∀ c, l.find? f = some c ↔ c ∈ l ∧ f c = true ∧ ∀ d ∈ l, f d = true → c ≤ d
  | [], f, _, c => by simp
  | a :: r, f, h, c => by
    obtain ⟨h1, h2⟩ := List.pairwise_cons.mp h
    by_cases e : f a = true
    · rw [List.find?_cons_of_pos e]
      constructor
      · intro z
        cases z
        exact ⟨.head _, e, fun d hd _ => (List.mem_cons.mp hd).elim (fun q => Nat.le_of_eq q.symm) fun q => Nat.le_of_lt (h1 d q)⟩
      · rintro ⟨m, fc, k⟩
        have := k a (.head _) e
        rcases List.mem_cons.mp m with rfl | m
        · rfl
        · have := h1 c m
          omega
    · rw [List.find?_cons_of_neg e, find_asc h2 c]
      constructor
      · rintro ⟨m, fc, k⟩
        exact ⟨.tail _ m, fc, fun d hd fd => (List.mem_cons.mp hd).elim (fun q => absurd (q ▸ fd) e) fun q => k d q fd⟩
      · rintro ⟨m, fc, k⟩
        rcases List.mem_cons.mp m with rfl | m
        · exact absurd fc e
        · exact ⟨m, fc, fun d hd fd => k d (.tail _ hd) fd⟩
theorem head_lack {ys ws : List Str} {ns : List (Nat × Int)} (p : ys.Perm ws) (s : sortedS ys = true) (ht : ∀ w ∈ ws, isTgt w = true) :
    (ys.filter fun w => !decide (w = s_ "END") && !decide (w ∈ ns.map fun p => ch p.1)).head? = (firstNo (sgc ws) ns).map ch := by
  have hy : ∀ w ∈ ys, isTgt w = true := fun w hw => ht w (p.mem_iff.mp hw)
  have as : ys.Pairwise fun x y => hd1 x ≤ hd1 y := by
    cases ys with
    | nil => exact .nil
    | cons a t => exact rising_tgt t a (hy a (.head _)) (fun w hw => hy w (.tail _ hw)) s
  have nm : ∀ c, (ch c ∈ ns.map fun p => ch p.1) ↔ c ∈ ns.map (·.1) := fun c => by
    rw [List.mem_map, List.mem_map]
    exact ⟨fun ⟨q, hq, e⟩ => ⟨q, hq, ch_inj e⟩, fun ⟨q, hq, e⟩ => ⟨q, hq, by rw [← e]⟩⟩
  generalize hz : (ys.filter fun w => !decide (w = s_ "END") && !decide (w ∈ ns.map fun p => ch p.1)) = zs
  have hm : ∀ c, ch c ∈ zs ↔ c ∈ sgc ws ∧ (!decide (c ∈ ns.map (·.1))) = true := fun c => by
    rw [← hz, List.mem_filter, sgc_mem, p.mem_iff]
    rw [show decide (ch c ∈ ns.map fun p => ch p.1) = decide (c ∈ ns.map (·.1)) from decide_eq_decide.mpr (nm c), decide_eq_false (ch_end (c := c))]
    constructor
    · rintro ⟨h1, h2⟩
      rcases tgt_two (ht _ h1) with ⟨d, e, d1, d2⟩ | e
      · obtain rfl := ch_inj e
        exact ⟨⟨⟨d1, d2⟩, h1⟩, by simpa using h2⟩
      · exact absurd e ch_end
    · rintro ⟨⟨_, h1⟩, h2⟩
      exact ⟨h1, by simpa using h2⟩
  have az : zs.Pairwise fun x y => hd1 x ≤ hd1 y := by rw [← hz]; exact as.sublist List.filter_sublist
  have hl : ∀ w ∈ zs, ∃ c, w = ch c := fun w hw => by
    rw [← hz] at hw
    obtain ⟨h1, h2⟩ := List.mem_filter.mp hw
    rcases tgt_two (hy w h1) with ⟨c, rfl, _, _⟩ | e
    · exact ⟨c, rfl⟩
    · rw [decide_eq_true e] at h2
      cases h2
  cases hf : firstNo (sgc ws) ns with
  | none =>
    cases zs with
    | nil => rfl
    | cons w r =>
      obtain ⟨c, rfl⟩ := hl w (.head _)
      obtain ⟨h1, h2⟩ := (hm c).mp (.head _)
      exact absurd h2 (List.find?_eq_none.mp hf c h1)
  | some c =>
    obtain ⟨h1, h2, h3⟩ := (find_asc (sgc_asc ws) c).mp hf
    have hc := (hm c).mpr ⟨h1, h2⟩
    cases zs with
    | nil => cases hc
    | cons w r =>
      obtain ⟨d, rfl⟩ := hl w (.head _)
      obtain ⟨k1, k2⟩ := (hm d).mp (.head _)
      have le1 := h3 d k1 k2
      have le2 : hd1 (ch d) ≤ hd1 (ch c) := by
        rcases List.mem_cons.mp hc with e | e
        · rw [e]; exact Nat.le_refl _
        · exact (List.pairwise_cons.mp az).1 _ e
      rw [hd1_ch, hd1_ch] at le2
      have e : d = c := by omega
      rw [e]
      rfl
end K40
namespace K40
open PySem PySem.Spec PyProof.Rows L2 Z K1 TL K36 K34 K35 K38 K6
theorem first_at {ns : List (Nat × Int)} : ∀ {l : List Nat} {i c : Nat}, (∀ d ∈ l.take i, d ∈ ns.map (·.1)) → l[i]? = some c → c ∉ ns.map (·.1) → firstNo l ns = some c
  | [], i, c, _, h, _ => by simp at h
  | a :: r, 0, c, _, h, n => by
    have e : a = c := by simpa using h
    subst e
    unfold firstNo
    rw [List.find?_cons_of_pos (by simp only [decide_eq_false n]; rfl)]
  | a :: r, i + 1, c, hm, h, n => by
    have ha : a ∈ ns.map (·.1) := hm a (by simp)
    unfold firstNo
    rw [List.find?_cons_of_neg (by simp only [decide_eq_true ha]; decide)]
    exact first_at (l := r) (i := i) (fun d hd => hm d (by rw [List.take_succ_cons]; exact .tail _ hd)) (by simpa using h) n
theorem first_none {ns : List (Nat × Int)} {l : List Nat} (h : ∀ d ∈ l, d ∈ ns.map (·.1)) : firstNo l ns = none := List.find?_eq_none.mpr fun d hd => by
  rw [decide_eq_true (h d hd)]
  decide
theorem eq_bl (a b : Bool) : decide (V.bl a = V.bl b) = (a == b) := by cases a <;> cases b <;> decide
theorem eq_int (a b : Int) : decide (V.int a = V.int b) = decide (a = b) := decide_eq_decide.mpr ⟨fun e => V.int.inj e, fun e => congrArg V.int e⟩
theorem get_at {H : Hp} {d : Addr} {ns : List (Nat × Int)} {w : Str} (hd : H d = some (.dK (kN ns))) (nd : (ns.map (·.1)).Nodup) (h : Known ns w) (l : isLet w = true) : DGet H d (.str w) (some (.int (valN ns w))) := by
  rcases h with rfl | ⟨p, hp, rfl⟩
  · exact absurd l (by decide +kernel)
  · rw [valN_of nd hp, ← val_dk nd hp]
    exact DGet.k (k := (Sum.inr (ch p.1) : Key)) hd
theorem any_bls {K : PySem.W.Frag} {H : Hp} {l : Addr} {bs : List Bool} {Q : VK} (h : H l = some (.lst (bs.map V.bl))) (k : Q (.bl (bs.any id)) H) : rAnyD K [.ref l] H Q := by
  have pl : PyData.plainAll (bs.map PyData.bool) = true := by
    induction bs with
    | nil => simp [PyData.plainAll]
    | cons b r ih =>
      clear h k
      have : ∀ r : List Bool, PyData.plainAll (r.map PyData.bool) = true := fun r => by
        induction r with
        | nil => simp [PyData.plainAll]
        | cons b r ih => simp only [List.map_cons, PyData.plainAll, ih, PyData.plain, Bool.and_self]
      exact this _
  refine ⟨l, bs.map PyData.bool, rfl, .lst (.inl (.inl h)) (dp_bls bs), pl, fun d hd => ?_, ?_⟩
  · obtain ⟨b, _, rfl⟩ := List.mem_map.mp hd
    exact trivial
  · rw [List.any_map]
    exact k
where
  dp_bls {K : PySem.W.Frag} {H : Hp} : ∀ bs : List Bool, DpAll K H (bs.map V.bl) (bs.map PyData.bool)
    | [] => .nil
    | b :: r => .cons (.bl b) (dp_bls r)
theorem holds_if {ns : List (Nat × Int)} {q : Quiz} : holdsB ns q = if decide (q.1 = s_ "and") = true then (q.2.map (oneB ns)).all id else (q.2.map (oneB ns)).any id := by
  unfold holdsB
  by_cases h : q.1 = s_ "and"
  · rw [if_pos h, if_pos (decide_eq_true h)]
  · rw [if_neg h, if_neg (by simpa using h)]
theorem wq_mem {q : Quiz} {t : Tri} (h : t ∈ q.2) : t.2.1 ∈ wordsQ q ∧ t.2.2 ∈ wordsQ q := ⟨List.mem_flatMap.mpr ⟨t, h, by simp⟩, List.mem_flatMap.mpr ⟨t, h, by simp⟩⟩
theorem NotSt.ty {K : PySem.W.Frag} {C : Addr} {H : Hp} {v : V} (h : NotSt K H v) (kn : PySem.W.kitOne K (.type "NoneType") (.ref C) = some false) (kb : PySem.W.kitOne K (.type "bool") (.ref C) = some false) (ki : PySem.W.kitOne K (.type "int") (.ref C) = some false)
    (kt : PySem.W.kitOne K (.type "tuple") (.ref C) = some false) (kl : PySem.W.kitOne K (.type "list") (.ref C) = some false) (kd : PySem.W.kitOne K (.type "dict") (.ref C) = some false) (ks : PySem.W.kitOne K (.type "str") (.ref C) = some false) : ∃ c, TyX K H v c ∧ PySem.W.kitOne K c (.ref C) = some false := by
  rcases h with (rfl | ⟨b, rfl⟩ | ⟨i, rfl⟩ | ⟨a, xs, rfl, hs⟩ | ⟨a, xs, rfl, hs⟩ | ⟨a, xs, rfl, hs⟩) | ⟨z, rfl⟩
  · exact ⟨_, .base .non, kn⟩
  · exact ⟨_, .base (.bl b), kb⟩
  · exact ⟨_, .base (.int i), ki⟩
  · exact ⟨_, SqT.ty hs, kt⟩
  · exact ⟨_, .base (.lst hs), kl⟩
  · exact ⟨_, .base (.dK hs), kd⟩
  · exact ⟨_, .base (.str _), ks⟩
theorem nd_asc {l : List Nat} (h : l.Pairwise (· < ·)) : l.Nodup := h.imp fun h => Nat.ne_of_lt h
theorem tl_l (ns : List (Nat × Int)) : TL.tl (lTxt ns) = ns.map (·.1) := by
  have e : lTxt ns = Str.join (Str.ofString "") ((ns.map (·.1)).map ch) := by
    unfold lTxt
    rw [join_eq, List.map_map]
    rfl
  rw [e, K38.tl_join]
theorem val_in (w : Str) : ∀ ns : List (Nat × Int), (valV (kN ns) (Sum.inr w : Key)).isSome = decide (w ∈ ns.map fun p => ch p.1)
  | [] => rfl
  | a :: r => by
    show (valV ((Sum.inr (ch a.1), V.int a.2) :: kN r) (Sum.inr w : Key)).isSome = _
    by_cases h : ch a.1 = w
    · rw [valV_pos (congrArg Sum.inr h)]
      exact (decide_eq_true (by rw [List.map_cons, h]; exact .head _)).symm
    · rw [valV_neg (fun e => h (Sum.inr.inj e)), val_in w r]
      refine decide_eq_decide.mpr ⟨fun m => .tail _ m, fun m => ?_⟩
      rcases List.mem_cons.mp m with e | m
      · exact absurd e.symm h
      · exact m
theorem wT_len : ∀ l : List Tri, (wordsT l).length = 2 * l.length
  | [] => rfl
  | t :: r => by
    show (t.2.1 :: t.2.2 :: wordsT r).length = _
    rw [List.length_cons, List.length_cons, wT_len r, List.length_cons]
    omega
theorem te_post {te : TE} {σ : L2.St} {H : Hp} {R : VK} (P : V → Hp → Prop) (h1 : ∀ R' : VK, (∀ v H', P v H' → R' v H') → te σ H R') (h2 : ∀ v H', P v H' → R v H') : te σ H R := h1 R h2
abbrev In9 (l : List Int) : Prop := ∀ c ∈ l, 1 ≤ c ∧ c ≤ 999
theorem at_map {l : List Int} {i : Nat} (h : i < l.length) : atI (l.map V.int) (i : Int) = some (.int l[i]) := by
  exact at_nat (by rw [List.getElem?_map, List.getElem?_eq_getElem h]; rfl)
theorem sg40 {x : V} (h : x ∈ [V.str (Str.ofString "x"), V.str (Str.ofString "xy"), V.str (Str.ofString "xyz"), V.str (Str.ofString "bhqz")]) : ∃ z, x = .str z ∧ 1 ≤ z.length ∧ z.length ≤ 4 ∧ (∀ c ∈ TL.tl z, 97 ≤ c ∧ c ≤ 122) ∧ (TL.tl z).Pairwise (· < ·) ∧
    ((Txt.mul z (3 : Nat)).length ≤ 12 ∧ ∀ c ∈ TL.tl (Txt.mul z (3 : Nat)), 97 ≤ c ∧ c ≤ 122) ∧ (cutS z none (some 1)).length = 1 ∧ ∀ c ∈ TL.tl (cutS z none (some 1)), 97 ≤ c ∧ c ≤ 122 := by
  simp only [List.mem_cons, List.not_mem_nil, or_false] at h
  rcases h with rfl | rfl | rfl | rfl <;> exact ⟨_, rfl, by decide +kernel, by decide +kernel, by decide +kernel, by decide +kernel, ⟨by decide +kernel, by decide +kernel⟩, by decide +kernel, by decide +kernel⟩
/-- [w, v] -/
abbrev sayD (w : Str) (d : PyData) : PyData := .list [.str w, d]
theorem say_ok {w : Str} {d : PyData} (hw : ((PyData.str w).showable && decide ((PyData.str w).shown.length ≤ 100)) = true) (h : ShOk d) : (sayD w d).showable = true ∧ (sayD w d).depth ≤ 62 ∧ (sayD w d).shown.length ≤ sizeLine := by
  obtain ⟨h1, h2, h3⟩ := h
  simp only [Bool.and_eq_true, decide_eq_true_eq] at hw
  obtain ⟨w1, w2⟩ := hw
  refine ⟨?_, ?_, ?_⟩
  · simp only [PyData.showable, PyData.showableAll, h1, Bool.and_true] at w1 ⊢
  · simp only [PyData.depth, PyData.depthAll]
    omega
  · have l := listText_len_le (PyData.shownAll [.str w, d])
    have e : (PyData.shownAll [.str w, d]) = [PyData.shown (.str w), d.shown] := by simp [PyData.shownAll]
    rw [e] at l
    simp only [List.map_cons, List.map_nil, List.sum_cons, List.sum_nil, List.length_cons, List.length_nil] at l
    refine sl_le ?_
    simp only [PyData.shown]
    rw [e]
    omega
theorem say_dx {K : PySem.W.Frag} {H : Hp} {l : Addr} {w : Str} {v : V} {d : PyData} (h : H l = some (.lst [.str w, v])) (s : Sh K H v d) : Dx K H (.ref l) (sayD w d) := .lst (.inl (.inl h)) (.cons (.str _) (.cons s.dx .nil))
def dueP (ns : List (Nat × Int)) (q : Quiz) : PyData := match lack q ns with
  | none => .list [.str (s_ "told"), .bool (holdsB ns q)]
  | some c => .list [.str (s_ "name"), .str (ch c), .bool true]
theorem due_dx {K : PySem.W.Frag} {H : Hp} {l : Addr} {ns : List (Nat × Int)} {q : Quiz} (h : H l = some (.lst (dueL ns q))) : Dx K H (.ref l) (dueP ns q) := by
  unfold dueL at h
  unfold dueP
  cases e : lack q ns with
  | none => rw [e] at h; exact .lst (.inl (.inl h)) (.cons (.str _) (.cons (.bl _) .nil))
  | some c => rw [e] at h; exact .lst (.inl (.inl h)) (.cons (.str _) (.cons (.str _) (.cons (.bl _) .nil)))
theorem due_fit40 (ns : List (Nat × Int)) (q : Quiz) : Fit (dueP ns q) 400 2 := by
  unfold dueP
  cases e : lack q ns with
  | none =>
    refine fit_le (fit_list (k := 50) (m := 1) fun d hd => ?_) (show (50 + 2) * 2 + 3 ≤ 400 by decide) (by decide)
    simp only [List.mem_cons, List.not_mem_nil, or_false] at hd
    rcases hd with rfl | rfl
    · exact fit_le (fit_str (n := 4) (txB_ok (n := 4) (by decide +kernel)).small (by decide +kernel)) (by decide) (by decide)
    · exact fit_le (fit_bl _) (by decide) (by decide)
  | some c =>
    have hc : isLet (ch c) = true := by
      have := (sgc_mem.mp (List.mem_of_find?_eq_some e)).1
      rw [ch_let, decide_eq_true this.1, decide_eq_true this.2]
      rfl
    refine fit_le (fit_list (k := 50) (m := 1) fun d hd => ?_) (show (50 + 2) * 3 + 3 ≤ 400 by decide) (by decide)
    simp only [List.mem_cons, List.not_mem_nil, or_false] at hd
    rcases hd with rfl | rfl | rfl
    · exact fit_le (fit_str (n := 4) (txB_ok (n := 4) (by decide +kernel)).small (by decide +kernel)) (by decide) (by decide)
    · exact fit_le (fit_str (n := 1) (tx_let hc).small (tx_let hc).len) (by decide) (by decide)
    · exact fit_le (fit_bl _) (by decide) (by decide)
theorem due_ok40 (ns : List (Nat × Int)) (q : Quiz) : (dueP ns q).showable = true ∧ (dueP ns q).depth ≤ 62 ∧ (dueP ns q).shown.length ≤ sizeLine := by
  have f := due_fit40 ns q
  exact ⟨f.ok, Nat.le_trans f.dep (by decide), sl_le (Nat.le_trans f.len (by decide))⟩
theorem NoTest.notSt {K : PySem.W.Frag} {H : Hp} {v : V} (h : NoTest K H v) : NotSt K H v := by
  rcases h with ⟨x, e, _⟩ | h
  · exact .inr ⟨x, e⟩
  · exact .inl h
theorem e_len : (Str.ofString "e").length = 1 := by decide +kernel
end K40
namespace K1
open PySem PySem.Spec L2 Z K36 K34 K35 K38 K6 K40 CwR
section
variable {P : Program} {w : World} {K : PySem.W.Frag} {mg : Str → Option Value} {base : Heap} {C CT CN CU CA : Addr}
theorem ok_law_take (T : Txt K mg C CT CN CU CA)  : Pr P w K mg base "_law_take" s_law_take 1 ["_law_well_here", "_law_limit"] sp_law_take := by
  obtain ⟨f, fd, F, gl, bd⟩ := T.d__law_take
  refine ⟨f, fd, F, gl, bd, F.ok sc_law_take (fun vs H Q E h => ?_) (fun cdv A outer s H vs Q E hr h => ?_)⟩
  · obtain ⟨j, m, rfl, _⟩ := h
    rfl
  · obtain ⟨j, m, rfl, ⟨g, s0, c, hj, b1, b2⟩, m1, m2, k⟩ := h
    have hu := hu_of hr
    refine ⟨_, (pss_cons (ps_if (pt_cmpR op_gt (pe_ix ix_list (pv 0) pe_int (fun _ _ => rfl)) pe_int (nomark _)) (pss_cons (ps_asg (pe_callB call_divmod (by rfl) T.b_divmod (by decide +kernel) (pa_cons (pe_ix ix_list (pv 0) pe_int (fun _ _ => rfl)) (pa_cons (pv 1) pa_nil))) (pg_tup rfl (pgs_cons (pg_sub (pv 0) pe_int set_list) (pgs_cons (pg_name (i := 2) sc_law_take.nd rfl (Or.inl rfl)) pgs_nil))))
      (pss_one (ps_ret (pv 2)))) pss_nil)
      (pss_cons (ps_asg (pe_op op_add (pe_ix ix_list (pv 0) pe_int (fun _ _ => rfl)) pe_int) (pg_sub (pv 0) pe_int set_list))
      (pss_cons (ps_set (i := 3) sc_law_take.nd rfl (Or.inl rfl) (pe_op op_modN (pe_callTy call_int1 (by rfl) T.b_int (by decide +kernel) (pa_cons (pe_op op_add (pe_op op_mul (pe_ix ix_list (pv 0) pe_int (fun _ _ => rfl)) pe_int) (pe_op op_mul (pe_ix ix_list (pv 0) pe_int (fun _ _ => rfl)) pe_int)) pa_nil)) pe_int))
      (pss_cons (ps_asg (pe_op op_modN (pe_callTy call_int1 (by rfl) T.b_int (by decide +kernel) (pa_cons (pe_op op_add (pe_op op_mul (pv 3) (pe_op op_add (pe_op op_modN (pe_callTy call_int1 (by rfl) T.b_int (by decide +kernel) (pa_cons (pe_op op_fdivN (pv 3) pe_int) pa_nil)) pe_int) pe_int)) pe_int) pa_nil)) pe_int) (pg_sub (pv 0) pe_int set_list))
      (pss_one (ps_ret (pe_op op_modN (pe_callTy call_int1 (by rfl) T.b_int (by decide +kernel) (pa_cons (pe_op op_fdivN (pe_ix ix_list (pv 0) pe_int (fun _ _ => rfl)) pe_int) pa_nil)) (pv 1)))))))), ?_⟩
    refine ⟨_, rfl, j, _, 0, _, rfl, rfl, .inl (.inl hj), at_first, _, _, rfl, rfl, _, rfl, ?_⟩
    by_cases hg : 0 < g
    · rw [decide_eq_true hg]
      refine iteT ⟨_, rfl, j, _, 0, _, rfl, rfl, .inl (.inl hj), at_first, _, rfl, _, _, rfl, ⟨by omega, by omega⟩, fun t ht => ?_⟩
      have nt : j ≠ t := ne_of_none hj ht
      refine ⟨t, _, rfl, .inl (.inl upd_same), rfl, _, _, rfl, _, rfl, j, _, 0, 0, rfl, rfl, by rw [upd_ne nt]; exact hj, rfl, _, _, rfl, rfl, _, rfl, ?_⟩
      exact k _ (g % m) ((Chg.of (same_new ht)).trans Chg.upd) ⟨g / m, s0, c, upd_same, b1, b2⟩ (Int.emod_nonneg _ (by omega)) (Int.emod_lt_of_pos _ (by omega))
    · rw [decide_eq_false hg]
      refine iteF ⟨_, rfl, j, _, 2, _, rfl, rfl, .inl (.inl hj), at_third, _, _, rfl, rfl, _, rfl, j, _, 2, 2, rfl, rfl, hj, rfl, ?_⟩
      have j1 : upd H j (.lst ([V.int g, V.int s0, V.int c].set 2 (V.int (c + 1)))) j = some (.lst [V.int g, V.int s0, V.int (c + 1)]) := upd_same
      have c1 : Chg j H (upd H j (.lst ([V.int g, V.int s0, V.int c].set 2 (V.int (c + 1))))) := Chg.upd
      generalize upd H j (.lst ([V.int g, V.int s0, V.int c].set 2 (V.int (c + 1)))) = H1 at j1 c1 ⊢
      refine ⟨_, rfl, j, _, 1, _, rfl, rfl, .inl (.inl j1), at_snd, _, _, rfl, rfl, .inr ⟨by decide, by decide⟩, _, rfl, j, _, 2, _, rfl, rfl, .inl (.inl j1), at_third, _, _, rfl, rfl, .inr ⟨by decide, by decide⟩, _, _, rfl, rfl, .inl ⟨_, rfl, _, _, rfl, rfl, by show (2147483629 : Int) ≠ 0; decide, ?_⟩⟩
      have hs := fm_range (i := s0 * 48271 + (c + 1) * 30103) (m := 2147483629) (by decide)
      refine ⟨_, rfl, _, rfl, _, _, rfl, rfl, ⟨by decide, by decide⟩, .inl ⟨_, rfl, _, _, rfl, rfl, by show (5003 : Int) ≠ 0; decide, _, _, rfl, rfl, _, _, rfl, rfl, .inl ⟨by have := hs.1; omega, by have := hs.2; omega⟩, _, _, rfl, rfl, .inl ⟨_, rfl, _, _, rfl, rfl, by show (2147483587 : Int) ≠ 0; decide, _, rfl, j, _, 1, 1, rfl, rfl, j1, rfl, ?_⟩⟩⟩
      have hr := fm_range (i := (Int.fmod (s0 * 48271 + (c + 1) * 30103) 2147483629) * ((Int.fmod (Int.fdiv (Int.fmod (s0 * 48271 + (c + 1) * 30103) 2147483629) 7) 5003) + 20011) + 11) (m := 2147483587) (by decide)
      refine ⟨_, rfl, j, _, 1, _, rfl, rfl, .inl (.inl upd_same), at_snd, _, _, rfl, rfl, ⟨by decide, by decide⟩, .inl ⟨_, rfl, _, rfl, _, _, rfl, rfl, by show m ≠ 0; omega, ?_⟩⟩
      have fr := fm_range (i := (Int.fmod ((Int.fmod (s0 * 48271 + (c + 1) * 30103) 2147483629) * ((Int.fmod (Int.fdiv (Int.fmod (s0 * 48271 + (c + 1) * 30103) 2147483629) 7) 5003) + 20011) + 11) 2147483587).fdiv 1009) (m := m) (by omega)
      exact k _ _ (c1.trans Chg.upd) ⟨_, _, _, upd_same, Int.lt_of_lt_of_le (by decide) hr.1, Int.lt_trans hr.2 (by decide)⟩ fr.1 fr.2
end
end K1
namespace K1
open PySem PySem.Spec L2 Z K36 K34 K35 K38 K6 K40 CwR
section
variable {P : Program} {w : World} {K : PySem.W.Frag} {mg : Str → Option Value} {base : Heap} {C CT CN CU CA : Addr}
theorem ok_law_pick (T : Txt K mg C CT CN CU CA) (G__law_take : Pr P w K mg base "_law_take" s_law_take 1 ["_law_well_here", "_law_limit"] sp_law_take) : Pr P w K mg base "_law_pick" s_law_pick 2 ["_law_well_here", "_law_some"] (p_pick K) := by
  obtain ⟨f, fd, F, gl, bd⟩ := T.d__law_pick
  refine ⟨f, fd, F, gl, bd, F.ok sc_law_pick (fun vs H Q E h => ?_) (fun cdv A outer s H vs Q E hr h => ?_)⟩
  · obtain ⟨j, v, xs, rfl, _⟩ := h
    rfl
  · obtain ⟨j, v, xs, rfl, hj, hv, hx, hm, k⟩ := h
    have hu := hu_of hr
    refine ⟨_, (pss_one (ps_ret (pe_ix (IxR.or (IxR.or ix_list ix_tup) ix_str) (pv 1) (pcall G__law_take (hr.mono (by decide)) (pa_cons (pv 0) (pa_cons (pe_callB (CallR.or call_len_seq call_len_str) (by rfl) T.b_len (by decide +kernel) (pa_cons (pv 1) pa_nil)) pa_nil))) (fun _ _ => rfl)))), ?_⟩
    have hp := List.length_pos_iff.mpr hx
    rcases hv with ⟨l, rfl, ne, hl⟩ | ⟨l, rfl, hl⟩ | ⟨z, rfl, hz, rfl⟩
    · refine ⟨_, rfl, _, rfl, _, rfl, .inl ⟨l, xs, rfl, .inl hl, j, (xs.length : Int), rfl, hj, by omega, by omega, fun H' i cg hj' i0 im => ?_⟩⟩
      obtain ⟨y, hy, hat⟩ := at_of (xs := xs) i0 im
      exact .inl (.inl ⟨l, xs, i, y, rfl, rfl, SqL.chg cg ne hl, hat, k H' y cg hj' hy⟩)
    · refine ⟨_, rfl, _, rfl, _, rfl, .inl ⟨l, xs, rfl, .inr hl, j, (xs.length : Int), rfl, hj, by omega, by omega, fun H' i cg hj' i0 im => ?_⟩⟩
      obtain ⟨y, hy, hat⟩ := at_of (xs := xs) i0 im
      exact .inl (.inr ⟨l, xs, i, y, rfl, rfl, SqT.imm (chg_imm cg hj) hl, hat, k H' y cg hj' hy⟩)
    · have el : (z.length : Int) = ((z.cps.toList.map fun c => V.str (ch c)).length : Int) := by rw [List.length_map, ← TL.len_tl]
      refine ⟨_, rfl, _, rfl, _, rfl, .inr ⟨z, rfl, sl_le (by omega), j, (z.length : Int), rfl, hj, by omega, by omega, fun H' i cg hj' i0 im => ?_⟩⟩
      obtain ⟨c, hc, hat⟩ := at_of (xs := z.cps.toList) i0 (by rw [List.length_map] at el; omega)
      exact .inr ⟨z, i, c, rfl, rfl, sl_le (by omega), hat, k H' _ cg hj' (List.mem_map.mpr ⟨c, hc, rfl⟩)⟩
end
end K1
namespace K1
open PySem PySem.Spec L2 Z K36 K34 K35 K38 K6 K40 CwR
section
variable {P : Program} {w : World} {K : PySem.W.Frag} {mg : Str → Option Value} {base : Heap} {C CT CN CU CA : Addr}
theorem ok_law_drawn (T : Txt K mg C CT CN CU CA) (G__law_take : Pr P w K mg base "_law_take" s_law_take 1 ["_law_well_here", "_law_limit"] sp_law_take) (G__law_pick : Pr P w K mg base "_law_pick" s_law_pick 2 ["_law_well_here", "_law_some"] (p_pick K)) : Pr P w K mg base "_law_drawn" s_law_drawn 3 ["_law_well_here", "_law_signs", "_law_limit"] b_drawn := by
  obtain ⟨f, fd, F, gl, bd⟩ := T.d__law_drawn
  refine ⟨f, fd, F, gl, bd, F.ok sc_law_drawn (fun vs H Q E h => ?_) (fun cdv A outer s H vs Q E hr h => ?_)⟩
  · obtain ⟨j, z, lim, rfl, _⟩ := h
    rfl
  · obtain ⟨j, z, lim, rfl, hj, z1, z4, hz, za, l7, k⟩ := h
    have hu := hu_of hr
    refine ⟨_, (pss_cons (ps_asg (pe_tup (pa_cons (pcall G__law_take (hr.mono (by decide)) (pa_cons (pv 0) (pa_cons (pe_op op_add (pv 2) pe_int) pa_nil))) (pa_cons (pcall G__law_take (hr.mono (by decide)) (pa_cons (pv 0) (pa_cons pe_int pa_nil))) pa_nil))) (pg_tup rfl (pgs_cons (pg_name (i := 3) sc_law_drawn.nd rfl (Or.inl rfl)) (pgs_cons (pg_name (i := 4) sc_law_drawn.nd rfl (Or.inr rfl)) pgs_nil))))
      (pss_cons (ps_setLc (i := 5) (own := [("_law_k", 10)]) (g := gName 10) (tt := tYes) rfl sc_law_drawn.nd rfl rfl (sw_true rfl rfl rfl (by decide +kernel)) (pi_range1 rfl T.b_range (pa_cons (pe_op op_add (pv 3) pe_int) pa_nil)) (blkOk_by (own := [("_law_k", 10)]) (N := N_law_drawn) (sc := defScope s_law_drawn) (by decide +kernel)) (fun _ _ _ _ _ => (pg_name (i := 10) sc_law_drawn.nd rfl (Or.inl rfl))) (fun _ _ _ _ _ => pts_nil) (fun _ _ _ _ _ => (pe_ifExp (pt_cmpR op_lt (pv 4) pe_int (nomark _)) (pe_op op_add (pv 10) pe_int) (pe_op op_add (pe_op op_add (pe_op op_mul pe_int (pv 10)) (pe_op op_mul pe_int (pv 4))) pe_int))))
      (pss_cons (ps_par3 (i := 6) (j := 7) (l := 8) rfl sc_law_drawn.nd rfl rfl rfl (by decide) (by decide) (by decide) rfl rfl rfl (pa_cons (pe_lst pa_nil) (pa_cons pe_dnewK (pa_cons pe_dnewK pa_nil))) (by rfl))
      (pss_cons (ps_for PassesOwn.never rfl (pi_range1 rfl T.b_range (pa_cons (pv 3) pa_nil)) (pg_name (i := 9) sc_law_drawn.nd rfl (Or.inl rfl))
      (pss_one (ps_expr (pe_bm PySem.F.plainAttrs_list PySem.F.slot_list_append PySem.F.type_list_append mt_append (pv 6) (pa_cons (pe_bm PySem.F.plainAttrs_list PySem.F.slot_list_pop PySem.F.type_list_pop mt_popAt (pv 5) (pa_cons (pcall G__law_take (hr.mono (by decide)) (pa_cons (pv 0) (pa_cons (pe_callB call_len_seq (by rfl) T.b_len (by decide +kernel) (pa_cons (pv 5) pa_nil)) pa_nil))) pa_nil)) pa_nil)))))
      (pss_cons (ps_for PassesOwn.never rfl (pi_range1 rfl T.b_range (pa_cons (pv 3) pa_nil)) (pg_name (i := 10) sc_law_drawn.nd rfl (Or.inl rfl))
      (pss_cons (ps_set (i := 11) sc_law_drawn.nd rfl (Or.inl rfl) (pe_ifExp (pt_cmpR op_lt (pe_op op_add (pv 10) pe_int) (pv 3) (nomark _)) (pe_ix ix_list (pv 6) (pe_op op_add (pv 10) pe_int) (fun _ _ => rfl)) pe_int))
      (pss_one (ps_dput hu (pv 8) (pe_ix ix_list (pv 6) (pv 10) (fun _ _ => rfl)) (pe_ifExp (pt_cmpR op_gt (pcall G__law_take (hr.mono (by decide)) (pa_cons (pv 0) (pa_cons pe_int pa_nil))) pe_int (nomark _)) (pv 11) (pcall G__law_pick (hr.mono (by decide)) (pa_cons (pv 0) (pa_cons (pe_op op_cat (pv 6) (pe_lst (pa_cons pe_int (pa_cons pe_int (pa_cons (pe_ix ix_list (pv 5) pe_int (fun _ _ => rfl)) (pa_cons (pe_ix ix_list (pv 5) pe_int (fun _ _ => rfl)) pa_nil)))))) pa_nil)))) rfl))))
      (pss_cons (ps_for PassesOwn.never rfl (pi_str (pv 1)) (pg_name (i := 12) sc_law_drawn.nd rfl (Or.inl rfl))
      (pss_one (ps_dput hu (pv 7) (pv 12) (pcall G__law_pick (hr.mono (by decide)) (pa_cons (pv 0) (pa_cons (pe_op op_cat (pe_op op_cat (pv 6) (pv 6)) (pe_lst (pa_cons pe_int (pa_cons (pe_ix ix_list (pv 5) pe_int (fun _ _ => rfl)) (pa_cons (pe_ix ix_list (pv 5) pe_int (fun _ _ => rfl)) pa_nil))))) pa_nil))) rfl)))
      (pss_one (ps_ret (pe_lst (pa_cons (pv 7) (pa_cons (pv 8) pa_nil))))))))))), ?_⟩
    refine ⟨_, rfl, _, rfl, _, _, rfl, rfl, j, _, rfl, hj, by omega, by omega, fun H1 k0 c1 j1 k1 k2 => ⟨_, rfl, j, _, rfl, j1, by decide, by decide, fun H2 f0 c2 j2 f1 f2 => ⟨sl_le (by show 2 ≤ 1000000; decide), fun t ht => ?_⟩⟩⟩
    have s3 := same_new (o := .tup [V.int k0, V.int f0]) ht
    refine ⟨t, _, rfl, .inl (.inl upd_same), rfl, _, _, rfl, _, _, rfl, rfl, ?_⟩
    have c3 := (c1.trans c2).trans (Chg.of s3)
    have j3 := j2.same s3
    generalize upd H2 t (.tup [V.int k0, V.int f0]) = H3 at s3 c3 j3 ⊢
    clear c1 c2 s3 ht j2 j1
    refine ⟨_, rfl, _, _, rfl, rfl, _, rfl, by omega, by omega, fun D hD => ?_⟩
    refine lc_range (lo := 0) (n := (k0 + 2).toNat) (fun i H' => Same H3 H' ∧ ∃ ps : List Int, H' D = some (.lst (ps.map V.int)) ∧ ps.length = i ∧ ∀ c ∈ ps, 1 ≤ c ∧ c ≤ 999) ⟨same_new hD, [], upd_same, rfl, fun c hc => nomatch hc⟩ (fun i H' hi h => ?_) (fun H' h => ?_)
    · obtain ⟨s4, ps, e4, l4, h4⟩ := h
      have go : ∀ v : Int, 1 ≤ v → v ≤ 999 → ∃ acc, H' D = some (.lst acc) ∧ acc.length < sizeLine ∧ Same H3 (upd H' D (.lst (acc ++ [V.int v]))) ∧ ∃ ps : List Int, upd H' D (.lst (acc ++ [V.int v])) D = some (.lst (ps.map V.int)) ∧ ps.length = i + 1 ∧ ∀ c ∈ ps, 1 ≤ c ∧ c ≤ 999 := fun v v1 v2 => by
        refine ⟨_, e4, Nat.lt_of_lt_of_le (show (ps.map V.int).length < 100 by rw [List.length_map]; omega) (sl_le (by decide)), fun b o eb => ?_, ps ++ [v], by rw [upd_same, List.map_append]; rfl, by rw [List.length_append, l4]; rfl, fun c hc => ?_⟩
        · rw [upd_ne (ne_of_none eb hD)]
          exact s4 _ _ eb
        · rcases List.mem_append.mp hc with h | h
          · exact h4 c h
          · rw [List.mem_singleton.mp h]
            exact ⟨v1, v2⟩
      refine ⟨rfl, yesI ⟨_, rfl, _, _, rfl, rfl, _, rfl, ?_⟩⟩
      by_cases hf : f0 < 4
      · exact ifT (decide_eq_true hf) ⟨_, rfl, _, _, rfl, rfl, go _ (by omega) (by omega)⟩
      · refine ifF (decide_eq_false hf) ?_
        exact ⟨_, rfl, _, _, rfl, rfl, .inl (by omega), _, rfl, _, _, rfl, rfl, .inl (by omega), _, _, rfl, rfl, _, _, rfl, rfl, go _ (by omega) (by omega)⟩
    obtain ⟨s4, ps, e4, l4, h4⟩ := h
    have hD0 := none_chg c3 j3 hD
    have nD := j3.ne hD
    have c4 := c3.trans (.of s4)
    have j4 := j3.same s4
    clear s4 c3 j3 hD
    refine ⟨Nat.zero_le _, fun sp hsp dn hdn dc hdc => ?_⟩
    have s5 := same_new (o := .lst []) hsp
    have e5 : upd H' sp (.lst []) sp = some (.lst (([] : List Int).map V.int)) := upd_same
    have hsp0 := none_chg c4 j4 hsp
    have nsp := j4.ne hsp
    have nDs : D ≠ sp := ne_of_none e4 hsp
    have e4' := s5 _ _ e4
    have c5 := c4.trans (.of s5)
    have j5 := j4.same s5
    generalize upd H' sp (.lst []) = H5 at s5 e5 e4' c5 j5 hdn hdc ⊢
    have s6 := same_new (o := .dK []) hdn
    have e6 : upd H5 dn (.dK []) dn = some (.dK (kN [])) := upd_same
    have hdn0 := none_chg c5 j5 hdn
    have ndn := j5.ne hdn
    have c6 := c5.trans (.of s6)
    have j6 := j5.same s6
    have e45 := s6 _ _ e4'
    have e55 := s6 _ _ e5
    generalize upd H5 dn (.dK []) = H6 at s6 e6 c6 j6 e45 e55 hdc ⊢
    have s7 := same_new (o := .dK []) hdc
    have e7 : upd H6 dc (.dK []) dc = some (.dK (kC [])) := upd_same
    have hdc0 := none_chg c6 j6 hdc
    have ndc := j6.ne hdc
    have ncn : dn ≠ dc := ne_of_none e6 hdc
    have c7 := c6.trans (.of s7)
    have j7 := j6.same s7
    have e46 := s7 _ _ e45
    have e56 := s7 _ _ e55
    have e66 := s7 _ _ e6
    generalize upd H6 dc (.dK []) = H7 at s7 e7 c7 j7 e46 e56 e66 ⊢
    clear s5 s6 s7 c4 c5 c6 j4 j5 j6 e4 e4' e45 e5 e55 e6 hsp hdn hdc
    have nl : ∀ {b d : Addr} {H' : Hp} {L : List V} {kv : List (Key × V)}, H' b = some (.lst L) → H' d = some (.dK kv) → b ≠ d := fun e1 e2 z => by rw [z, e2] at e1; cases e1
    refine ⟨_, _, _, rfl, _, rfl, k0, rfl, by omega, by omega, ?_⟩
    refine for_range (lo := 0) (n := k0.toNat) (fun i σ H' => Chg j H H' ∧ JugAt H' j ∧ ∃ (pool spots : List Int) (x9 x10 x11 x12 : Option V), σ = [some (.ref j), some (.str z), some (.int lim), some (.int k0), some (.int f0), some (.ref D), some (.ref sp), some (.ref dn), some (.ref dc), x9, x10, x11, x12] ∧ H' D = some (.lst (pool.map V.int)) ∧ H' sp = some (.lst (spots.map V.int)) ∧ H' dn = some (.dK (kN [])) ∧ H' dc = some (.dK (kC [])) ∧ pool.length + i = (k0 + 2).toNat ∧ spots.length = i ∧ In9 pool ∧ In9 spots)
      ⟨c7, j7, ps, [], _, _, _, _, rfl, e46, e56, e66, e7, by omega, rfl, h4, fun _ h => nomatch h⟩ ?_ ?_
    · rintro i σ H8 hi ⟨c8, j8, pool, spots, x9, x10, x11, x12, rfl, eD, es, en, ec, lp, ls, rp, rs⟩
      refine ⟨_, rfl, .inl ⟨rfl, _, .inl (.inl es)⟩, _, rfl, .inl ⟨rfl, _, .inl (.inl eD)⟩, _, rfl, _, rfl, D, _, rfl, .inl (.inl (.inl eD)), j, _, rfl, j8, by rw [List.length_map]; omega, by rw [List.length_map]; omega, fun H9 k9 c9 j9 k91 k92 => ?_⟩
      rw [List.length_map] at k92
      have kl : k9.toNat < pool.length := by omega
      refine ⟨D, _, k9, k9.toNat, .int pool[k9.toNat], rfl, rfl, c9 _ _ eD nD, by omega, by omega, StrLaws.seqIndex_nonneg k91 (by rw [List.length_map]; exact k92), by rw [List.getElem?_map, List.getElem?_eq_getElem kl]; rfl, ?_⟩
      rw [K36.map_erase]
      have es9 := c9 _ _ es nsp
      have es10 : upd H9 D (.lst ((pool.eraseIdx k9.toNat).map V.int)) sp = some (.lst (spots.map V.int)) := by rw [upd_ne nDs.symm]; exact es9
      refine ⟨sp, _, _, rfl, rfl, es10, Nat.lt_of_lt_of_le (show (spots.map V.int).length < 100 by rw [List.length_map]; omega) (sl_le (by decide)), ?_⟩
      have kp : ∀ {b : Addr} {kv : List (Key × V)}, H8 b = some (.dK kv) → b ≠ j → upd (upd H9 D (.lst ((pool.eraseIdx k9.toNat).map V.int))) sp (.lst (spots.map V.int ++ [V.int pool[k9.toNat]])) b = some (.dK kv) := fun e n => by
        have e9 := c9 _ _ e n
        rw [upd_ne (nl es9 e9).symm, upd_ne (nl (c9 _ _ eD nD) e9).symm]
        exact e9
      refine ⟨chg_new (chg_new (c8.trans c9) hD0) hsp0, jug_upd nsp (jug_upd nD j9), pool.eraseIdx k9.toNat, spots ++ [pool[k9.toNat]], _, _, _, _, rfl, by rw [upd_ne nDs, upd_same], by rw [upd_same, List.map_append]; rfl, kp en ndn, kp ec ndc, ?_, by rw [List.length_append, ls]; rfl, fun c hc => rp c (List.mem_of_mem_eraseIdx hc), fun c hc => ?_⟩
      · rw [List.length_eraseIdx_of_lt kl]
        omega
      · rcases List.mem_append.mp hc with h | h
        · exact rs c h
        · rw [List.mem_singleton.mp h]
          exact rp _ (List.getElem_mem kl)
    rintro σ H8 ⟨c8, j8, pool, spots, x9, x10, x11, x12, rfl, eD, es, en, ec, lp, ls, rp, rs⟩
    obtain ⟨p0, p1, pr, rfl⟩ : ∃ p0 p1 pr, pool = p0 :: p1 :: pr := by
      match pool, lp with
      | [], h => have : (0 : Nat) + k0.toNat = _ := h; omega
      | [_], h => have : (1 : Nat) + k0.toNat = _ := h; omega
      | a :: b :: r, _ => exact ⟨a, b, r, rfl⟩
    have r0 := rp p0 (.head _)
    have r1 := rp p1 (.tail _ (.head _))
    refine ⟨_, rfl, k0, rfl, by omega, by omega, ?_⟩
    refine for_range (lo := 0) (n := k0.toNat) (fun i σ H' => Chg j H H' ∧ JugAt H' j ∧ H' D = some (.lst ((p0 :: p1 :: pr).map V.int)) ∧ H' sp = some (.lst (spots.map V.int)) ∧ H' dn = some (.dK (kN [])) ∧ ∃ (cs : List (Int × Int)) (x9 x10 x11 x12 : Option V), σ = [some (.ref j), some (.str z), some (.int lim), some (.int k0), some (.int f0), some (.ref D), some (.ref sp), some (.ref dn), some (.ref dc), x9, x10, x11, x12] ∧ H' dc = some (.dK (kC cs)) ∧ (cs.map (·.1)).Nodup ∧ cs.length ≤ i ∧ ∀ p ∈ cs, 1 ≤ p.1 ∧ p.1 ≤ 999 ∧ 0 ≤ p.2 ∧ p.2 ≤ 999)
      ⟨c8, j8, eD, es, en, [], _, _, _, _, rfl, ec, List.nodup_nil, Nat.le_refl _, fun _ h => nomatch h⟩ ?_ ?_
    · rintro i σ H9 hi ⟨c9, j9, eD, es, en, cs, x9, x10, x11, x12, rfl, ec, nd, cl, cr⟩
      have il : i < spots.length := by omega
      have ri := rs _ (List.getElem_mem il)
      refine seq_post (fun σ' H' => H' = H9 ∧ ∃ v : Int, 0 ≤ v ∧ v ≤ 999 ∧ σ' = [some (.ref j), some (.str z), some (.int lim), some (.int k0), some (.int f0), some (.ref D), some (.ref sp), some (.ref dn), some (.ref dc), x9, some (.int (0 + (i : Int))), some (.int v), x12]) (fun R hR => ?_) ?_
      · refine ⟨_, rfl, _, _, rfl, rfl, _, rfl, _, _, rfl, rfl, _, rfl, ?_⟩
        by_cases hk : (0 + (i : Int)) + 1 < k0
        · have il2 : i + 1 < spots.length := by omega
          have r2 := rs _ (List.getElem_mem il2)
          exact ifT (decide_eq_true hk) ⟨_, rfl, _, rfl, _, _, rfl, rfl, sp, _, _, .int spots[i + 1], rfl, rfl, .inl (.inl es), by rw [show (0 + (i : Int)) + 1 = ((i + 1 : Nat) : Int) by omega]; exact at_map il2, hR _ _ ⟨rfl, _, by omega, by omega, rfl⟩⟩
        · exact ifF (decide_eq_false hk) (hR _ _ ⟨rfl, 0, by omega, by omega, rfl⟩)
      rintro _ H9 ⟨rfl, nv, nv0, nv9, rfl⟩
      unfold sDPut
      refine te_post (fun v H' => ∃ i : Int, v = .int i ∧ 0 ≤ i ∧ i ≤ 999 ∧ Chg j H9 H' ∧ JugAt H' j) (fun R' hR' => ?_) ?_
      · refine ⟨_, rfl, j, _, rfl, j9, by decide, by decide, fun Ha t ca ja t0 t1 => ⟨_, _, rfl, rfl, _, rfl, ?_⟩⟩
        by_cases ht : 0 < t
        · exact ifT (decide_eq_true ht) ⟨_, rfl, hR' _ _ ⟨nv, rfl, nv0, nv9, ca, ja⟩⟩
        · refine ifF (decide_eq_false ht) ?_
          have eDa := ca _ _ eD nD
          have esa := ca _ _ es nsp
          refine ⟨_, rfl, _, rfl, _, rfl, D, _, 0, _, rfl, rfl, .inl (.inl eDa), at_first, _, rfl, D, _, 1, _, rfl, rfl, .inl (.inl eDa), at_snd, sl_le (by show 4 ≤ 1000000; decide), fun b hb => ?_⟩
          have tb := same_new (o := .lst [V.int 0, V.int 0, V.int p0, V.int p1]) hb
          refine ⟨sp, b, _, _, rfl, rfl, tb _ _ esa, upd_same, sl_le (by rw [List.length_map]; show spots.length + 4 ≤ _; omega), fun b2 hb2 => ?_⟩
          have e3 : spots.map V.int ++ [V.int 0, V.int 0, V.int p0, V.int p1] = (spots ++ [0, 0, p0, p1]).map V.int := by simp
          rw [e3]
          have tb2 := same_new (o := .lst ((spots ++ [0, 0, p0, p1]).map V.int)) hb2
          have jb := ja.same tb
          refine ⟨j, .ref b2, _, rfl, jb.same tb2, .inl ⟨b2, rfl, jb.ne hb2, .inl (.inl upd_same)⟩, by simp, by simp; omega, fun Hb x cb jb' hx => ?_⟩
          obtain ⟨v, rfl, hv⟩ := ints_mem hx
          refine hR' _ _ ⟨v, rfl, ?_, ?_, ca.trans (((Chg.of tb).trans (.of tb2)).trans cb), jb'⟩
          all_goals
            simp only [List.mem_append, List.mem_cons, List.not_mem_nil, or_false] at hv
            rcases hv with h | rfl | rfl | rfl | rfl
            · have := rs v h
              omega
            · omega
            · omega
            · omega
            · omega
      rintro _ Ha ⟨v, rfl, v0, v9, ca, ja⟩
      have eDa := ca _ _ eD nD
      have esa := ca _ _ es nsp
      have eca := ca _ _ ec ndc
      have ena := ca _ _ en ndn
      refine ⟨_, rfl, _, rfl, _, rfl, sp, _, _, .int spots[i], rfl, rfl, .inl (.inl esa), by rw [Int.zero_add]; exact at_map il, dc, _, rfl, DPut.k (k := (Sum.inl spots[i] : Key)) eca ?_, ?_⟩
      · rw [kC_len]
        exact Nat.lt_of_lt_of_le (show _ < 100 by omega) (sl_le (by decide))
      rw [putK_kC]
      refine ⟨chg_new (c9.trans ca) hdc0, jug_upd ndc ja, by rw [upd_ne (nl eDa eca)]; exact eDa, by rw [upd_ne (nl esa eca)]; exact esa, by rw [upd_ne ncn]; exact ena, putc cs spots[i] v, _, _, _, _, rfl, upd_same, putc_nd _ v nd, ?_, fun p hp => ?_⟩
      · have := putc_len cs spots[i] v
        omega
      · rcases putc_mem hp with h | rfl
        · exact cr p h
        · exact ⟨ri.1, ri.2, v0, v9⟩
    rintro σ H9 ⟨c9, j9, eD, es, en, cs, x9, x10, x11, x12, rfl, ec, nd, cl, cr⟩
    rw [← ls] at cl
    refine ⟨_, rfl, z, rfl, ?_⟩
    refine for_it (n := z.cps.size) (fun i σ H' => Chg j H H' ∧ JugAt H' j ∧ H' D = some (.lst ((p0 :: p1 :: pr).map V.int)) ∧ H' sp = some (.lst (spots.map V.int)) ∧ H' dc = some (.dK (kC cs)) ∧ ∃ (ns : List (Nat × Int)) (x9 x10 x11 x12 : Option V), σ = [some (.ref j), some (.str z), some (.int lim), some (.int k0), some (.int f0), some (.ref D), some (.ref sp), some (.ref dn), some (.ref dc), x9, x10, x11, x12] ∧ H' dn = some (.dK (kN ns)) ∧ ns.map (·.1) = (TL.tl z).take i ∧ ∀ p ∈ ns, 0 ≤ p.2 ∧ p.2 ≤ 999)
      ⟨c9, j9, eD, es, ec, [], _, _, _, _, rfl, en, by simp, fun _ h => nomatch h⟩ (fun i σ H' hi _ => hi) (fun σ H' _ => Nat.le_refl _) ?_ ?_
    · rintro i x σ Hz Ha hi ⟨ca, ja, eD, es, ec, ns, x9, x10, x11, x12, rfl, en, hf, nr⟩ yl
      obtain ⟨rfl, c, hc, rfl⟩ := yl
      have hc2 : (TL.tl z)[i]? = some c := by show z.cps.toList[i]? = _; rw [Array.getElem?_toList]; exact hc
      have cn : c ∉ ns.map (·.1) := fun h => by
        rw [hf] at h
        have nd : ((TL.tl z).take (i + 1)).Nodup := (za.imp fun h => Nat.ne_of_lt h).sublist (List.take_sublist _ _)
        rw [List.take_add_one, hc2] at nd
        exact (List.nodup_append.mp nd).2.2 c h c (by simp) rfl
      have zl : (TL.tl z).length = z.length := (TL.len_tl z).symm
      have nsl : ns.length ≤ 4 := by
        have : ns.length = ((TL.tl z).take i).length := by rw [← hf, List.length_map]
        rw [List.length_take] at this
        omega
      unfold sDPut
      refine te_post (te := tCal (p_pick K) _) (fun v H' => ∃ i : Int, v = .int i ∧ 0 ≤ i ∧ i ≤ 999 ∧ Chg j Ha H' ∧ JugAt H' j) (fun R' hR' => ?_) ?_
      · refine ⟨_, rfl, _, rfl, _, rfl, sp, sp, _, _, rfl, rfl, es, es, sl_le (by rw [List.length_map]; omega), fun b0 hb0 => ?_⟩
        have t0 := same_new (o := .lst (spots.map V.int ++ spots.map V.int)) hb0
        have u0 : upd Ha b0 (.lst (spots.map V.int ++ spots.map V.int)) b0 = some (.lst (spots.map V.int ++ spots.map V.int)) := upd_same
        have jb0 := ja.same t0
        generalize upd Ha b0 (.lst (spots.map V.int ++ spots.map V.int)) = H0 at t0 u0 jb0 ⊢
        have eD0 := t0 _ _ eD
        refine ⟨_, rfl, D, _, 0, _, rfl, rfl, .inl (.inl eD0), at_first, _, rfl, D, _, 1, _, rfl, rfl, .inl (.inl eD0), at_snd, sl_le (by show 3 ≤ 1000000; decide), fun b hb => ?_⟩
        have tb := same_new (o := .lst [V.int 0, V.int p0, V.int p1]) hb
        refine ⟨b0, b, _, _, rfl, rfl, tb _ _ u0, upd_same, sl_le (by rw [List.length_append, List.length_map]; show _ + 3 ≤ _; omega), fun b2 hb2 => ?_⟩
        have e3 : spots.map V.int ++ spots.map V.int ++ [V.int 0, V.int p0, V.int p1] = (spots ++ spots ++ [0, p0, p1]).map V.int := by simp
        rw [e3]
        have tb2 := same_new (o := .lst ((spots ++ spots ++ [0, p0, p1]).map V.int)) hb2
        have jb := jb0.same tb
        refine ⟨j, .ref b2, _, rfl, jb.same tb2, .inl ⟨b2, rfl, jb.ne hb2, .inl (.inl upd_same)⟩, by simp, by simp; omega, fun Hc x cb jb' hx => ?_⟩
        obtain ⟨v, rfl, hv⟩ := ints_mem hx
        refine hR' _ _ ⟨v, rfl, ?_, ?_, (((Chg.of t0).trans (.of tb)).trans (.of tb2)).trans cb, jb'⟩
        all_goals
          simp only [List.mem_append, List.mem_cons, List.not_mem_nil, or_false] at hv
          rcases hv with (h | h) | rfl | rfl | rfl
          · have := rs v h
            omega
          · have := rs v h
            omega
          · omega
          · omega
          · omega
      rintro _ Hc ⟨v, rfl, v0, v9, cc, jc⟩
      have eDc := cc _ _ eD nD
      have esc := cc _ _ es nsp
      have ecc := cc _ _ ec ndc
      have enc := cc _ _ en ndn
      refine ⟨_, rfl, _, rfl, dn, _, rfl, DPut.k (k := (Sum.inr (ch c) : Key)) enc ?_, ?_⟩
      · rw [kN_len]
        exact Nat.lt_of_lt_of_le (show _ < 100 by omega) (sl_le (by decide))
      rw [putK_kN cn]
      refine ⟨chg_new (ca.trans cc) hdn0, jug_upd ndn jc, by rw [upd_ne (nl eDc enc)]; exact eDc, by rw [upd_ne (nl esc enc)]; exact esc, by rw [upd_ne ncn.symm]; exact ecc, ns ++ [(c, v)], _, _, _, _, rfl, upd_same, ?_, fun p hp => ?_⟩
      · rw [List.map_append, hf, List.take_add_one, hc2]
        rfl
      · rcases List.mem_append.mp hp with h | h
        · exact nr p h
        · rw [List.mem_singleton.mp h]
          exact ⟨v0, v9⟩
    rintro σ Ha ⟨ca, ja, eD, es, ec, ns, x9, x10, x11, x12, rfl, en, hf, nr⟩
    have zs : z.cps.size = (TL.tl z).length := by show _ = z.cps.toList.length; simp
    rw [zs, List.take_length] at hf
    have zl : (TL.tl z).length = z.length := (TL.len_tl z).symm
    have nlen : ns.length = z.length := by rw [← zl, ← hf, List.length_map]
    refine ⟨_, rfl, _, rfl, sl_le (show 2 ≤ 1000000 by decide), fun r hr => ?_⟩
    have t3 := same_new (o := .lst [V.ref dn, .ref dc]) hr
    exact k _ r ns cs (ca.trans (.of t3)) (ja.same t3) (none_chg ca ja hr) ⟨dn, dc, upd_same, t3 _ _ en, t3 _ _ ec⟩ ⟨by omega, by omega, fun p hp => hz _ (hf ▸ List.mem_map_of_mem hp), nr, by rw [hf]; exact za⟩ ⟨by omega, cr, nd⟩ hf
end
end K1
namespace K1
open PySem PySem.Spec L2 Z K36 K34 K35 K38 K6 K40 CwR
section
variable {P : Program} {w : World} {K : PySem.W.Frag} {mg : Str → Option Value} {base : Heap} {C CT CN CU CA : Addr}
theorem ok_is_tuple_of (T : Txt K mg C CT CN CU CA)  : Pr P w K mg base "is_tuple_of" s_is_tuple_of 1 ["value", "many"] (sp_is_tuple_of K) := by
  obtain ⟨f, fd, F, gl, bd⟩ := T.d_is_tuple_of
  refine ⟨f, fd, F, gl, bd, F.ok sc_is_tuple_of (fun vs H Q E h => ?_) (fun cdv A outer s H vs Q E hr h => ?_)⟩
  · obtain ⟨a, xs, rfl, _⟩ := h
    rfl
  · obtain ⟨a, xs, rfl, h, k⟩ := h
    have hu := hu_of hr
    refine ⟨_, (pss_one (ps_ret (pe_and (pe_callB call_isi (by rfl) T.b_isinstance (by decide +kernel) (pa_cons (pv 0) (pa_cons (pe_bty "tuple" (by rfl) T.b_tuple (by decide +kernel)) pa_nil))) (pe_one (pe_cmpR op_eq (pe_callB call_len_seq (by rfl) T.b_len (by decide +kernel) (pa_cons (pv 0) pa_nil)) (pv 1) (nomark _)))))), ?_⟩
    refine ⟨_, rfl, _, _, _, _, _, rfl, .ty _, SqT.ty h, kit_ty (r := true) (by decide +kernel), _, rfl, ?_⟩
    refine iteT ⟨_, rfl, a, xs, rfl, .inr h, _, rfl, rfl, ?_⟩
    have e : decide (V.int (xs.length : Int) = V.int (xs.length : Int)) = true := decide_eq_true rfl
    rw [e]
    exact k
end
end K1
namespace K1
open PySem PySem.Spec L2 Z K36 K34 K35 K38 K6 K40 CwR
section
variable {P : Program} {w : World} {K : PySem.W.Frag} {mg : Str → Option Value} {base : Heap} {C CT CN CU CA : Addr}
theorem ok_is_number (T : Txt K mg C CT CN CU CA)  : Pr P w K mg base "is_number" s_is_number 1 ["value"] sp_is_number := by
  obtain ⟨f, fd, F, gl, bd⟩ := T.d_is_number
  refine ⟨f, fd, F, gl, bd, F.ok sc_is_number (fun vs H Q E h => ?_) (fun cdv A outer s H vs Q E hr h => ?_)⟩
  · obtain ⟨i, rfl, _⟩ := h
    rfl
  · obtain ⟨i, rfl, k⟩ := h
    have hu := hu_of hr
    refine ⟨_, (pss_one (ps_ret (pe_and (pe_callB call_isi (by rfl) T.b_isinstance (by decide +kernel) (pa_cons (pv 0) (pa_cons (pe_bty "int" (by rfl) T.b_int (by decide +kernel)) pa_nil))) (pe_one (pe_not (pe_callB call_isi (by rfl) T.b_isinstance (by decide +kernel) (pa_cons (pv 0) (pa_cons (pe_bty "bool" (by rfl) T.b_bool (by decide +kernel)) pa_nil)))))))), ?_⟩
    refine ⟨_, rfl, _, _, _, _, _, rfl, .ty _, .base (.int i), kit_ty (r := true) (by decide +kernel), _, rfl, ?_⟩
    refine iteT ?_
    exact ⟨_, rfl, _, _, _, _, _, rfl, .ty _, .base (.int i), kit_ty (r := false) (by decide +kernel), _, rfl, k⟩
end
end K1
namespace K1
open PySem PySem.Spec L2 Z K36 K34 K35 K38 K6 K40 CwR
section
variable {P : Program} {w : World} {K : PySem.W.Frag} {mg : Str → Option Value} {base : Heap} {C CT CN CU CA : Addr}
theorem ok_is_whole (T : Txt K mg C CT CN CU CA) (G_is_number : Pr P w K mg base "is_number" s_is_number 1 ["value"] sp_is_number) : Pr P w K mg base "is_whole" s_is_whole 2 ["value", "low", "high"] sp_is_whole := by
  obtain ⟨f, fd, F, gl, bd⟩ := T.d_is_whole
  refine ⟨f, fd, F, gl, bd, F.ok sc_is_whole (fun vs H Q E h => ?_) (fun cdv A outer s H vs Q E hr h => ?_)⟩
  · obtain ⟨i, lo, hi, rfl, _⟩ := h
    rfl
  · obtain ⟨i, lo, hi, rfl, h1, h2, k⟩ := h
    have hu := hu_of hr
    refine ⟨_, (pss_one (ps_ret (pe_and (pcall G_is_number (hr.mono (by decide)) (pa_cons (pv 0) pa_nil)) (pe_one (pe_chain op_le op_le (pv 1) (pv 0) (pv 2)))))), ?_⟩
    refine ⟨_, rfl, _, rfl, _, rfl, iteT ?_⟩
    refine ⟨_, rfl, _, rfl, _, _, rfl, rfl, _, rfl, ?_⟩
    rw [decide_eq_true h1]
    refine iteT ⟨_, rfl, _, _, rfl, rfl, ?_⟩
    show Q (.bl (decide (i ≤ hi))) H
    rw [decide_eq_true h2]
    exact k
end
end K1
namespace K1
open PySem PySem.Spec L2 Z K36 K34 K35 K38 K6 K40 CwR
section
variable {P : Program} {w : World} {K : PySem.W.Frag} {mg : Str → Option Value} {base : Heap} {C CT CN CU CA : Addr}
theorem ok_is_place (T : Txt K mg C CT CN CU CA) (G_is_whole : Pr P w K mg base "is_whole" s_is_whole 2 ["value", "low", "high"] sp_is_whole) : Pr P w K mg base "is_place" s_is_place 3 ["value"] sp_is_place := by
  obtain ⟨f, fd, F, gl, bd⟩ := T.d_is_place
  refine ⟨f, fd, F, gl, bd, F.ok sc_is_place (fun vs H Q E h => ?_) (fun cdv A outer s H vs Q E hr h => ?_)⟩
  · obtain ⟨i, rfl, _⟩ := h
    rfl
  · obtain ⟨i, rfl, h1, h2, k⟩ := h
    have hu := hu_of hr
    refine ⟨_, (pss_one (ps_ret (pcall G_is_whole (hr.mono (by decide)) (pa_cons (pv 0) (pa_cons (pe_globI rfl T.c_END) (pa_cons (pe_globI rfl T.c_LAST_PLACE) pa_nil)))))), ?_⟩
    exact ⟨_, rfl, i, 0, 999, rfl, h1, h2, k⟩
end
end K1
namespace K1
open PySem PySem.Spec L2 Z K36 K34 K35 K38 K6 K40 CwR
section
variable {P : Program} {w : World} {K : PySem.W.Frag} {mg : Str → Option Value} {base : Heap} {C CT CN CU CA : Addr}
theorem ok_wrong_cell (T : Txt K mg C CT CN CU CA) (G_is_tuple_of : Pr P w K mg base "is_tuple_of" s_is_tuple_of 1 ["value", "many"] (sp_is_tuple_of K)) (G_is_place : Pr P w K mg base "is_place" s_is_place 3 ["value"] sp_is_place) : Pr P w K mg base "_wrong_cell" s_wrong_cell 4 ["cells"] (sp_wrong_cell K) := by
  obtain ⟨f, fd, F, gl, bd⟩ := T.d__wrong_cell
  refine ⟨f, fd, F, gl, bd, F.ok sc_wrong_cell (fun vs H Q E h => ?_) (fun cdv A outer s H vs Q E hr h => ?_)⟩
  · obtain ⟨v, cs, rfl, _⟩ := h
    rfl
  · obtain ⟨v, cs, rfl, ⟨a, rs, rfl, ht, hp⟩, ok, k⟩ := h
    have hu := hu_of hr
    refine ⟨_, (pss_cons (ps_set (i := 1) sc_wrong_cell.nd rfl (Or.inl rfl) (pe_globI rfl T.c_END))
      (pss_cons (ps_for PassesOwn.never rfl (pi_enumT rfl T.b_enumerate (pa_cons (pv 0) pa_nil)) (pg_tup rfl (pgs_cons (pg_name (i := 2) sc_wrong_cell.nd rfl (Or.inl rfl)) (pgs_cons (pg_name (i := 3) sc_wrong_cell.nd rfl (Or.inl rfl)) pgs_nil)))
      (pss_cons (ps_if (PW.pt (pw_or (pt_cmpR op_ge (pv 2) (pe_globI rfl T.c_MOST_CELLS) (nomark _)) (pw_or (pt_not (pt_val (pcall G_is_tuple_of (hr.mono (by decide)) (pa_cons (pv 3) (pa_cons pe_int pa_nil))))) (pw_or (pt_not (pt_val (pcall G_is_place (hr.mono (by decide)) (pa_cons (pe_ix ix_tup (pv 3) pe_int (fun _ _ => rfl)) pa_nil)))) (pw_or1 (pt_not (pt_val (pcall G_is_place (hr.mono (by decide)) (pa_cons (pe_ix ix_tup (pv 3) pe_int (fun _ _ => rfl)) pa_nil))))))))) (pss_one (ps_ret (pv 2))) pss_nil)
      (pss_cons (ps_if (pt_cmpR op_le (pe_ix ix_tup (pv 3) pe_int (fun _ _ => rfl)) (pv 1) (nomark _)) (pss_one (ps_ret (pv 2))) pss_nil)
      (pss_one (ps_set (i := 1) sc_wrong_cell.nd rfl (Or.inl rfl) (pe_ix ix_tup (pv 3) pe_int (fun _ _ => rfl)))))))
      (pss_one (ps_ret pe_non)))), ?_⟩
    have o4 := ok.few
    refine ⟨_, rfl, a, _, rfl, ht.sq, ?_⟩
    refine for_enumP (fun i σ H' => Same H H' ∧ ∃ b : Int, ∃ x y, σ = [some (.ref a), some (.int b), x, y] ∧ ∀ p, cs[i]? = some p → b < p.1) ⟨fun b o e => e, _, _, _, rfl, fun p e => (ok.pl p (List.mem_of_getElem? e)).1⟩ ht hp ?_ ?_ ?_
    · rintro i σ H' ⟨s, _⟩
      exact s
    · rintro i b p σ H' t eb ep hq ⟨sm, z, x0, y0, rfl, hlt⟩ hn
      obtain ⟨q, eq, rfl⟩ := map_at ep
      have hm := List.mem_of_getElem? eq
      obtain ⟨p1, p2, p3, p4⟩ := ok.pl q hm
      have hi : i < cs.length := (List.getElem?_eq_some_iff.mp eq).1
      have sm2 : Same H (upd H' t (.tup [.int (i : Nat), .ref b])) := sm.trans (same_new hn)
      have hq2 : SqT K (upd H' t (.tup [.int (i : Nat), .ref b])) b [(cV q).1, (cV q).2] := SqT.imm (.of (same_new hn)) hq
      refine ⟨t, _, rfl, .inl (.inl upd_same), rfl, _, _, rfl, _, _, rfl, rfl, ?_⟩
      refine ⟨_, rfl, _, _, rfl, rfl, false, congrArg V.bl (decide_eq_false (by omega)), iteF ?_⟩
      refine ⟨_, rfl, b, _, rfl, hq2, _, rfl, iteF ?_⟩
      refine ⟨_, rfl, b, _, 0, _, rfl, rfl, hq2, at_first, q.1, rfl, by omega, p2, _, rfl, iteF ?_⟩
      refine ⟨_, rfl, b, _, 1, _, rfl, rfl, hq2, at_snd, q.2, rfl, p3, p4, _, rfl, iteF ?_⟩
      have hz := hlt q eq
      refine ⟨_, rfl, b, _, 0, _, rfl, rfl, hq2, at_first, _, rfl, _, _, rfl, rfl, false, congrArg V.bl (decide_eq_false (by omega)), iteF ?_⟩
      exact ⟨_, rfl, b, _, 0, _, rfl, rfl, hq2, at_first, sm2, _, _, _, rfl, fun p hp => asc_atI ok.asc eq hp⟩
    · rintro σ H' ⟨s, _⟩
      exact k _ s
end
end K1
namespace K1
open PySem PySem.Spec L2 Z K36 K34 K35 K38 K6 K40 CwR
section
variable {P : Program} {w : World} {K : PySem.W.Frag} {mg : Str → Option Value} {base : Heap} {C CT CN CU CA : Addr}
theorem ok_store_text (T : Txt K mg C CT CN CU CA)  : Pr P w K mg base "_store_text" s_store_text 1 ["names", "cells"] (sp_store_text K) := by
  obtain ⟨f, fd, F, gl, bd⟩ := T.d__store_text
  refine ⟨f, fd, F, gl, bd, F.ok sc_store_text (fun vs H Q E h => ?_) (fun cdv A outer s H vs Q E hr h => ?_)⟩
  · obtain ⟨v, u, ns, cs, rfl, _⟩ := h
    rfl
  · obtain ⟨v, u, ns, cs, rfl, ⟨a, rs, rfl, ht, hp⟩, ⟨b, qs, rfl, ht2, hp2⟩, ok, ck, k⟩ := h
    have hu := hu_of hr
    refine ⟨_, (pss_cons (ps_set (i := 2) sc_store_text.nd rfl (Or.inl rfl) (pe_join pe_str (pe_lc (own := [("letter", 4), ("place", 5)]) (g := gTup K 2 (gCons (gName 4) (gCons (gName 5) gNil))) (tt := tYes) rfl sc_store_text.nd (pi_tup (pv 0)) (blkOk_by (own := [("letter", 4), ("place", 5)]) (N := N_store_text) (sc := defScope s_store_text) (by decide +kernel)) (fun _ _ _ _ _ => (pg_tup rfl (pgs_cons (pg_name (i := 4) sc_store_text.nd rfl (Or.inl rfl)) (pgs_cons (pg_name (i := 5) sc_store_text.nd rfl (Or.inl rfl)) pgs_nil)))) (fun _ _ _ _ _ => pts_nil) (fun _ _ _ _ _ => (pe_joined (PJ.cons (pe_fmt (pv 4)) (PJ.cons pe_str (PJ.cons (pe_fmt (pv 5)) PJ.nil))))))))
      (pss_cons (ps_set (i := 3) sc_store_text.nd rfl (Or.inl rfl) (pe_join pe_str (pe_lc (own := [("place", 5), ("to", 6)]) (g := gTup K 2 (gCons (gName 5) (gCons (gName 6) gNil))) (tt := tYes) rfl sc_store_text.nd (pi_tup (pv 1)) (blkOk_by (own := [("place", 5), ("to", 6)]) (N := N_store_text) (sc := defScope s_store_text) (by decide +kernel)) (fun _ _ _ _ _ => (pg_tup rfl (pgs_cons (pg_name (i := 5) sc_store_text.nd rfl (Or.inl rfl)) (pgs_cons (pg_name (i := 6) sc_store_text.nd rfl (Or.inl rfl)) pgs_nil)))) (fun _ _ _ _ _ => pts_nil) (fun _ _ _ _ _ => (pe_joined (PJ.cons (pe_fmt (pv 5)) (PJ.cons pe_str (PJ.cons (pe_fmt (pv 6)) PJ.nil))))))))
      (pss_one (ps_ret (pe_joined (PJ.cons (pe_fmt (pv 2)) (PJ.cons pe_str (PJ.cons (pe_fmt (pe_orT (pv 3) (pe_one pe_str))) PJ.nil)))))))), ?_⟩
    have o4 := ok.four
    have c4 := ck.few
    refine ⟨⟨_, rfl⟩, ?_⟩
    refine lcP nV (fun p => V.str (nameW p)) rfl ht hp (by omega) (fun b p H1 R sm hq hm hR => ?_) (fun H1 D sm hD hl => ?_)
    · obtain ⟨p1, p2⟩ := ok.pl p hm
      refine ⟨b, _, rfl, hq, rfl, _, _, rfl, _, _, rfl, rfl, rfl, ?_⟩
      refine ⟨_, rfl, .inl ⟨_, rfl, sl_le (by rw [ch_len]; decide), _, rfl, sl_le (by rw [emp_app, ch_len]; decide), _, rfl, sl_le (by rw [len_app, emp_app, ch_len, eq1_len]; decide), _, rfl, .inr ⟨p.2, rfl, num_log p1 p2, _, rfl, ?_, ?_⟩⟩⟩
      · have := nameW_len p1 p2
        rw [← nameW_eq] at this
        exact sl_le (Nat.le_trans this (by decide))
      · rw [← nameW_eq] at hR
        exact hR
    have sum1 := sum_len (k := 5) (ys := ns.map nameW) (fun y hy => by
      obtain ⟨p, hp, rfl⟩ := List.mem_map.mp hy
      exact nameW_len (ok.pl p hp).1 (ok.pl p hp).2)
    rw [List.length_map] at sum1
    refine ⟨_, _, ns.map nameW, rfl, rfl, .inl (.inl (.inl (by rw [List.map_map]; exact hl))), ?_, ?_⟩
    · rw [List.length_map, sp1_len]
      omega
    refine ⟨⟨_, rfl⟩, ?_⟩
    refine lcP cV (fun p => V.str (cellW p)) rfl (PT.same sm ht2) (Paired.imm (.of sm) hp2) (by omega) (fun b p H3 R sm hq hm hR => ?_) (fun H2 D2 sm2 hD2 hl2 => ?_)
    · obtain ⟨p1, p2, p3, p4⟩ := ck.pl p hm
      have p0 : 0 ≤ p.1 := by omega
      have n1 := num_len p0 p2
      refine ⟨b, _, rfl, hq, rfl, _, _, rfl, _, _, rfl, rfl, rfl, ?_⟩
      refine ⟨_, rfl, .inr ⟨p.1, rfl, num_log p0 p2, _, rfl, sl_le (by rw [emp_app]; exact Nat.le_trans n1 (by decide)), _, rfl, sl_le (by rw [len_app, emp_app, gt1_len]; exact Nat.le_trans (Nat.add_le_add_right n1 1) (by decide)), _, rfl, .inr ⟨p.2, rfl, num_log p3 p4, _, rfl, ?_, ?_⟩⟩⟩
      · have := cellW_len p0 p2 p3 p4
        rw [← cellW_eq] at this
        exact sl_le (Nat.le_trans this (by decide))
      · rw [← cellW_eq] at hR
        exact hR
    have sum2 := sum_len (k := 7) (ys := cs.map cellW) (cs_le ck)
    rw [List.length_map] at sum2
    refine ⟨_, _, cs.map cellW, rfl, rfl, .inl (.inl (.inl (by rw [List.map_map]; exact hl2))), ?_, ?_⟩
    · rw [List.length_map, sp1_len]
      omega
    have L1 := nTxt_len ok
    have L2 := cTxt_len ck
    refine ⟨_, rfl, .inl ⟨_, rfl, sl_le (Nat.le_trans L1 (by decide)), _, rfl, sl_le (by rw [emp_app]; exact Nat.le_trans L1 (by decide)), _, rfl, sl_le (by rw [len_app, emp_app, bar_len]; exact Nat.le_trans (Nat.add_le_add_right L1 3) (by decide)), ?_⟩⟩
    have fin : stTxt ns cs = Str.empty ++ nTxt ns ++ Str.ofString " | " ++ cTxt cs := by rw [emp_app]; rfl
    have kk := k H2 (sm.trans sm2)
    rw [fin] at kk
    have L3 : (Str.empty ++ nTxt ns ++ Str.ofString " | " ++ cTxt cs).length ≤ sizeLine := sl_le (by rw [emp_app, len_app, len_app, bar_len]; omega)
    by_cases hc : cs = []
    · have e : Txt.join (Str.ofString " ") (cs.map cellW) = Str.empty := by rw [hc]; exact glue_nil
      have e2 : cTxt cs = Str.ofString "none" := if_pos hc
      rw [e2] at kk L3
      refine ⟨_, rfl, false, ?_, iteF ?_⟩
      · rw [e]
        exact ⟨Nat.zero_le _, rfl⟩
      · exact .inl ⟨_, rfl, by rw [none_len]; exact sl_le (by decide), _, rfl, L3, kk⟩
    · have e2 : cTxt cs = Txt.join (Str.ofString " ") (cs.map cellW) := if_neg hc
      have e3 := cells_pos hc
      rw [e2] at kk L3 L2
      refine ⟨_, rfl, true, ⟨sl_le (Nat.le_trans L2 (by decide)), ?_⟩, iteT ?_⟩
      · have : ((Txt.join (Str.ofString " ") (cs.map cellW)).length : Int) ≠ 0 := by
          unfold sp1 at e3
          omega
        exact (bne_iff_ne.mpr this).symm
      · exact .inl ⟨_, rfl, sl_le (Nat.le_trans L2 (by decide)), _, rfl, L3, kk⟩
end
end K1
namespace K1
open PySem PySem.Spec L2 Z K36 K34 K35 K38 K6 K40 CwR
section
variable {P : Program} {w : World} {K : PySem.W.Frag} {mg : Str → Option Value} {base : Heap} {C CT CN CU CA : Addr}
theorem ok_take (T : Txt K mg C CT CN CU CA) (G__store_text : Pr P w K mg base "_store_text" s_store_text 1 ["names", "cells"] (sp_store_text K)) : PrM P w K mg base C "take" "Store.take" s_take 2 ["self", "names", "cells"] (sp_take K C) := by
  obtain ⟨f, fd, F, gl, bd⟩ := T.d_take
  refine ⟨f, fd, F, gl, bd, F.ok sc_take (fun vs H Q E h => ?_) (fun cdv A outer s H vs Q E hr h => ?_)⟩
  · obtain ⟨x, dx, v, u, ns, cs, rfl, _⟩ := h
    rfl
  · obtain ⟨x, dx, v, u, ns, cs, rfl, hx, hv, hu1, ok, ck, k⟩ := h
    have hu := hu_of hr
    refine ⟨_, (pss_cons (ps_fld (pv 0) (pv 1) rfl)
      (pss_cons (ps_fld (pv 0) (pv 2) rfl)
      (pss_cons (ps_fld (pv 0) (pe_join pe_str (pe_lc (own := [("letter", 3), ("_", 4)]) (g := gTup K 2 (gCons (gName 3) (gCons (gName 4) gNil))) (tt := tYes) rfl sc_take.nd (pi_tup (pv 1)) (blkOk_by (own := [("letter", 3), ("_", 4)]) (N := N_take) (sc := defScope s_take) (by decide +kernel)) (fun _ _ _ _ _ => (pg_tup rfl (pgs_cons (pg_name (i := 3) sc_take.nd rfl (Or.inl rfl)) (pgs_cons (pg_name (i := 4) sc_take.nd rfl (Or.inl rfl)) pgs_nil)))) (fun _ _ _ _ _ => pts_nil) (fun _ _ _ _ _ => (pv 3)))) rfl)
      (pss_cons (ps_fld (pv 0) (pcall G__store_text (hr.mono (by decide)) (pa_cons (pv 1) (pa_cons (pv 2) pa_nil))) rfl)
      (pss_cons (ps_fld (pv 0) (pe_callTy (call_dictT rfl) (by rfl) T.b_dict (by decide +kernel) (pa_cons (pv 1) pa_nil)) rfl)
      (pss_cons (ps_fld (pv 0) (pe_callTy (call_dictT rfl) (by rfl) T.b_dict (by decide +kernel) (pa_cons (pv 2) pa_nil)) rfl)
      (pss_one (ps_fld (pv 0) (pe_dc (own := [("_", 4), ("place", 5)]) (g := gTup K 2 (gCons (gName 4) (gCons (gName 5) gNil))) (tt := tYes) rfl sc_take.nd (pi_tup (pe_op op_catP (pv 1) (pv 2))) (blkOk_by (own := [("_", 4), ("place", 5)]) (N := N_take) (sc := defScope s_take) (by decide +kernel)) (fun _ _ _ _ _ => (pg_tup rfl (pgs_cons (pg_name (i := 4) sc_take.nd rfl (Or.inl rfl)) (pgs_cons (pg_name (i := 5) sc_take.nd rfl (Or.inl rfl)) pgs_nil)))) (fun _ _ _ _ _ => pts_nil) (fun _ _ _ _ _ => (pv 5)) (fun _ _ _ _ _ => pe_bl)) rfl)))))))), ?_⟩
    obtain ⟨a, rs, rfl, ht, hp⟩ := hv
    obtain ⟨b, qs, rfl, ht2, hp2⟩ := hu1
    have o4 := ok.four
    have c4 := ck.few
    refine ⟨_, rfl, _, rfl, x, C, dx, _, rfl, hx, T.cl, T.n_names, of_decide_eq_true rfl, ?_⟩
    refine ⟨_, rfl, _, rfl, x, C, dx, _, rfl, upd_same, T.cl, T.n_cells, of_decide_eq_true rfl, ?_⟩
    generalize e3 : upd (upd H x _) x _ = H3
    have c3 : Chg x H H3 := by
      subst e3
      exact Chg.upd.trans Chg.upd
    have x3 : H3 x = some (.ins C dx [("names", .ref a), ("cells", .ref b)]) := by
      subst e3
      exact upd_same
    clear e3
    have i3 : Imm H H3 := c3.imm hx trivial
    refine ⟨⟨_, rfl⟩, ?_⟩
    refine lcP nV (fun p => V.str (ch p.1)) rfl (PT.imm i3 ht) (Paired.imm i3 hp) (by omega) (fun b p H4 R sm hq hm hR => ?_) (fun H4 D4 s4 hD4 hl4 => ?_)
    · exact ⟨b, _, rfl, hq, rfl, _, _, rfl, _, _, rfl, rfl, rfl, _, rfl, hR⟩
    have l4 : (List.map (fun x => x.length) (ns.map fun p => ch p.1)).sum ≤ 1 * (ns.map fun p => ch p.1).length := sum_len fun y hy => by
      obtain ⟨p, hp, rfl⟩ := List.mem_map.mp hy
      exact Nat.le_refl _
    rw [List.length_map] at l4
    refine ⟨_, _, ns.map fun p => ch p.1, rfl, rfl, .inl (.inl (.inl (by rw [List.map_map]; exact hl4))), ?_, ?_⟩
    · rw [List.length_map]
      have e : (Str.ofString "").length = 0 := by decide +kernel
      rw [e]
      omega
    refine ⟨_, rfl, x, C, dx, _, rfl, s4 _ _ x3, T.cl, T.n_letters, of_decide_eq_true rfl, ?_⟩
    generalize e5 : upd H4 x _ = H5
    have c5 : Chg x H H5 := by
      subst e5
      exact c3.trans ((Chg.of s4).trans Chg.upd)
    have x5 : H5 x = some (.ins C dx [("names", .ref a), ("cells", .ref b), ("letters", .str (lTxt ns))]) := by
      subst e5
      exact upd_same
    clear e5
    have i5 : Imm H H5 := c5.imm hx trivial
    refine ⟨_, rfl, _, rfl, .ref a, .ref b, ns, cs, rfl, ⟨a, rs, rfl, PT.imm i5 ht, Paired.imm i5 hp⟩, ⟨b, qs, rfl, PT.imm i5 ht2, Paired.imm i5 hp2⟩, ok, ck, fun H6 s6 => ?_⟩
    refine ⟨_, rfl, x, C, dx, _, rfl, s6 _ _ x5, T.cl, T.n_text, of_decide_eq_true rfl, ?_⟩
    generalize e7 : upd H6 x _ = H7
    have c7 : Chg x H H7 := by
      subst e7
      exact c5.trans ((Chg.of s6).trans Chg.upd)
    have x7 : H7 x = some (.ins C dx [("names", .ref a), ("cells", .ref b), ("letters", .str (lTxt ns)), ("text", .str (stTxt ns cs))]) := by
      subst e7
      exact upd_same
    clear e7
    have i7 : Imm H H7 := c7.imm hx trivial
    refine ⟨_, rfl, a, rs, kN ns, rfl, PT.imm i7 ht, pair_n (Paired.imm i7 hp), fun pd hpd => ?_⟩
    rw [merge_n ok]
    have n7 : pd ≠ x := fun z => by rw [z, x7] at hpd; cases hpd
    refine ⟨_, rfl, x, C, dx, _, rfl, by rw [upd_ne (Ne.symm n7)]; exact x7, T.cl, T.n_places, of_decide_eq_true rfl, ?_⟩
    generalize e8 : upd (upd H7 pd _) x _ = H8
    have c8 : Chg x H H8 := by
      subst e8
      exact c7.trans ((Chg.of (same_new hpd)).trans Chg.upd)
    have x8 : H8 x = some (.ins C dx [("names", .ref a), ("cells", .ref b), ("letters", .str (lTxt ns)), ("text", .str (stTxt ns cs)), ("places", .ref pd)]) := by
      subst e8
      exact upd_same
    have p8 : H8 pd = some (.dK (kN ns)) := by
      subst e8
      rw [upd_ne n7]
      exact upd_same
    clear e8
    have i8 : Imm H H8 := c8.imm hx trivial
    refine ⟨_, rfl, b, qs, kC cs, rfl, PT.imm i8 ht2, pair_c (Paired.imm i8 hp2), fun ad had => ?_⟩
    rw [merge_c ck]
    have n8 : ad ≠ x := fun z => by rw [z, x8] at had; cases had
    have n9 : ad ≠ pd := fun z => by rw [z, p8] at had; cases had
    refine ⟨_, rfl, x, C, dx, _, rfl, by rw [upd_ne (Ne.symm n8)]; exact x8, T.cl, T.n_arrows, of_decide_eq_true rfl, ?_⟩
    generalize e9 : upd (upd H8 ad _) x _ = H9
    have c9 : Chg x H H9 := by
      subst e9
      exact c8.trans ((Chg.of (same_new had)).trans Chg.upd)
    have x9 : H9 x = some (.ins C dx [("names", .ref a), ("cells", .ref b), ("letters", .str (lTxt ns)), ("text", .str (stTxt ns cs)), ("places", .ref pd), ("arrows", .ref ad)]) := by
      subst e9
      exact upd_same
    have p9 : H9 pd = some (.dK (kN ns)) := by
      subst e9
      rw [upd_ne n7, upd_ne (Ne.symm n9)]
      exact p8
    have a9 : H9 ad = some (.dK (kC cs)) := by
      subst e9
      rw [upd_ne n8]
      exact upd_same
    clear e9
    have i9 : Imm H H9 := c9.imm hx trivial
    have pt := Paired.app (Paired.imm i9 hp) (Paired.imm i9 hp2)
    have ll : (ns.map nV ++ cs.map cV).map (·.2) = (goals ns cs).map V.int := by
      simp only [goals, List.map_append, List.map_map]
      rfl
    have l1 : rs.length = ns.length := by rw [Paired.len hp, List.length_map]
    have l2 : qs.length = cs.length := by rw [Paired.len hp2, List.length_map]
    dsimp only
    unfold sFld
    refine dcP (gs := goals ns cs) (fun R hR => ?_) pt ll (by simp; omega) (fun b p i H' R sm hq hR => ?_) (fun H' D kvs sm hD hk hv => ?_)
    · exact ⟨_, rfl, _, rfl, cat_pt (PT.imm i9 ht) (PT.imm i9 ht2) (by simp; omega) fun t H1 s1 h1 => hR t H1 s1 (by rw [List.map_append]; exact h1)⟩
    · exact ⟨b, _, rfl, hq, rfl, _, _, rfl, _, _, rfl, rfl, rfl, _, rfl, hR⟩
    refine ⟨_, rfl, x, C, dx, _, rfl, sm _ _ x9, T.cl, T.n_led_to, of_decide_eq_true rfl, ?_⟩
    have nD : D ≠ x := fun z => by rw [z, x9] at hD; cases hD
    have nP : pd ≠ x := n7
    generalize eA : upd H' x _ = HA
    have cA : Chg x H HA := by
      subst eA
      exact c9.trans ((Chg.of sm).trans Chg.upd)
    have iA : Imm H HA := cA.imm hx trivial
    refine k HA ⟨.ref a, .ref b, dx, pd, ad, D, kvs, ?_, ⟨a, rs, rfl, PT.imm iA ht, Paired.imm iA hp⟩, ⟨b, qs, rfl, PT.imm iA ht2, Paired.imm iA hp2⟩, ?_, ?_, ?_, hv, ok, ck⟩ cA
    · subst eA
      exact upd_same
    · subst eA
      rw [upd_ne n7]
      exact sm _ _ p9
    · subst eA
      rw [upd_ne n8]
      exact sm _ _ a9
    · subst eA
      rw [upd_ne nD]
      exact hk
end
end K1
namespace K1
open PySem PySem.Spec L2 Z K36 K34 K35 K38 K6 K40 CwR
section
variable {P : Program} {w : World} {K : PySem.W.Frag} {mg : Str → Option Value} {base : Heap} {C CT CN CU CA : Addr}
theorem ok_is_letter (T : Txt K mg C CT CN CU CA)  : Pr P w K mg base "is_letter" s_is_letter 1 ["value"] p_is_letter := by
  obtain ⟨f, fd, F, gl, bd⟩ := T.d_is_letter
  refine ⟨f, fd, F, gl, bd, F.ok sc_is_letter (fun vs H Q E h => ?_) (fun cdv A outer s H vs Q E hr h => ?_)⟩
  · obtain ⟨w, rfl, _⟩ := h
    rfl
  · obtain ⟨w, rfl, hz, k⟩ := h
    have hu := hu_of hr
    refine ⟨_, (pss_one (ps_ret (pe_and (pe_callB call_isi (by rfl) T.b_isinstance (by decide +kernel) (pa_cons (pv 0) (pa_cons (pe_bty "str" (by rfl) T.b_str (by decide +kernel)) pa_nil))) (pe_and (pe_cmpR op_eq (pe_callB call_len_str (by rfl) T.b_len (by decide +kernel) (pa_cons (pv 0) pa_nil)) pe_int (nomark _)) (pe_one (pe_cmpR op_in_sign (pv 0) (pe_globS rfl T.c_LETTERS) (by rfl))))))), ?_⟩
    refine ⟨_, rfl, _, _, _, _, _, rfl, .ty _, .base (.str _), kit_ty (r := true) (by decide +kernel), _, rfl, ?_⟩
    refine iteT ⟨_, rfl, _, rfl, sl_le (Nat.le_trans hz (by decide)), rfl, ?_⟩
    by_cases h : w.length = 1
    · obtain ⟨c, rfl⟩ := one_ch h
      rw [show decide (V.int ((ch c).length : Int) = V.int 1) = true from rfl]
      refine ⟨_, rfl, iteT ⟨_, rfl, c, _, rfl, rfl, ?_⟩⟩
      rw [letter_mem]
      exact k
    · rw [show decide (V.int (w.length : Int) = V.int 1) = false from decide_eq_false fun e => h (by have := V.int.inj e; omega)]
      refine ⟨_, rfl, iteF ?_⟩
      rw [let_no h] at k
      exact k
end
end K1
namespace K1
open PySem PySem.Spec L2 Z K36 K34 K35 K38 K6 K40 CwR
section
variable {P : Program} {w : World} {K : PySem.W.Frag} {mg : Str → Option Value} {base : Heap} {C CT CN CU CA : Addr}
theorem ok_are_store_names (T : Txt K mg C CT CN CU CA) (G_is_tuple_of : Pr P w K mg base "is_tuple_of" s_is_tuple_of 1 ["value", "many"] (sp_is_tuple_of K)) (G_is_letter : Pr P w K mg base "is_letter" s_is_letter 1 ["value"] p_is_letter) (G_is_place : Pr P w K mg base "is_place" s_is_place 3 ["value"] sp_is_place) : Pr P w K mg base "_are_store_names" s_are_store_names 4 ["value"] (sp_are_store_names K) := by
  obtain ⟨f, fd, F, gl, bd⟩ := T.d__are_store_names
  refine ⟨f, fd, F, gl, bd, F.ok sc_are_store_names (fun vs H Q E h => ?_) (fun cdv A outer s H vs Q E hr h => ?_)⟩
  · obtain ⟨v, ns, rfl, _⟩ := h
    rfl
  · obtain ⟨v, ns, rfl, ⟨a, rs, rfl, ht, hp⟩, ok, k⟩ := h
    have hu := hu_of hr
    refine ⟨_, (pss_cons (ps_if (PW.pt (pw_or (pt_not (pt_val (pe_callB call_isi (by rfl) T.b_isinstance (by decide +kernel) (pa_cons (pv 0) (pa_cons (pe_bty "tuple" (by rfl) T.b_tuple (by decide +kernel)) pa_nil))))) (pw_or1 (pt_not (pt_chain op_le op_le pe_int (pe_callB call_len_seq (by rfl) T.b_len (by decide +kernel) (pa_cons (pv 0) pa_nil)) (pe_globI rfl T.c_MOST_NAMES)))))) (pss_one (ps_ret pe_bl)) pss_nil)
      (pss_cons (ps_set (i := 1) sc_are_store_names.nd rfl (Or.inl rfl) pe_str)
      (pss_cons (ps_for PassesOwn.never rfl (pi_tup (pv 0)) (pg_name (i := 2) sc_are_store_names.nd rfl (Or.inl rfl))
      (pss_cons (ps_if (PW.pt (pw_or (pt_not (pt_val (pcall G_is_tuple_of (hr.mono (by decide)) (pa_cons (pv 2) (pa_cons pe_int pa_nil))))) (pw_or (pt_not (pt_val (pcall G_is_letter (hr.mono (by decide)) (pa_cons (pe_ix ix_tup (pv 2) pe_int (fun _ _ => rfl)) pa_nil)))) (pw_or (pt_not (pt_val (pcall G_is_place (hr.mono (by decide)) (pa_cons (pe_ix ix_tup (pv 2) pe_int (fun _ _ => rfl)) pa_nil)))) (pw_or1 (pt_cmpR op_le_str (pe_ix ix_tup (pv 2) pe_int (fun _ _ => rfl)) (pv 1) (nomark _))))))) (pss_one (ps_ret pe_bl)) pss_nil)
      (pss_one (ps_set (i := 1) sc_are_store_names.nd rfl (Or.inl rfl) (pe_ix ix_tup (pv 2) pe_int (fun _ _ => rfl))))))
      (pss_one (ps_ret pe_bl))))), ?_⟩
    have hT : SqT K H a (rs.map V.ref) := ht.sq
    have hl : rs.length = ns.length := by rw [Paired.len hp, List.length_map]
    have o1 := ok.one
    have o4 := ok.four
    refine ⟨_, rfl, _, _, _, _, _, rfl, .ty _, SqT.ty hT, kit_ty (r := true) (by decide +kernel), _, rfl, iteF ?_⟩
    refine ⟨_, rfl, _, _, rfl, .inr hT, 1, _, rfl, rfl, true, congrArg V.bl (decide_eq_true (by rw [List.length_map]; omega)), iteT ?_⟩
    refine ⟨_, _, rfl, rfl, true, congrArg V.bl (decide_eq_true (by rw [List.length_map]; omega)), iteF ?_⟩
    refine ⟨_, rfl, _, rfl, ⟨_, hT⟩, ?_⟩
    refine for_pairs (fun i σ H' => H' = H ∧ ∃ b x, σ = [some (.ref a), some (.str b), x] ∧ ∀ p, ns[i]? = some p → decide (b.cps.toList < (ch p.1).cps.toList) = true) ⟨rfl, _, _, rfl, fun p _ => lt_none⟩ ht hp ?_ ?_ ?_
    · rintro i σ H' ⟨rfl, _⟩
      exact Imm.refl _
    · rintro i b p σ H' eb ep hq ⟨rfl, z, x, rfl, hlt⟩
      obtain ⟨q, eq, rfl⟩ := map_at ep
      have hm := List.mem_of_getElem? eq
      obtain ⟨l1, l2⟩ := ok.let_ q hm
      obtain ⟨p1, p2⟩ := ok.pl q hm
      refine ⟨_, rfl, b, _, rfl, hq, _, rfl, iteF ?_⟩
      refine ⟨_, rfl, b, _, 0, _, rfl, rfl, hq, at_first, ch q.1, rfl, (show 1 ≤ 20000 by decide), _, rfl, ?_⟩
      rw [show isLet (ch q.1) = true by rw [ch_let, decide_eq_true l1, decide_eq_true l2]; rfl]
      refine iteF ?_
      refine ⟨_, rfl, b, _, 1, _, rfl, rfl, hq, at_snd, q.2, rfl, p1, p2, _, rfl, iteF ?_⟩
      refine ⟨_, rfl, b, _, 0, _, rfl, rfl, hq, at_first, _, rfl, _, _, rfl, rfl, false, congrArg V.bl (by rw [hlt q eq]; rfl), iteF ?_⟩
      refine ⟨_, rfl, b, _, 0, _, rfl, rfl, hq, at_first, ?_⟩
      exact ⟨rfl, _, _, rfl, fun p hp => lt_sign (asc_at ok.asc eq hp)⟩
    · rintro σ H' ⟨rfl, _⟩
      exact k
end
end K1
namespace K1
open PySem PySem.Spec L2 Z K36 K34 K35 K38 K6 K40 CwR
section
variable {P : Program} {w : World} {K : PySem.W.Frag} {mg : Str → Option Value} {base : Heap} {C CT CN CU CA : Addr}
theorem ok_init (T : Txt K mg C CT CN CU CA) (G__wrong_cell : Pr P w K mg base "_wrong_cell" s_wrong_cell 4 ["cells"] (sp_wrong_cell K)) (G_take : PrM P w K mg base C "take" "Store.take" s_take 2 ["self", "names", "cells"] (sp_take K C)) (G__are_store_names : Pr P w K mg base "_are_store_names" s_are_store_names 4 ["value"] (sp_are_store_names K)) : PrI P w K mg base C "Store.__init__" s_init 5 ["self", "names", "cells"] (sp_init K C) := by
  obtain ⟨f, fd, F, gl, bd⟩ := T.d_init
  refine ⟨f, fd, F, gl, bd, F.ok sc_init (fun vs H Q E h => ?_) (fun cdv A outer s H vs Q E hr h => ?_)⟩
  · obtain ⟨x, dx, v, u, ns, cs, rfl, _⟩ := h
    rfl
  · obtain ⟨x, dx, v, u, ns, cs, rfl, hx, hv, hu1, ok, ck, k⟩ := h
    have hu := hu_of hr
    refine ⟨_, (pss_cons (ps_if (pt_not (pt_val (pcall G__are_store_names (hr.mono (by decide)) (pa_cons (pv 1) pa_nil)))) (pss_one ps_never) pss_nil)
      (pss_cons (ps_if (pt_not (pt_val (pe_callB call_isi (by rfl) T.b_isinstance (by decide +kernel) (pa_cons (pv 2) (pa_cons (pe_bty "tuple" (by rfl) T.b_tuple (by decide +kernel)) pa_nil))))) (pss_one ps_never) pss_nil)
      (pss_cons (ps_set (i := 3) sc_init.nd rfl (Or.inl rfl) (pcall G__wrong_cell (hr.mono (by decide)) (pa_cons (pv 2) pa_nil)))
      (pss_cons (ps_if (pt_cmp (pc_notN (pv 3)) rfl) (pss_one ps_never) pss_nil)
      (pss_one (ps_expr (pmeth (pv 0) T.cl G_take (hr.mono (by decide)) (pa_cons (pv 1) (pa_cons (pv 2) pa_nil))))))))), ?_⟩
    obtain ⟨a, rs, rfl, ht, hp⟩ := hv
    obtain ⟨b, qs, rfl, ht2, hp2⟩ := hu1
    have o4 := ok.four
    have c4 := ck.few
    refine ⟨_, rfl, .ref a, ns, rfl, ⟨a, rs, rfl, ht, hp⟩, ok, _, rfl, iteF ?_⟩
    refine ⟨_, rfl, _, _, _, _, _, rfl, .ty _, SqT.ty ht2.sq, kit_ty (r := true) (by decide +kernel), _, rfl, iteF ?_⟩
    refine ⟨_, rfl, .ref b, cs, rfl, ⟨b, qs, rfl, ht2, hp2⟩, ck, fun H1 s1 => ?_⟩
    refine ⟨_, rfl, false, congrArg V.bl (by simp), iteF ?_⟩
    refine ⟨_, rfl, x, dx, _, rfl, s1 _ _ hx, rfl, _, rfl, _, rfl, x, dx, .ref a, .ref b, ns, cs, rfl, s1 _ _ hx, ⟨a, rs, rfl, PT.imm (.of s1) ht, Paired.imm (.of s1) hp⟩, ⟨b, qs, rfl, PT.imm (.of s1) ht2, Paired.imm (.of s1) hp2⟩, ok, ck, fun H2 st cg => k H2 st (fun c o e n => cg c o (s1 c o e) n)⟩
end
end K1
namespace K1
open PySem PySem.Spec L2 Z K36 K34 K35 K38 K6 K40 CwR
section
variable {P : Program} {w : World} {K : PySem.W.Frag} {mg : Str → Option Value} {base : Heap} {C CT CN CU CA : Addr}
theorem ok_law_store (T : Txt K mg C CT CN CU CA) (G_init : PrI P w K mg base C "Store.__init__" s_init 5 ["self", "names", "cells"] (sp_init K C)) : Pr P w K mg base "_law_store" s_law_store 7 ["_law_mine"] (q_made K C) := by
  obtain ⟨f, fd, F, gl, bd⟩ := T.d__law_store
  refine ⟨f, fd, F, gl, bd, F.ok sc_law_store (fun vs H Q E h => ?_) (fun cdv A outer s H vs Q E hr h => ?_)⟩
  · obtain ⟨s, ns, cs, rfl, _⟩ := h
    rfl
  · obtain ⟨s, ns, cs, rfl, ⟨d0, d1, h0, h1, h2⟩, ok, dok, k⟩ := h
    have hu := hu_of hr
    refine ⟨_, (pss_cons (ps_set (i := 1) sc_law_store.nd rfl (Or.inl rfl) (pe_callTy call_tupP (by rfl) T.b_tuple (by decide +kernel) (pa_cons (pe_lc (own := [("_law_sign", 2)]) (g := gName 2) (tt := tYes) rfl sc_law_store.nd (pi_list (pe_callB (cr_sortedDS rfl) (by rfl) T.b_sorted (by decide +kernel) (pa_cons (pe_ix ix_list (pv 0) pe_int (fun _ _ => rfl)) pa_nil))) (blkOk_by (own := [("_law_sign", 2)]) (N := N_law_store) (sc := defScope s_law_store) (by decide +kernel)) (fun _ _ _ _ _ => (pg_name (i := 2) sc_law_store.nd rfl (Or.inl rfl))) (fun _ _ _ _ _ => pts_nil) (fun _ _ _ _ _ => (pe_tup (pa_cons (pv 2) (pa_cons (pe_dget hu (pe_ix (ix_listK (K := K) rfl) (pv 0) pe_int (fun _ _ => rfl)) (pv 2) (fun _ _ => rfl)) pa_nil))))) pa_nil)))
      (pss_one (ps_ret (pmake G_init T.mgC (hr.mono (by decide)) (pa_cons (pv 1) (pa_cons (pe_callTy call_tupP (by rfl) T.b_tuple (by decide +kernel) (pa_cons (pe_lc (own := [("_law_spot", 3)]) (g := gName 3) (tt := tYes) rfl sc_law_store.nd (pi_list (pe_callB (call_sortedDI rfl) (by rfl) T.b_sorted (by decide +kernel) (pa_cons (pe_ix ix_list (pv 0) pe_int (fun _ _ => rfl)) pa_nil))) (blkOk_by (own := [("_law_spot", 3)]) (N := N_law_store) (sc := defScope s_law_store) (by decide +kernel)) (fun _ _ _ _ _ => (pg_name (i := 3) sc_law_store.nd rfl (Or.inl rfl))) (fun _ _ _ _ _ => pts_nil) (fun _ _ _ _ _ => (pe_tup (pa_cons (pv 3) (pa_cons (pe_dget hu (pe_ix (ix_listK (K := K) rfl) (pv 0) pe_int (fun _ _ => rfl)) (pv 3) (fun _ _ => rfl)) pa_nil))))) pa_nil)) pa_nil)))))), ?_⟩
    have ck := srt_ok dok
    have n4 := ok.four
    have c9 := dok.few
    have sl9 : (srt cs).length ≤ 9 := by rw [(srt_perm cs).length_eq]; exact c9
    unfold tAsg tSeq tCB tCons
    dsimp only
    refine lcN ns (fun p => V.str (ch p.1)) nV (by omega) (fun R hR => ?_) (fun p H' R hm sm q2 => ?_) (fun H1 D1 rs s1 hD1 hl1 hp1 => ?_)
    · refine ⟨_, rfl, s, _, 0, _, rfl, rfl, .inl (.inl h0), at_first, d0, kN ns, _, rfl, .inl h1, strs_of_keys ns, by rw [List.length_map]; omega, fun ys p hp hs hpn => ?_⟩
      rw [lets_sorted ok hp hs]
      exact hR p _ (same_new hpn) (.inl (.inl (by rw [upd_same, List.map_map]; rfl)))
    · have D : DGet H' d0 (.str (ch p.1)) (some (.int p.2)) := val_n ok hm ▸ DGet.k (k := (Sum.inr (ch p.1) : Key)) (sm _ _ h1)
      exact ⟨rfl, _, rfl, _, rfl, s, _, 0, _, rfl, rfl, .inl (.inl (sm _ _ h0)), at_first, _, rfl, d0, _, rfl, D, sl_le (show 2 ≤ 1000000 by decide), fun b hb => q2 _ b (same_new hb) upd_same⟩
    refine ⟨D1, _, rfl, .inl (.inl hl1), fun n o hn ho => ?_⟩
    have s2 := same_new (o := .frz o (.tup (rs.map V.ref))) hn
    have tn : TP K (upd H1 n (.frz o (.tup (rs.map V.ref)))) (.ref n) (ns.map nV) := ⟨n, rs, rfl, PT.new ho, Paired.imm (.of s2) hp1⟩
    generalize upd H1 n (.frz o (.tup (rs.map V.ref))) = H2 at s2 tn ⊢
    have s02 := s1.trans s2
    have h0a := s02 _ _ h0
    have h2a := s02 _ _ h2
    refine ⟨_, rfl, ?_⟩
    refine lcN (srt cs) (fun p => V.int p.1) cV (by omega) (fun R hR => ?_) (fun p H' R hm sm q2 => ?_) (fun H3 D2 qs s3 hD2 hl2 hp2 => ?_)
    · refine ⟨_, rfl, s, _, 1, _, rfl, rfl, .inl (.inl h0a), at_snd, d1, kC cs, _, rfl, .inl h2a, ints_of_keys cs, by rw [List.length_map]; omega, fun ys p hp hs hpn => ?_⟩
      rw [keys_sorted dok.nd hp hs]
      exact hR p _ (same_new hpn) (.inl (.inl (by rw [upd_same, List.map_map]; rfl)))
    · have pm := (srt_perm cs).mem_iff.mp hm
      have D : DGet H' d1 (.int p.1) (some (.int p.2)) := by
        have := val_c (List.mem_map_of_mem (f := (·.1)) pm)
        rw [val_of dok.nd pm] at this
        exact this ▸ DGet.k (k := (Sum.inl p.1 : Key)) (sm _ _ h2a)
      exact ⟨rfl, _, rfl, _, rfl, s, _, 1, _, rfl, rfl, .inl (.inl (sm _ _ h0a)), at_snd, _, rfl, d1, _, rfl, D, sl_le (show 2 ≤ 1000000 by decide), fun b hb => q2 _ b (same_new hb) upd_same⟩
    refine ⟨D2, _, rfl, .inl (.inl hl2), fun n2 o2 hn2 ho2 => ?_⟩
    have s4 := same_new (o := .frz o2 (.tup (qs.map V.ref))) hn2
    have tc : TP K (upd H3 n2 (.frz o2 (.tup (qs.map V.ref)))) (.ref n2) ((srt cs).map cV) := ⟨n2, qs, rfl, PT.new ho2, Paired.imm (.of s4) hp2⟩
    generalize upd H3 n2 (.frz o2 (.tup (qs.map V.ref))) = H4 at s4 tc ⊢
    have tn4 := TP.imm (.of (s3.trans s4)) tn
    intro x1 dx1 hx1 hdx1 hne1
    have q1 := same_raw (C := C) hx1 hdx1 hne1
    refine ⟨x1, dx1, _, _, ns, srt cs, rfl, upd_same, TP.imm (.of q1) tn4, TP.imm (.of q1) tc, ok, ck, fun H8 st8 cg8 => ⟨rfl, ?_⟩⟩
    have s8 := same_mk hx1 hdx1 hne1 cg8
    have s04 := s02.trans (s3.trans s4)
    exact k H8 x1 (s04.trans s8) (none_of s04 hx1) st8
end
end K1
namespace K1
open PySem PySem.Spec L2 Z K36 K34 K35 K38 K6 K40 CwR
section
variable {P : Program} {w : World} {K : PySem.W.Frag} {mg : Str → Option Value} {base : Heap} {C CT CN CU CA : Addr}
theorem ok_law_odd (T : Txt K mg C CT CN CU CA) (G__law_pick : Pr P w K mg base "_law_pick" s_law_pick 2 ["_law_well_here", "_law_some"] (p_pick K)) : Pr P w K mg base "_law_odd" s_law_odd 3 ["_law_well_here"] (b_odd K) := by
  obtain ⟨f, fd, F, gl, bd⟩ := T.d__law_odd
  refine ⟨f, fd, F, gl, bd, F.ok sc_law_odd (fun vs H Q E h => ?_) (fun cdv A outer s H vs Q E hr h => ?_)⟩
  · obtain ⟨j, rfl, _⟩ := h
    rfl
  · obtain ⟨j, rfl, hj, k⟩ := h
    have hu := hu_of hr
    refine ⟨_, (pss_one (ps_ret (pcall G__law_pick (hr.mono (by decide)) (pa_cons (pv 0) (pa_cons (pe_tup (pa_cons pe_non (pa_cons pe_bl (pa_cons pe_bl (pa_cons pe_int (pa_cons pe_int (pa_cons pe_str (pa_cons pe_str (pa_cons pe_str (pa_cons (pe_tupP pa_nil) (pa_cons (pe_tupP (pa_cons pe_str pa_nil)) (pa_cons (pe_tup (pa_cons pe_str (pa_cons pe_str (pa_cons pe_non pa_nil)))) (pa_cons (pe_lst pa_nil) (pa_cons (pe_lst (pa_cons pe_str pa_nil)) (pa_cons pe_dnewK (pa_cons (pe_tupP (pa_cons (pe_tupP pa_nil) pa_nil)) (pa_cons (pe_un un_neg pe_int) pa_nil))))))))))))))))) pa_nil))))), ?_⟩
    refine ⟨_, rfl, ?_⟩
    refine ⟨sl_le (by simp), fun a_t0 o_t0 n_t0 f_t0 => ?_⟩
    have s_t0 := same_new (o := HO.frz o_t0 (.tup ([] : List V))) n_t0
    have e_t0 : upd H a_t0 (.frz o_t0 (.tup [])) a_t0 = some (HO.frz o_t0 (.tup ([] : List V))) := upd_same
    have j_t0 : JugAt (upd H a_t0 (.frz o_t0 (.tup []))) j := hj.same s_t0
    generalize hH_t0 : upd H a_t0 (.frz o_t0 (.tup [])) = H_t0 at s_t0 e_t0 j_t0
    have s0_t0 : Same H H_t0 := s_t0
    refine ⟨sl_le (by simp), fun a_t1 o_t1 n_t1 f_t1 => ?_⟩
    have s_t1 := same_new (o := HO.frz o_t1 (.tup ([V.str (Str.ofString "copy")] : List V))) n_t1
    have e_t1 : upd H_t0 a_t1 (.frz o_t1 (.tup [V.str (Str.ofString "copy")])) a_t1 = some (HO.frz o_t1 (.tup ([V.str (Str.ofString "copy")] : List V))) := upd_same
    have j_t1 : JugAt (upd H_t0 a_t1 (.frz o_t1 (.tup [V.str (Str.ofString "copy")]))) j := j_t0.same s_t1
    generalize hH_t1 : upd H_t0 a_t1 (.frz o_t1 (.tup [V.str (Str.ofString "copy")])) = H_t1 at s_t1 e_t1 j_t1
    replace e_t0 := s_t1 _ _ e_t0
    have s0_t1 : Same H H_t1 := s0_t0.trans s_t1
    refine ⟨sl_le (by simp), fun a_t2 n_t2 => ?_⟩
    have s_t2 := same_new (o := HO.tup ([V.str (Str.ofString "copy"), V.str (Str.ofString "x"), V.non] : List V)) n_t2
    have e_t2 : upd H_t1 a_t2 (.tup [V.str (Str.ofString "copy"), V.str (Str.ofString "x"), V.non]) a_t2 = some (HO.tup ([V.str (Str.ofString "copy"), V.str (Str.ofString "x"), V.non] : List V)) := upd_same
    have j_t2 : JugAt (upd H_t1 a_t2 (.tup [V.str (Str.ofString "copy"), V.str (Str.ofString "x"), V.non])) j := j_t1.same s_t2
    generalize hH_t2 : upd H_t1 a_t2 (.tup [V.str (Str.ofString "copy"), V.str (Str.ofString "x"), V.non]) = H_t2 at s_t2 e_t2 j_t2
    replace e_t0 := s_t2 _ _ e_t0
    replace e_t1 := s_t2 _ _ e_t1
    have s0_t2 : Same H H_t2 := s0_t1.trans s_t2
    refine ⟨sl_le (by simp), fun a_l0 n_l0 => ?_⟩
    have s_l0 := same_new (o := HO.lst ([] : List V)) n_l0
    have e_l0 : upd H_t2 a_l0 (.lst []) a_l0 = some (HO.lst ([] : List V)) := upd_same
    have j_l0 : JugAt (upd H_t2 a_l0 (.lst [])) j := j_t2.same s_l0
    generalize hH_l0 : upd H_t2 a_l0 (.lst []) = H_l0 at s_l0 e_l0 j_l0
    replace e_t0 := s_l0 _ _ e_t0
    replace e_t1 := s_l0 _ _ e_t1
    replace e_t2 := s_l0 _ _ e_t2
    have s0_l0 : Same H H_l0 := s0_t2.trans s_l0
    refine ⟨sl_le (by simp), fun a_l1 n_l1 => ?_⟩
    have s_l1 := same_new (o := HO.lst ([V.str (Str.ofString "x = y")] : List V)) n_l1
    have e_l1 : upd H_l0 a_l1 (.lst [V.str (Str.ofString "x = y")]) a_l1 = some (HO.lst ([V.str (Str.ofString "x = y")] : List V)) := upd_same
    have j_l1 : JugAt (upd H_l0 a_l1 (.lst [V.str (Str.ofString "x = y")])) j := j_l0.same s_l1
    generalize hH_l1 : upd H_l0 a_l1 (.lst [V.str (Str.ofString "x = y")]) = H_l1 at s_l1 e_l1 j_l1
    replace e_t0 := s_l1 _ _ e_t0
    replace e_t1 := s_l1 _ _ e_t1
    replace e_t2 := s_l1 _ _ e_t2
    replace e_l0 := s_l1 _ _ e_l0
    have s0_l1 : Same H H_l1 := s0_l0.trans s_l1
    refine fun a_d0 n_d0 => ?_
    have s_d0 := same_new (o := HO.dK []) n_d0
    have e_d0 : upd H_l1 a_d0 (.dK []) a_d0 = some (HO.dK []) := upd_same
    have j_d0 : JugAt (upd H_l1 a_d0 (.dK [])) j := j_l1.same s_d0
    generalize hH_d0 : upd H_l1 a_d0 (.dK []) = H_d0 at s_d0 e_d0 j_d0
    replace e_t0 := s_d0 _ _ e_t0
    replace e_t1 := s_d0 _ _ e_t1
    replace e_t2 := s_d0 _ _ e_t2
    replace e_l0 := s_d0 _ _ e_l0
    replace e_l1 := s_d0 _ _ e_l1
    have s0_d0 : Same H H_d0 := s0_l1.trans s_d0
    refine ⟨sl_le (by simp), fun a_t3 o_t3 n_t3 f_t3 => ?_⟩
    have s_t3 := same_new (o := HO.frz o_t3 (.tup ([] : List V))) n_t3
    have e_t3 : upd H_d0 a_t3 (.frz o_t3 (.tup [])) a_t3 = some (HO.frz o_t3 (.tup ([] : List V))) := upd_same
    have j_t3 : JugAt (upd H_d0 a_t3 (.frz o_t3 (.tup []))) j := j_d0.same s_t3
    generalize hH_t3 : upd H_d0 a_t3 (.frz o_t3 (.tup [])) = H_t3 at s_t3 e_t3 j_t3
    replace e_t0 := s_t3 _ _ e_t0
    replace e_t1 := s_t3 _ _ e_t1
    replace e_t2 := s_t3 _ _ e_t2
    replace e_l0 := s_t3 _ _ e_l0
    replace e_l1 := s_t3 _ _ e_l1
    replace e_d0 := s_t3 _ _ e_d0
    have s0_t3 : Same H H_t3 := s0_d0.trans s_t3
    refine ⟨sl_le (by simp), fun a_t4 o_t4 n_t4 f_t4 => ?_⟩
    have s_t4 := same_new (o := HO.frz o_t4 (.tup ([V.ref a_t3] : List V))) n_t4
    have e_t4 : upd H_t3 a_t4 (.frz o_t4 (.tup [V.ref a_t3])) a_t4 = some (HO.frz o_t4 (.tup ([V.ref a_t3] : List V))) := upd_same
    have j_t4 : JugAt (upd H_t3 a_t4 (.frz o_t4 (.tup [V.ref a_t3]))) j := j_t3.same s_t4
    generalize hH_t4 : upd H_t3 a_t4 (.frz o_t4 (.tup [V.ref a_t3])) = H_t4 at s_t4 e_t4 j_t4
    replace e_t0 := s_t4 _ _ e_t0
    replace e_t1 := s_t4 _ _ e_t1
    replace e_t2 := s_t4 _ _ e_t2
    replace e_l0 := s_t4 _ _ e_l0
    replace e_l1 := s_t4 _ _ e_l1
    replace e_d0 := s_t4 _ _ e_d0
    replace e_t3 := s_t4 _ _ e_t3
    have s0_t4 : Same H H_t4 := s0_t3.trans s_t4
    refine ⟨1, rfl, sl_le (by simp), fun t ht => ?_⟩
    have sT := same_new (o := .tup [V.non, V.bl true, V.bl false, V.int 0, V.int 3, V.str (Str.ofString ""), V.str (Str.ofString "X"), V.str (Str.ofString "xy"), V.ref a_t0, V.ref a_t1, V.ref a_t2, V.ref a_l0, V.ref a_l1, V.ref a_d0, V.ref a_t4, V.int (-1)]) ht
    refine ⟨j, .ref t, [V.non, V.bl true, V.bl false, V.int 0, V.int 3, V.str (Str.ofString ""), V.str (Str.ofString "X"), V.str (Str.ofString "xy"), V.ref a_t0, V.ref a_t1, V.ref a_t2, V.ref a_l0, V.ref a_l1, V.ref a_d0, V.ref a_t4, V.int (-1)], rfl, JugAt.same sT j_t4, .inr (.inl ⟨t, rfl, .inl (.inl upd_same)⟩), List.cons_ne_nil _ _, by show 16 ≤ 1000; decide, fun H' x c j' hx => ?_⟩
    refine k H' _ ((Chg.of s0_t4).trans ((Chg.of sT).trans c)) j' (fun H9 c9 => ?_)
    have im : Imm H_t4 H9 := (Imm.of sT).trans ((chg_imm c (JugAt.same sT j_t4)).trans (chg_imm c9 j'))
    have cg : Chg j H_t4 H9 := (Chg.of sT).trans (c.trans c9)
    have nl : a_l0 ≠ j := fun z => by
      obtain ⟨g, s, c, q, _, _⟩ := j_t4
      rw [z, q] at e_l0
      cases e_l0
    have nl1 : a_l1 ≠ j := fun z => by
      obtain ⟨g, s, c, q, _, _⟩ := j_t4
      rw [z, q] at e_l1
      cases e_l1
    have nd : a_d0 ≠ j := fun z => by
      obtain ⟨g, s, c, q, _, _⟩ := j_t4
      rw [z, q] at e_d0
      cases e_d0
    have g_t0 := im.2 _ _ _ e_t0
    have g_t1 := im.2 _ _ _ e_t1
    have g_t2 := im.1 _ _ e_t2
    have g_t3 := im.2 _ _ _ e_t3
    have g_t4 := im.2 _ _ _ e_t4
    have g_l0 := cg _ _ e_l0 nl
    have g_l1 := cg _ _ e_l1 nl1
    have g_d0 := cg _ _ e_d0 nd
    have sh : ∀ {d : PyData}, d.hasDict = false → (d.showable && decide (d.depth ≤ 60) && decide (d.shown.length ≤ 1000)) = true → (∀ H2, Same H9 H2 → Dp K H2 x d) → Shown K H9 x := fun nd h k => by
      simp only [Bool.and_eq_true, decide_eq_true_eq] at h
      exact ⟨_, ⟨h.1.1, h.1.2, Nat.le_trans h.2 (by decide)⟩, fun H2 s => .of (k H2 s) nd⟩
    simp only [List.mem_cons, List.not_mem_nil, or_false] at hx
    rcases hx with rfl | rfl | rfl | rfl | rfl | rfl | rfl | rfl | rfl | rfl | rfl | rfl | rfl | rfl | rfl | rfl
    · exact ⟨(.inr (.inl rfl)), (sh rfl (by decide +kernel) fun _ _ => .non)⟩
    · exact ⟨(.inr (.inr (.inl ⟨_, rfl⟩))), (sh rfl (by decide +kernel) fun _ _ => .bl _)⟩
    · exact ⟨(.inr (.inr (.inl ⟨_, rfl⟩))), (sh rfl (by decide +kernel) fun _ _ => .bl _)⟩
    · exact ⟨(.inr (.inr (.inr (.inl ⟨_, rfl⟩)))), (sh rfl (by decide +kernel) fun _ _ => .int _)⟩
    · exact ⟨(.inr (.inr (.inr (.inl ⟨_, rfl⟩)))), (sh rfl (by decide +kernel) fun _ _ => .int _)⟩
    · exact ⟨(.inl ⟨_, rfl, txB_ok (by decide +kernel), Option.isNone_iff_eq_none.mp (by decide +kernel)⟩), (sh rfl (by decide +kernel) fun _ _ => .str _)⟩
    · exact ⟨(.inl ⟨_, rfl, txB_ok (by decide +kernel), Option.isNone_iff_eq_none.mp (by decide +kernel)⟩), (sh rfl (by decide +kernel) fun _ _ => .str _)⟩
    · exact ⟨(.inl ⟨_, rfl, txB_ok (by decide +kernel), Option.isNone_iff_eq_none.mp (by decide +kernel)⟩), (sh rfl (by decide +kernel) fun _ _ => .str _)⟩
    · exact ⟨(.inr (.inr (.inr (.inr (.inl ⟨_, _, rfl, .inl (.inr ⟨_, g_t0⟩)⟩))))), (sh (d := .tuple []) rfl (by decide +kernel) fun _ s => .tup (.inl (.inr ⟨_, s _ _ g_t0⟩)) .nil)⟩
    · exact ⟨(.inr (.inr (.inr (.inr (.inl ⟨_, _, rfl, .inl (.inr ⟨_, g_t1⟩)⟩))))), (sh (d := .tuple [.str (Str.ofString "copy")]) rfl (by decide +kernel) fun _ s => .tup (.inl (.inr ⟨_, s _ _ g_t1⟩)) (.cons (.str _) .nil))⟩
    · exact ⟨(.inr (.inr (.inr (.inr (.inl ⟨_, _, rfl, .inl (.inl g_t2)⟩))))), (sh (d := .tuple [.str (Str.ofString "copy"), .str (Str.ofString "x"), .none]) rfl (by decide +kernel) fun _ s => .tup (.inl (.inl (s _ _ g_t2))) (.cons (.str _) (.cons (.str _) (.cons .non .nil))))⟩
    · exact ⟨(.inr (.inr (.inr (.inr (.inr (.inl ⟨_, _, rfl, g_l0⟩)))))), (sh (d := .list []) rfl (by decide +kernel) fun _ s => .lst (.inl (.inl (s _ _ g_l0))) .nil)⟩
    · exact ⟨(.inr (.inr (.inr (.inr (.inr (.inl ⟨_, _, rfl, g_l1⟩)))))), (sh (d := .list [.str (Str.ofString "x = y")]) rfl (by decide +kernel) fun _ s => .lst (.inl (.inl (s _ _ g_l1))) (.cons (.str _) .nil))⟩
    · exact ⟨(.inr (.inr (.inr (.inr (.inr (.inr ⟨_, _, rfl, g_d0⟩)))))), ⟨.dict [], ⟨by decide +kernel, by decide +kernel, by decide +kernel⟩, fun _ s => .emp (s _ _ g_d0)⟩⟩
    · exact ⟨(.inr (.inr (.inr (.inr (.inl ⟨_, _, rfl, .inl (.inr ⟨_, g_t4⟩)⟩))))), (sh (d := .tuple [.tuple []]) rfl (by decide +kernel) fun _ s => .tup (.inl (.inr ⟨_, s _ _ g_t4⟩)) (.cons (.tup (.inl (.inr ⟨_, s _ _ g_t3⟩)) .nil) .nil))⟩
    · exact ⟨(.inr (.inr (.inr (.inl ⟨_, rfl⟩)))), (sh rfl (by decide +kernel) fun _ _ => .int _)⟩
end
end K1
namespace K1
open PySem PySem.Spec L2 Z K36 K34 K35 K38 K6 K40 CwR
section
variable {P : Program} {w : World} {K : PySem.W.Frag} {mg : Str → Option Value} {base : Heap} {C CT CN CU CA : Addr}
theorem ok_law_quiz (T : Txt K mg C CT CN CU CA) (G__law_take : Pr P w K mg base "_law_take" s_law_take 1 ["_law_well_here", "_law_limit"] sp_law_take) (G__law_pick : Pr P w K mg base "_law_pick" s_law_pick 2 ["_law_well_here", "_law_some"] (p_pick K)) : Pr P w K mg base "_law_quiz" s_law_quiz 3 ["_law_well_here", "_law_signs"] (p_quiz K) := by
  obtain ⟨f, fd, F, gl, bd⟩ := T.d__law_quiz
  refine ⟨f, fd, F, gl, bd, F.ok sc_law_quiz (fun vs H Q E h => ?_) (fun cdv A outer s H vs Q E hr h => ?_)⟩
  · obtain ⟨j, z, rfl, _⟩ := h
    rfl
  · obtain ⟨j, z, rfl, hj, z1, z2, hz, k⟩ := h
    have hu := hu_of hr
    refine ⟨_, (pss_cons (ps_set (i := 2) sc_law_quiz.nd rfl (Or.inl rfl) (pe_ix ix_tup (pe_tup (pa_cons pe_int (pa_cons pe_int (pa_cons pe_int (pa_cons pe_int pa_nil))))) (pcall G__law_take (hr.mono (by decide)) (pa_cons (pv 0) (pa_cons pe_int pa_nil))) (fun _ _ => rfl)))
      (pss_cons (ps_par (i := 3) (j := 4) rfl sc_law_quiz.nd rfl rfl (by decide) rfl rfl (pa_cons (pe_ifExp (PW.pt (pw_and (pt_cmpR op_gt (pv 2) pe_int (nomark _)) (pw_and1 (pt_cmpR op_eq (pcall G__law_take (hr.mono (by decide)) (pa_cons (pv 0) (pa_cons pe_int pa_nil))) pe_int (nomark _))))) pe_str pe_str) (pa_cons (pe_lst pa_nil) pa_nil)) (by rfl))
      (pss_cons (ps_for PassesOwn.never rfl (pi_range1 rfl T.b_range (pa_cons (pv 2) pa_nil)) (pg_name (i := 5) sc_law_quiz.nd rfl (Or.inl rfl))
      (pss_cons (ps_par (i := 6) (j := 7) rfl sc_law_quiz.nd rfl rfl (by decide) rfl rfl (pa_cons (pcall G__law_pick (hr.mono (by decide)) (pa_cons (pv 0) (pa_cons (pe_tup (pa_cons pe_str (pa_cons pe_str pa_nil))) pa_nil))) (pa_cons (pcall G__law_pick (hr.mono (by decide)) (pa_cons (pv 0) (pa_cons (pv 1) pa_nil))) pa_nil)) (by rfl))
      (pss_one (ps_expr (pe_bm PySem.F.plainAttrs_list PySem.F.slot_list_append PySem.F.type_list_append mt_append (pv 4) (pa_cons (pe_tup (pa_cons (pv 6) (pa_cons (pv 7) (pa_cons (pcall G__law_pick (hr.mono (by decide)) (pa_cons (pv 0) (pa_cons (pe_op op_cat (pe_callTy (cr_listS rfl) (by rfl) T.b_list (by decide +kernel) (pa_cons (pv 1) pa_nil)) (pe_lst (pa_cons pe_str (pa_cons pe_str pa_nil)))) pa_nil))) pa_nil)))) pa_nil))))))
      (pss_one (ps_ret (pe_tup (pa_cons (pv 3) (pa_cons (pe_callTy call_tupP (by rfl) T.b_tuple (by decide +kernel) (pa_cons (pv 4) pa_nil)) pa_nil)))))))), ?_⟩
    have zx : z.length = (z.cps.toList.map fun c => V.str (ch c)).length := by rw [List.length_map, ← TL.len_tl]
    refine seq_post (fun σ' H' => Chg j H H' ∧ JugAt H' j ∧ ∃ n : Int, 1 ≤ n ∧ n ≤ 3 ∧ σ' = [some (.ref j), some (.str z), some (.int n), none, none, none, none, none]) (fun R hR => ?_) ?_
    · refine ⟨sl_le (by show 4 ≤ 1000000; decide), fun t ht => ⟨_, rfl, j, 4, rfl, hj.same (same_new ht), by decide, by decide, fun H1 k0 c1 j1 k1 k2 => ?_⟩⟩
      have e1 : SqT K H1 t [V.int 1, .int 1, .int 2, .int 3] := SqT.imm (chg_imm c1 (hj.same (same_new ht))) (.inl (.inl upd_same))
      have c01 := (Chg.of (same_new ht)).trans c1
      have kk : k0 = 0 ∨ k0 = 1 ∨ k0 = 2 ∨ k0 = 3 := by omega
      rcases kk with rfl | rfl | rfl | rfl
      · exact ⟨t, _, 0, _, rfl, rfl, e1, at_nat (i := 0) rfl, hR _ _ ⟨c01, j1, 1, by decide, by decide, rfl⟩⟩
      · exact ⟨t, _, 1, _, rfl, rfl, e1, at_nat (i := 1) rfl, hR _ _ ⟨c01, j1, 1, by decide, by decide, rfl⟩⟩
      · exact ⟨t, _, 2, _, rfl, rfl, e1, at_nat (i := 2) rfl, hR _ _ ⟨c01, j1, 2, by decide, by decide, rfl⟩⟩
      · exact ⟨t, _, 3, _, rfl, rfl, e1, at_nat (i := 3) rfl, hR _ _ ⟨c01, j1, 3, by decide, by decide, rfl⟩⟩
    rintro _ H1 ⟨c1, j1, n, n1, n3, rfl⟩
    refine seq_post (fun σ' H' => Chg j H H' ∧ JugAt H' j ∧ ∃ (p : Addr) (jt : Str), H p = none ∧ p ≠ j ∧ H' p = some (.lst []) ∧ isJt jt = true ∧ (n = 1 → jt = Str.ofString "and") ∧ σ' = [some (.ref j), some (.str z), some (.int n), some (.str jt), some (.ref p), none, none, none]) (fun R hR => ?_) ?_
    · have fin : ∀ (jt : Str) (H2 : Hp), isJt jt = true → (n = 1 → jt = Str.ofString "and") → Chg j H H2 → JugAt H2 j → ([] : List V).length ≤ sizeLine ∧ ∀ p, H2 p = none → R [some (.ref j), some (.str z), some (.int n), some (.str jt), some (.ref p), none, none, none] (upd H2 p (.lst [])) := fun jt H2 h1 h2 c2 j2 =>
        ⟨Nat.zero_le _, fun p hp => hR _ _ ⟨chg_new c2 (none_chg c2 j2 hp), jug_upd (j2.ne hp) j2, p, jt, none_chg c2 j2 hp, j2.ne hp, upd_same, h1, h2, rfl⟩⟩
      by_cases n2 : 1 < n
      · refine ⟨_, rfl, _, _, rfl, rfl, _, rfl, ?_⟩
        rw [decide_eq_true (show n > 1 from n2)]
        refine iteT ⟨_, rfl, j, 2, rfl, j1, by decide, by decide, fun H2 k0 c2 j2 k1 k2 => ⟨rfl, _, rfl, ?_⟩⟩
        by_cases kk : k0 = 1
        · rw [decide_eq_true (by rw [kk])]
          refine iteT ?_
          obtain ⟨f1, f2⟩ := fin (Str.ofString "or") H2 (by decide +kernel) (fun z => by omega) (c1.trans c2) j2
          exact ⟨f1, fun p hp => ⟨_, _, rfl, f2 p hp⟩⟩
        · rw [decide_eq_false (fun z => kk (V.int.inj z))]
          refine iteF ?_
          obtain ⟨f1, f2⟩ := fin (Str.ofString "and") H2 (by decide +kernel) (fun _ => rfl) (c1.trans c2) j2
          exact ⟨f1, fun p hp => ⟨_, _, rfl, f2 p hp⟩⟩
      · refine ⟨_, rfl, _, _, rfl, rfl, _, rfl, ?_⟩
        rw [decide_eq_false (show ¬ n > 1 by omega)]
        refine iteF ?_
        obtain ⟨f1, f2⟩ := fin (Str.ofString "and") H1 (by decide +kernel) (fun _ => rfl) c1 j1
        exact ⟨f1, fun p hp => ⟨_, _, rfl, f2 p hp⟩⟩
    rintro _ H2 ⟨c2, j2, p, jt, hp0, np, hp, hjt, hja, rfl⟩
    refine ⟨_, rfl, n, rfl, by omega, by omega, ?_⟩
    refine for_range (lo := 0) (n := n.toNat) (fun i σ H' => Chg j H H' ∧ JugAt H' j ∧ ∃ (rs : List Addr) (ts : List Tri) (x5 x6 x7 : Option V), σ = [some (.ref j), some (.str z), some (.int n), some (.str jt), some (.ref p), x5, x6, x7] ∧ H' p = some (.lst (rs.map V.ref)) ∧ Trs K H' rs ts ∧ ts.length = i ∧ ∀ t ∈ ts, trip t.2.1 t.1 t.2.2 = true)
      ⟨c2, j2, [], [], _, _, _, rfl, hp, .nil, rfl, fun t ht => by cases ht⟩ ?_ ?_
    · rintro i σ H3 hi ⟨c3, j3, rs, ts, x5, x6, x7, rfl, hk, htr, hlen, hall⟩
      have hrs : rs.length = ts.length := Paired.len htr
      refine ⟨_, rfl, sl_le (by show 2 ≤ 1000000; decide), fun t ht => ⟨j, _, _, rfl, j3.same (same_new ht), .inr (.inl ⟨t, rfl, .inl (.inl upd_same)⟩), List.cons_ne_nil _ _, by show 2 ≤ 1000; decide, fun H4 x c4 j4 hx => ?_⟩⟩
      obtain ⟨m, rfl, hm⟩ := mk_of hx
      have c4' := (Chg.of (same_new ht)).trans c4
      refine ⟨_, rfl, _, rfl, j, _, _, rfl, j4, .inr (.inr ⟨z, rfl, by omega, rfl⟩), fun e => by rw [e] at zx; simp at zx; omega, by omega, fun H5 x c5 j5 hx => ?_⟩
      obtain ⟨a, rfl, ha⟩ := ch_of hz hx
      have c5' := c4'.trans c5
      have hk5 := c5' _ _ hk np
      refine ⟨_, _, rfl, ?_⟩
      refine ⟨_, rfl, .inl ⟨rfl, _, .inl (.inl hk5)⟩, _, rfl, _, rfl, _, rfl, _, rfl, z, rfl, sl_le (by omega), fun l1 hl1 => ⟨sl_le (by show 2 ≤ 1000000; decide), fun l2 hl2 => ?_⟩⟩
      have nl : l1 ≠ l2 := ne_of_none upd_same hl2
      refine ⟨l1, l2, _, _, rfl, rfl, by rw [upd_ne nl, upd_same], upd_same, sl_le (by rw [List.length_map, ← TL.len_tl]; show z.length + 2 ≤ 1000000; omega), fun q hq => ?_⟩
      have s3 := ((same_new (o := .lst (z.cps.toList.map fun c => V.str (ch c))) hl1).trans (same_new (o := .lst [V.str (Str.ofString "END"), V.str (Str.ofString "END")]) hl2)).trans (same_new (o := .lst ((z.cps.toList.map fun c => V.str (ch c)) ++ [V.str (Str.ofString "END"), V.str (Str.ofString "END")])) hq)
      refine ⟨j, _, _, rfl, j5.same s3, .inl ⟨q, rfl, ((j5.same ((same_new hl1).trans (same_new hl2))).ne hq), .inl (.inl upd_same)⟩, by simp, by rw [List.length_append, List.length_map, ← TL.len_tl]; show z.length + 2 ≤ 1000; omega, fun H6 x c6 j6 hx => ?_⟩
      obtain ⟨b, rfl, hb⟩ := tgt_of hz hx
      have c6' := (c5'.trans (.of s3)).trans c6
      refine ⟨sl_le (by show 3 ≤ 1000000; decide), fun r hr => ?_⟩
      have c7 := c6'.trans (.of (same_new (o := .tup [V.str m, V.str a, V.str b]) hr))
      have hk7 := c7 _ _ hk np
      refine ⟨p, _, _, rfl, rfl, hk7, by rw [List.length_map, hrs, hlen]; exact Nat.lt_of_lt_of_le (show i < 100 by omega) (sl_le (by decide)), ?_⟩
      have j7 := j6.same (same_new (o := .tup [V.str m, V.str a, V.str b]) hr)
      have im7 := (chg_imm c7 j3).trans (Chg.imm (Chg.upd (o := .lst (rs.map V.ref ++ [V.ref r]))) hk7 trivial)
      refine ⟨chg_new (c3.trans c7) hp0, jug_upd np j7, rs ++ [r], ts ++ [(m, a, b)], _, _, _, rfl, by rw [upd_same, List.map_append]; rfl, (htr.imm im7).snoc (.inl (.inl (by rw [upd_ne (by intro e; rw [e, upd_same] at hk7; cases hk7), upd_same]))), by rw [List.length_append, hlen]; rfl, fun t ht => ?_⟩
      rcases List.mem_append.mp ht with ht | ht
      · exact hall t ht
      · rw [List.mem_singleton.mp ht]
        show trip a m b = true
        unfold trip
        rw [ha, hm, hb]
        rfl
    rintro σ H3 ⟨c3, j3, rs, ts, x5, x6, x7, rfl, hk, htr, hlen, hall⟩
    have hrs : rs.length = ts.length := Paired.len htr
    refine ⟨_, rfl, _, rfl, p, rs.map V.ref, rfl, .inl (.inl hk), fun q o hq ho => ⟨sl_le (by show 2 ≤ 1000000; decide), fun t ht => ?_⟩⟩
    have s4 := same_new (o := .frz o (.tup (rs.map V.ref))) hq
    have s5 := s4.trans (same_new (o := .tup [V.str jt, V.ref q]) ht)
    exact k _ (.ref t) (jt, ts) (c3.trans (.of s5)) (j3.same s5) ⟨t, q, rs, rfl, .inl (.inl upd_same), SqT.imm (.of (same_new ht)) (.inl (.inr ⟨o, upd_same⟩)), htr.imm (.of s5)⟩ ⟨hjt, by show 1 ≤ ts.length; omega, by show ts.length ≤ 3; omega, hall⟩ (fun e => hja (by have e : ts.length = 1 := e; omega))
end
end K1
namespace K1
open PySem PySem.Spec L2 Z K36 K34 K35 K38 K6 K40 CwR
section
variable {P : Program} {w : World} {K : PySem.W.Frag} {mg : Str → Option Value} {base : Heap} {C CT CN CU CA : Addr}
theorem ok_law_quiz_said (T : Txt K mg C CT CN CU CA)  : Pr P w K mg base "_law_quiz_said" s_law_quiz_said 1 ["_law_quiz_here"] (p_quiz_said K) := by
  obtain ⟨f, fd, F, gl, bd⟩ := T.d__law_quiz_said
  refine ⟨f, fd, F, gl, bd, F.ok sc_law_quiz_said (fun vs H Q E h => ?_) (fun cdv A outer s H vs Q E hr h => ?_)⟩
  · obtain ⟨u, q, rfl, _⟩ := h
    rfl
  · obtain ⟨u, q, rfl, ⟨a, b, rs, rfl, ha, hb, ht⟩, ok, k⟩ := h
    have hu := hu_of hr
    refine ⟨_, (pss_one (ps_ret (pe_join (pe_op op_add_str (pe_op op_add_str pe_str (pe_ix ix_tup (pv 0) pe_int (fun _ _ => rfl))) pe_str) (pe_lc (own := [("_law_mark", 1), ("_law_one", 2), ("_law_two", 3)]) (g := gTup K 3 (gCons (gName 1) (gCons (gName 2) (gCons (gName 3) gNil)))) (tt := tYes) rfl sc_law_quiz_said.nd (pi_tup (pe_ix ix_tup (pv 0) pe_int (fun _ _ => rfl))) (blkOk_by (own := [("_law_mark", 1), ("_law_one", 2), ("_law_two", 3)]) (N := N_law_quiz_said) (sc := defScope s_law_quiz_said) (by decide +kernel)) (fun _ _ _ _ _ => (pg_tup rfl (pgs_cons (pg_name (i := 1) sc_law_quiz_said.nd rfl (Or.inl rfl)) (pgs_cons (pg_name (i := 2) sc_law_quiz_said.nd rfl (Or.inl rfl)) (pgs_cons (pg_name (i := 3) sc_law_quiz_said.nd rfl (Or.inl rfl)) pgs_nil))))) (fun _ _ _ _ _ => pts_nil) (fun _ _ _ _ _ => (pe_op op_add_str (pe_op op_add_str (pe_op op_add_str (pe_op op_add_str (pv 2) pe_str) (pv 1)) pe_str) (pv 3))))))), ?_⟩
    have tj := tx_jt ok.jt
    have lj := tj.len
    have ls := sp_len
    have hlen : rs.length = q.2.length := Paired.len ht
    have few := ok.few
    have lsj : (Str.ofString " " ++ q.1 ++ Str.ofString " ").length ≤ 5 := (((txB_ok (n := 1) (by decide +kernel) : TxOk 1 (Str.ofString " ")).app tj).app (txB_ok (n := 1) (by decide +kernel))).len
    refine ⟨_, rfl, a, _, 0, _, rfl, rfl, ha, at_first, _, _, rfl, rfl, sl_le (by omega), _, _, rfl, rfl, sl_le (by have := (((txB_ok (n := 1) (by decide +kernel) : TxOk 1 (Str.ofString " ")).app tj)).len; omega), ⟨_, rfl⟩, ?_⟩
    refine lcT (rs.zip q.2) (fun p => V.ref p.1) (fun _ => true) (fun p => V.str (tW p.2)) (by rw [List.length_zip]; omega) (fun R hR => ?_) (fun p H' R1 R2 hp s1 h1 h2 => ?_) (fun H' D s1 hD hd => ?_)
    · exact ⟨_, rfl, a, _, 1, _, rfl, rfl, ha, at_snd, hR b H (fun _ _ h => h) (by rw [zip_1 V.ref hlen]; exact hb)⟩
    · obtain ⟨hr, hm⟩ := Trs.mem (ht.imm (.of s1)) hp
      obtain ⟨l1, l2, l3⟩ := trip_parts (ok.tri _ hm)
      have t1 := tx_let l1
      have t2 := tx_mk l2
      have t3 := tx_tgt l3
      have sp : TxOk 1 (Str.ofString " ") := txB_ok (by decide +kernel)
      have a1 := t1.app sp
      have a2 := a1.app t2
      have a3 := a2.app sp
      have b1 := t1.len
      have b2 := t2.len
      have b3 := t3.len
      have c1 := a1.len
      have c2 := a2.len
      have c3 := a3.len
      refine ⟨p.1, _, rfl, hr, rfl, _, _, rfl, _, _, rfl, _, _, rfl, rfl, rfl, yesI ?_⟩
      exact ⟨_, rfl, _, _, rfl, rfl, sl_le (by omega), _, rfl, _, _, rfl, rfl, sl_le (by omega), _, _, rfl, rfl, sl_le (by omega), _, rfl, _, _, rfl, rfl, sl_le (by omega), h2 H' (fun _ _ h => h) rfl⟩
    · have e : ((rs.zip q.2).filter fun _ => true).map (fun p => V.str (tW p.2)) = (q.2.map tW).map V.str := by
        rw [zip_2 (fun t => V.str (tW t)) hlen, List.map_map]
        rfl
      rw [e] at hd
      refine ⟨_, D, q.2.map tW, rfl, rfl, .inl (.inl (.inl hd)), ?_, k H' s1⟩
      have hs := StrLaws.sumLen_le (B := 8) (q.2.map tW) (fun y hy => by
        obtain ⟨t, ht, rfl⟩ := List.mem_map.mp hy
        obtain ⟨l1, l2, l3⟩ := trip_parts (ok.tri _ ht)
        have sp : TxOk 1 sp1 := txB_ok (by decide +kernel)
        exact ((((tx_let l1).app sp).app (tx_mk l2)).app sp |>.app (tx_tgt l3)).len)
      rw [List.length_map] at hs ⊢
      have hm : q.2.length * (Str.ofString " " ++ q.1 ++ Str.ofString " ").length ≤ 3 * 5 := Nat.mul_le_mul few lsj
      omega
end
end K1
namespace K1
open PySem PySem.Spec L2 Z K36 K34 K35 K38 K6 K40 CwR
section
variable {P : Program} {w : World} {K : PySem.W.Frag} {mg : Str → Option Value} {base : Heap} {C CT CN CU CA : Addr}
theorem ok_law_bent (T : Txt K mg C CT CN CU CA) (G__law_take : Pr P w K mg base "_law_take" s_law_take 1 ["_law_well_here", "_law_limit"] sp_law_take) (G__law_pick : Pr P w K mg base "_law_pick" s_law_pick 2 ["_law_well_here", "_law_some"] (p_pick K)) : Pr P w K mg base "_law_bent" s_law_bent 3 ["_law_well_here", "_law_said"] p_bent := by
  obtain ⟨f, fd, F, gl, bd⟩ := T.d__law_bent
  refine ⟨f, fd, F, gl, bd, F.ok sc_law_bent (fun vs H Q E h => ?_) (fun cdv A outer s H vs Q E hr h => ?_)⟩
  · obtain ⟨j, x, n, rfl, _⟩ := h
    rfl
  · obtain ⟨j, x, n, rfl, hj, hx, hn, k⟩ := h
    have hu := hu_of hr
    refine ⟨_, (pss_cons (ps_par (i := 2) (j := 3) rfl sc_law_bent.nd rfl rfl (by decide) rfl rfl (pa_cons (pcall G__law_take (hr.mono (by decide)) (pa_cons (pv 0) (pa_cons pe_int pa_nil))) (pa_cons (pcall G__law_take (hr.mono (by decide)) (pa_cons (pv 0) (pa_cons (pe_op op_add (pe_callB call_len_str (by rfl) T.b_len (by decide +kernel) (pa_cons (pv 1) pa_nil)) pe_int) pa_nil))) pa_nil)) (by rfl))
      (pss_cons (ps_if (pt_cmpR op_eq (pv 2) pe_int (nomark _)) (pss_one (ps_ret (pe_op op_add_str (pe_slice sl_str (pv 1) po_none (po_some (pv 3))) (pe_slice sl_str (pv 1) (po_some (pe_op op_add (pv 3) pe_int)) po_none)))) pss_nil)
      (pss_cons (ps_if (pt_cmpR op_eq (pv 2) pe_int (nomark _)) (pss_one (ps_ret (pe_op op_add_str (pe_op op_add_str (pe_slice sl_str (pv 1) po_none (po_some (pv 3))) (pcall G__law_pick (hr.mono (by decide)) (pa_cons (pv 0) (pa_cons pe_str pa_nil)))) (pe_slice sl_str (pv 1) (po_some (pv 3)) po_none)))) pss_nil)
      (pss_cons (ps_if (pt_cmpR op_eq (pv 2) pe_int (nomark _)) (pss_one (ps_ret (pe_op op_add_str (pe_op op_add_str (pe_slice sl_str (pv 1) po_none (po_some (pv 3))) (pcall G__law_pick (hr.mono (by decide)) (pa_cons (pv 0) (pa_cons pe_str pa_nil)))) (pe_slice sl_str (pv 1) (po_some (pe_op op_add (pv 3) pe_int)) po_none)))) pss_nil)
      (pss_cons (ps_if (pt_cmpR op_eq (pv 2) pe_int (nomark _)) (pss_one (ps_ret (pe_op op_add_str (pv 1) (pcall G__law_pick (hr.mono (by decide)) (pa_cons (pv 0) (pa_cons (pe_tup (pa_cons pe_str (pa_cons pe_str (pa_cons pe_str (pa_cons pe_str (pa_cons pe_str (pa_cons pe_str (pa_cons pe_str (pa_cons pe_str (pa_cons pe_str pa_nil)))))))))) pa_nil)))))) pss_nil)
      (pss_splT (i := 4) sc_law_bent.nd rfl (Or.inl rfl) (pv 1)
      (psst_cons (PST.of (ps_par (i := 5) (j := 6) rfl sc_law_bent.nd rfl rfl (by decide) rfl rfl (pa_cons (pcall G__law_take (hr.mono (by decide)) (pa_cons (pv 0) (pa_cons (pe_callB call_len_seq (by rfl) T.b_len (by decide +kernel) (pa_cons (pv 4) pa_nil)) pa_nil))) (pa_cons (pe_tup (pa_cons pe_str (pa_cons pe_str (pa_cons pe_str (pa_cons pe_str (pa_cons pe_str (pa_cons pe_str (pa_cons pe_str (pa_cons pe_str (pa_cons pe_str (pa_cons pe_str (pa_cons pe_str (pa_cons pe_str (pa_cons pe_str (pa_cons pe_str pa_nil))))))))))))))) pa_nil)) (by rfl)))
      (psst_cons (pst_if (pt_cmpR op_eq (pv 2) pe_int (nomark _)) (PSsT.of (pss_one (ps_expr (pe_bm PySem.F.plainAttrs_list PySem.F.slot_list_pop PySem.F.type_list_pop mt_popAt (pv 4) (pa_cons (pv 5) pa_nil))))) (psst_one (pst_if (pt_cmpR op_eq (pv 2) pe_int (nomark _)) (PSsT.of (pss_one (ps_expr (pe_bm PySem.F.plainAttrs_list PySem.F.slot_list_insert PySem.F.type_list_insert mt_insert (pv 4) (pa_cons (pv 5) (pa_cons (pcall G__law_pick (hr.mono (by decide)) (pa_cons (pv 0) (pa_cons (pv 6) pa_nil))) pa_nil)))))) (psst_one (pst_if (pt_cmpR op_eq (pv 2) pe_int (nomark _)) (PSsT.of (pss_one (ps_asg (pcall G__law_pick (hr.mono (by decide)) (pa_cons (pv 0) (pa_cons (pe_op op_catP (pv 6) (pe_tup (pa_cons pe_str (pa_cons pe_str (pa_cons pe_str (pa_cons (pe_ix ix_list (pv 4) (pcall G__law_take (hr.mono (by decide)) (pa_cons (pv 0) (pa_cons (pe_callB call_len_seq (by rfl) T.b_len (by decide +kernel) (pa_cons (pv 4) pa_nil)) pa_nil))) (fun _ _ => rfl)) pa_nil)))))) pa_nil))) (pg_sub (pv 4) (pv 5) set_list)))) (psst_one (pst_if (pt_cmpR op_eq (pv 2) pe_int (nomark _)) (PSsT.of (pss_one (ps_asg (pe_op op_add_str (pe_ix ix_list (pv 4) (pv 5) (fun _ _ => rfl)) pe_str) (pg_sub (pv 4) (pv 5) set_list)))) (psst_one (pst_asg (pet_replC (pe_ix ix_list (pv 4) (pv 5) (fun _ _ => rfl))) (pg_sub (pv 4) (pv 5) set_list))))))))))
      (PSsT.of (pss_one (ps_ret (pe_join pe_str (pv 4))))))))))))), ?_⟩
    have xl := hx.len
    have sN : ∀ {m : Nat}, m ≤ 5000 → m ≤ sizeLine := fun h => sl_le (by omega)
    refine seq_post (fun σ' H' => Chg j H H' ∧ JugAt H' j ∧ ∃ br he : Int, 0 ≤ br ∧ br < 9 ∧ 0 ≤ he ∧ he ≤ x.length ∧ σ' = [some (.ref j), some (.str x), some (.int br), some (.int he), none, none, none]) (fun R hR => ?_) ?_
    · exact ⟨_, rfl, j, 9, rfl, hj, by decide, by decide, fun H1 b c1 j1 b0 b9 => ⟨_, rfl, _, rfl, x, rfl, sN (by omega), _, _, rfl, rfl, j, _, rfl, j1, by omega, by omega, fun H2 h c2 j2 h0 h1 => ⟨_, _, rfl, hR _ _ ⟨c1.trans c2, j2, b, h, b0, b9, h0, by omega, rfl⟩⟩⟩⟩
    rintro _ H1 ⟨c1, j1, br, he, b0, b9, h0, h1, rfl⟩
    have cut : ∀ lo hi, TxOk n (cutS x lo hi) := fun lo hi => hx.cut lo hi
    have cl : ∀ lo hi, (cutS x lo hi).length ≤ 1000 := fun lo hi => Nat.le_trans (cut lo hi).len hn
    have tst0 : ∀ {b : Int} {A B : Prop}, (br = b → A) → (br ≠ b → B) → (if decide (V.int br = V.int b) = true then A else B) := fun {b A B} h1 h2 => by
      by_cases h : br = b
      · rw [decide_eq_true (congrArg V.int h)]
        exact iteT (h1 h)
      · rw [decide_eq_false (fun z => h (V.int.inj z))]
        exact iteF (h2 h)
    refine ⟨_, rfl, rfl, _, rfl, tst0 (fun hb => ?_) (fun hb0 => ?_)⟩
    · exact ⟨_, rfl, _, rfl, _, rfl, x, rfl, sN (by omega), _, rfl, _, rfl, _, _, rfl, rfl, _, rfl, x, rfl, sN (by omega), _, _, rfl, rfl, sN (by have := cl none (some he); have := cl (some (he + 1)) none; omega), k H1 _ c1 j1 (((cut _ _).app (cut _ _)).mono (by omega))⟩
    refine ⟨_, rfl, rfl, _, rfl, tst0 (fun hb => ?_) (fun hb1 => ?_)⟩
    · refine ⟨_, rfl, _, rfl, _, rfl, x, rfl, sN (by omega), _, rfl, j, _, _, rfl, j1, .inr (.inr ⟨_, rfl, by decide +kernel, rfl⟩), (fun e => by have := congrArg List.length e; revert this; decide +kernel), by decide +kernel, fun H2 y c2 j2 hy => ?_⟩
      obtain ⟨c, rfl, tc⟩ := sign_of (by decide +kernel) hy
      have b1 := (cut none (some he)).app tc
      have l1 := tc.len
      have l2 := b1.len
      exact ⟨_, _, rfl, rfl, sN (by have := cl none (some he); omega), _, rfl, _, rfl, _, rfl, x, rfl, sN (by omega), _, _, rfl, rfl, sN (by have := cl (some he) none; omega), k H2 _ (c1.trans c2) j2 ((b1.app (cut _ _)).mono (by omega))⟩
    refine ⟨_, rfl, rfl, _, rfl, tst0 (fun hb => ?_) (fun hb2 => ?_)⟩
    · refine ⟨_, rfl, _, rfl, _, rfl, x, rfl, sN (by omega), _, rfl, j, _, _, rfl, j1, .inr (.inr ⟨_, rfl, by decide +kernel, rfl⟩), (fun e => by have := congrArg List.length e; revert this; decide +kernel), by decide +kernel, fun H2 y c2 j2 hy => ?_⟩
      obtain ⟨c, rfl, tc⟩ := sign_of (by decide +kernel) hy
      have b1 := (cut none (some he)).app tc
      have l1 := tc.len
      have l2 := b1.len
      exact ⟨_, _, rfl, rfl, sN (by have := cl none (some he); omega), _, rfl, _, rfl, _, _, rfl, rfl, _, rfl, x, rfl, sN (by omega), _, _, rfl, rfl, sN (by have := cl (some (he + 1)) none; omega), k H2 _ (c1.trans c2) j2 ((b1.app (cut _ _)).mono (by omega))⟩
    refine ⟨_, rfl, rfl, _, rfl, tst0 (fun hb => ?_) (fun hb3 => ?_)⟩
    · refine ⟨_, rfl, _, rfl, sN (by show 9 ≤ 5000; decide), fun t ht => ⟨j, .ref t, _, rfl, j1.same (same_new ht), .inr (.inl ⟨t, rfl, .inl (.inl upd_same)⟩), List.cons_ne_nil _ _, by show 9 ≤ 1000; decide, fun H2 y c2 j2 hy => ?_⟩⟩
      obtain ⟨w, rfl, tw⟩ := tx_of (n := 14) (ws := [Str.ofString "; ", Str.ofString ";", Str.ofString " ", Str.ofString "; none", Str.ofString "; x = y", Str.ofString " }", Str.ofString " else { none }", Str.ofString " and x = y", Str.ofString " or y != END"]) (by decide +kernel) hy
      have l1 := tw.len
      exact ⟨_, _, rfl, rfl, sN (by omega), k H2 _ ((c1.trans (.of (same_new ht))).trans c2) j2 ((hx.app tw).mono (by omega))⟩
    have sl := spl_len x
    have sj := spl_jl x
    refine ⟨_, rfl, ⟨_, rfl⟩, x, _, rfl, rfl, by decide +kernel, sN (by omega), fun l hl => ?_⟩
    rw [show Txt.split x (Str.ofString " ") = spl x from rfl]
    dsimp only [gName, List.set]
    have s2 := same_new (o := .lst ((spl x).map V.str)) hl
    have e2 : upd H1 l (.lst ((spl x).map V.str)) l = some (.lst ((spl x).map V.str)) := upd_same
    have j2 := j1.same s2
    have nl : l ≠ j := j1.ne hl
    have c2 := c1.trans (.of s2)
    have okw : ∀ w ∈ spl x, TxOk n w := spl_ok hx
    have nz : 0 < (spl x).length := List.length_pos_iff.mpr (spl_ne x)
    generalize hws : spl x = ws at *
    generalize upd H1 l (.lst (ws.map V.str)) = H2 at s2 e2 j2 c2 ⊢
    refine seq_post (fun σ' H' => Chg j H H' ∧ JugAt H' j ∧ H' l = some (.lst (ws.map V.str)) ∧ ∃ (sp : Int) (t : Addr), 0 ≤ sp ∧ sp < ws.length ∧ SqT K H' t ([Str.ofString "x", Str.ofString "=", Str.ofString "next", Str.ofString "new", Str.ofString "END", Str.ofString "none", Str.ofString "{", Str.ofString "}", Str.ofString "else", Str.ofString "and", Str.ofString "or", Str.ofString "", Str.ofString ";", Str.ofString "!="].map V.str) ∧ σ' = [some (.ref j), some (.str x), some (.int br), some (.int he), some (.ref l), some (.int sp), some (.ref t)]) (fun R hR => ?_) ?_
    · exact ⟨_, rfl, _, rfl, l, _, rfl, .inl (.inl (.inl e2)), j, _, rfl, j2, by rw [List.length_map]; omega, by rw [List.length_map]; omega, fun H3 sp c3 j3 p0 p1 => ⟨sN (by show 14 ≤ 5000; decide), fun t ht => ⟨_, _, rfl, hR _ _ ⟨(c2.trans c3).trans (.of (same_new ht)), j3.same (same_new ht), same_new ht _ _ (c3 _ _ e2 nl), sp, t, p0, by rw [List.length_map] at p1; exact p1, .inl (.inl upd_same), rfl⟩⟩⟩⟩
    rintro _ H3 ⟨c3, j3, e3, sp, t, p0, p1, ht, rfl⟩
    refine seq_post (fun σ' H' => Chg j H H' ∧ JugAt H' j ∧ ∃ vs : List Str, σ' = [some (.ref j), some (.str x), some (.int br), some (.int he), some (.ref l), some (.int sp), some (.ref t)] ∧ H' l = some (.lst (vs.map V.str)) ∧ (∀ w ∈ vs, TxOk (2 * n + 20) w) ∧ jl vs ≤ 2 * n + 21) (fun R hR => ?_) ?_
    case refine_2 =>
      rintro _ H4 ⟨c4, j4, vs, rfl, e4, ov, lv⟩
      refine ⟨⟨_, rfl⟩, _, rfl, _, l, vs, rfl, rfl, .inl (.inl (.inl e4)), ?_, k H4 _ c4 j4 (join_ok ov lv)⟩
      rw [sum_jl]
      omega
    have okn : ∀ w ∈ ws, TxOk (2 * n + 20) w := fun w hw => (okw w hw).mono (by omega)
    have lH : H l = none := none_chg c1 j1 hl
    have fin : ∀ (H4 : Hp) (vs : List Str) (xs : List V), xs = vs.map V.str → Chg j H H4 → JugAt H4 j → (∀ w ∈ vs, TxOk (2 * n + 20) w) → jl vs ≤ 2 * n + 21 → R [some (.ref j), some (.str x), some (.int br), some (.int he), some (.ref l), some (.int sp), some (.ref t)] (upd H4 l (.lst xs)) := fun H4 vs xs ex c4 j4 ov lv =>
      hR _ _ ⟨chg_new c4 lH, jug_upd nl j4, vs, rfl, by rw [upd_same, ex], ov, lv⟩
    obtain ⟨w0, hw0, ew0⟩ : ∃ w0, w0 ∈ ws ∧ ws[sp.toNat]? = some w0 := ⟨ws[sp.toNat]'(by omega), List.getElem_mem _, List.getElem?_eq_getElem _⟩
    have em0 : (ws.map V.str)[sp.toNat]? = some (.str w0) := by rw [List.getElem?_map, ew0]; rfl
    have ea0 : atI (ws.map V.str) sp = some (.str w0) := by
      have := at_nat em0
      rw [Int.toNat_of_nonneg p0] at this
      exact this
    have ix0 : ixN (ws.map V.str).length sp = some sp.toNat := by
      unfold ixN
      rw [if_pos p0, if_pos (by rw [List.length_map]; omega)]
    have tw0 := okw w0 hw0
    have lw0 := tw0.len
    have slen : (ws.map V.str).length ≤ 2000 := by rw [List.length_map]; omega
    refine ⟨_, rfl, rfl, _, rfl, tst0 (fun hb => ?_) (fun hb4 => ?_)⟩
    · refine ⟨_, rfl, .inl ⟨rfl, _, .inl (.inl e3)⟩, _, rfl, l, _, sp, sp.toNat, _, rfl, rfl, e3, by omega, by omega, StrLaws.seqIndex_nonneg p0 (by rw [List.length_map]; exact p1), em0, ?_⟩
      refine fin H3 (ws.eraseIdx sp.toNat) _ (map_erase ..) c3 j3 (fun w hw => okn w (List.mem_of_mem_eraseIdx hw)) ?_
      have := jl_erase ws sp.toNat
      omega
    refine ⟨_, rfl, rfl, _, rfl, tst0 (fun hb => ?_) (fun hb5 => ?_)⟩
    · refine ⟨_, rfl, .inl ⟨rfl, _, .inl (.inl e3)⟩, _, rfl, _, rfl, _, rfl, j, .ref t, _, rfl, j3, .inr (.inl ⟨t, rfl, ht⟩), List.cons_ne_nil _ _, by show 14 ≤ 1000; decide, fun H4 y c4 j4 hy => ?_⟩
      obtain ⟨w, rfl, tw⟩ := tx_of (n := 5) (by decide +kernel) hy
      have l1 := tw.len
      refine ⟨l, _, sp, _, rfl, rfl, c4 _ _ e3 nl, Nat.lt_of_le_of_lt slen (by rw [sizeLine_eq]; decide), p0, by omega, ?_⟩
      refine fin H4 (ws.take sp.toNat ++ [w] ++ ws.drop sp.toNat) _ (by rw [List.map_append, List.map_append, List.map_take, List.map_drop]; rfl) (c3.trans c4) j4 (fun v hv => ?_) ?_
      · rcases List.mem_append.mp hv with hv | hv
        · rcases List.mem_append.mp hv with hv | hv
          · exact okn v (List.mem_of_mem_take hv)
          · rw [List.mem_singleton.mp hv]
            exact tw.mono (by omega)
        · exact okn v (List.mem_of_mem_drop hv)
      · have := jl_ins ws sp.toNat w
        omega
    have setok : ∀ (w : Str), TxOk (n + 5) w → (∀ v ∈ ws.set sp.toNat w, TxOk (2 * n + 20) v) ∧ jl (ws.set sp.toNat w) ≤ 2 * n + 21 := fun w tw => by
      refine ⟨fun v hv => ?_, ?_⟩
      · rcases List.mem_or_eq_of_mem_set hv with z | z
        · exact okn v z
        · rw [z]
          exact tw.mono (by omega)
      · have := jl_set ws sp.toNat w
        have := tw.len
        omega
    refine ⟨_, rfl, rfl, _, rfl, tst0 (fun hb => ?_) (fun hb6 => ?_)⟩
    · refine ⟨_, rfl, _, rfl, _, rfl, _, rfl, _, rfl, l, _, rfl, .inl (.inl (.inl e3)), j, _, rfl, j3, by rw [List.length_map]; omega, by omega, fun H4 i5 c4 j4 i0 i1 => ?_⟩
      have e4 := c4 _ _ e3 nl
      obtain ⟨y, hy, hat⟩ := at_of (xs := ws.map V.str) i0 i1
      obtain ⟨w1, hw1, rfl⟩ := List.mem_map.mp hy
      refine ⟨l, _, i5, _, rfl, rfl, .inl (.inl e4), hat, sN (by show 4 ≤ 5000; decide), fun u hu => ?_⟩
      have s5 := same_new (o := .tup [V.str (Str.ofString "drop"), V.str (Str.ofString "if"), V.str (Str.ofString "while"), V.str w1]) hu
      have f5 : upd H4 u (.tup [V.str (Str.ofString "drop"), V.str (Str.ofString "if"), V.str (Str.ofString "while"), V.str w1]) u = some (.tup [V.str (Str.ofString "drop"), V.str (Str.ofString "if"), V.str (Str.ofString "while"), V.str w1]) := upd_same
      have j5 := j4.same s5
      have e5 := s5 _ _ e4
      have ht5 := SqT.imm (.of s5) (SqT.imm (chg_imm c4 j3) ht)
      have c5 := (c3.trans c4).trans (.of s5)
      generalize upd H4 u (.tup [V.str (Str.ofString "drop"), V.str (Str.ofString "if"), V.str (Str.ofString "while"), V.str w1]) = H5 at s5 f5 j5 e5 ht5 c5 ⊢
      refine ⟨t, u, _, _, rfl, rfl, ht5, .inl (.inl f5), sN (by show 18 ≤ 5000; decide), fun z => by simp at z, fun _ z => by simp at z, fun _ _ p o hp ho => ?_⟩
      refine ⟨j, .ref p, _, rfl, j5.same (same_new hp), .inr (.inl ⟨p, rfl, .inl (.inr ⟨o, upd_same⟩)⟩), by simp, by show 18 ≤ 1000; decide, fun H6 y c6 j6 hy => ?_⟩
      obtain ⟨w, rfl, tw⟩ : ∃ w, y = .str w ∧ TxOk (n + 5) w := by
        rcases List.mem_append.mp hy with hy | hy
        · obtain ⟨w, e, tw⟩ := tx_of (n := 5) (by decide +kernel) hy
          exact ⟨w, e, tw.mono (by omega)⟩
        · have hy : y ∈ [V.str (Str.ofString "drop"), V.str (Str.ofString "if"), V.str (Str.ofString "while"), V.str w1] := hy
          simp only [List.mem_cons, List.not_mem_nil, or_false] at hy
          rcases hy with rfl | rfl | rfl | rfl
          · exact ⟨_, rfl, (txB_ok (n := 5) (by decide +kernel)).mono (by omega)⟩
          · exact ⟨_, rfl, (txB_ok (n := 5) (by decide +kernel)).mono (by omega)⟩
          · exact ⟨_, rfl, (txB_ok (n := 5) (by decide +kernel)).mono (by omega)⟩
          · exact ⟨_, rfl, (okw w1 hw1).mono (by omega)⟩
      obtain ⟨a1, a2⟩ := setok w tw
      exact ⟨_, rfl, _, rfl, l, _, sp, sp.toNat, rfl, rfl, c6 _ _ (same_new hp _ _ e5) nl, ix0, fin H6 (ws.set sp.toNat w) _ (List.map_set ..).symm ((c5.trans (.of (same_new hp))).trans c6) j6 a1 a2⟩
    refine ⟨_, rfl, rfl, _, rfl, tst0 (fun hb => ?_) (fun hb7 => ?_)⟩
    · have tw := tw0.app (txB_ok (n := 1) (x := Str.ofString ";") (by decide +kernel))
      obtain ⟨a1, a2⟩ := setok _ (tw.mono (by omega))
      exact ⟨_, rfl, _, rfl, l, _, sp, _, rfl, rfl, .inl (.inl e3), ea0, _, _, rfl, rfl, sN (by have : (Str.ofString ";").length = 1 := (by decide +kernel); omega), _, rfl, _, rfl, l, _, sp, sp.toNat, rfl, rfl, e3, ix0, fin H3 (ws.set sp.toNat (w0 ++ Str.ofString ";")) _ (List.map_set ..).symm c3 j3 a1 a2⟩
    · obtain ⟨a1, a2⟩ := setok _ ((rep_ok tw0).mono (by omega))
      have z0 : (Str.ofString "").length = 0 := by decide +kernel
      exact ⟨_, rfl, _, rfl, l, _, sp, _, rfl, rfl, .inl (.inl e3), ea0, w0, rfl, by rw [z0]; omega, _, rfl, _, rfl, l, _, sp, sp.toNat, rfl, rfl, e3, ix0, fin H3 (ws.set sp.toNat (Txt.replace w0 (Str.ofString ";") (Str.ofString ""))) _ (List.map_set ..).symm c3 j3 a1 a2⟩
end
end K1
namespace K1
open PySem PySem.Spec L2 Z K36 K34 K35 K38 K6 K40 CwR
section
variable {P : Program} {w : World} {K : PySem.W.Frag} {mg : Str → Option Value} {base : Heap} {C CT CN CU CA : Addr}
theorem ok_law_ahead_word (T : Txt K mg C CT CN CU CA)  : Pr P w K mg base "_law_ahead_word" s_law_ahead_word 1 ["_law_reader"] (p_ahead K) := by
  obtain ⟨f, fd, F, gl, bd⟩ := T.d__law_ahead_word
  refine ⟨f, fd, F, gl, bd, F.ok sc_law_ahead_word (fun vs H Q E h => ?_) (fun cdv A outer s H vs Q E hr h => ?_)⟩
  · obtain ⟨r, l, ws, pos, rfl, _⟩ := h
    rfl
  · obtain ⟨r, l, ws, pos, rfl, ⟨hr1, hl0, ne⟩, k⟩ := h
    have hu := hu_of hr
    refine ⟨_, (pss_one (ps_ret (pe_ifExp (pt_cmpR op_lt (pe_ix ix_list (pv 0) pe_int (fun _ _ => rfl)) (pe_callB call_len_seq (by rfl) T.b_len (by decide +kernel) (pa_cons (pe_ix ix_list (pv 0) pe_int (fun _ _ => rfl)) pa_nil)) (nomark _)) (pe_ix ix_list (pe_ix ix_list (pv 0) pe_int (fun _ _ => rfl)) (pe_ix ix_list (pv 0) pe_int (fun _ _ => rfl)) (fun _ _ => rfl)) pe_str))), ?_⟩
    have hl : SqL K H l (ws.map V.str) := .inl (.inl hl0)
    refine ⟨_, rfl, r, _, 1, _, rfl, rfl, .inl (.inl hr1), at_snd, _, rfl, r, _, 0, _, rfl, rfl, .inl (.inl hr1), at_first, l, _, rfl, .inl hl, _, _, rfl, rfl, _, rfl, ?_⟩
    rw [List.length_map]
    by_cases h : pos < ws.length
    · rw [decide_eq_true (show (pos : Int) < (ws.length : Int) by omega)]
      refine iteT ⟨_, rfl, r, _, 0, _, rfl, rfl, .inl (.inl hr1), at_first, _, rfl, r, _, 1, _, rfl, rfl, .inl (.inl hr1), at_snd, l, _, _, _, rfl, rfl, hl, at_nat (x := V.str (W ws pos)) ?_, k⟩
      rw [List.getElem?_map, List.getElem?_eq_getElem h]
      show _ = some (V.str (ws.getD pos sE))
      rw [List.getD_eq_getElem?_getD, List.getElem?_eq_getElem h]
      rfl
    · rw [decide_eq_false (show ¬ (pos : Int) < (ws.length : Int) by omega)]
      refine iteF ?_
      have e : W ws pos = sE := by
        show ws.getD pos sE = sE
        rw [List.getD_eq_getElem?_getD, List.getElem?_eq_none (by omega)]
        rfl
      rw [e] at k
      exact k
end
end K1
namespace K1
open PySem PySem.Spec L2 Z K36 K34 K35 K38 K6 K40 CwR
section
variable {P : Program} {w : World} {K : PySem.W.Frag} {mg : Str → Option Value} {base : Heap} {C CT CN CU CA : Addr}
theorem ok_law_next_word (T : Txt K mg C CT CN CU CA) (G__law_ahead_word : Pr P w K mg base "_law_ahead_word" s_law_ahead_word 1 ["_law_reader"] (p_ahead K)) : Pr P w K mg base "_law_next_word" s_law_next_word 2 ["_law_reader"] (p_next K) := by
  obtain ⟨f, fd, F, gl, bd⟩ := T.d__law_next_word
  refine ⟨f, fd, F, gl, bd, F.ok sc_law_next_word (fun vs H Q E h => ?_) (fun cdv A outer s H vs Q E hr h => ?_)⟩
  · obtain ⟨r, l, ws, pos, rfl, _⟩ := h
    rfl
  · obtain ⟨r, l, ws, pos, rfl, R, k⟩ := h
    have hu := hu_of hr
    refine ⟨_, (pss_cons (ps_set (i := 1) sc_law_next_word.nd rfl (Or.inl rfl) (pcall G__law_ahead_word (hr.mono (by decide)) (pa_cons (pv 0) pa_nil)))
      (pss_cons (ps_asg (pe_op op_add (pe_ix ix_list (pv 0) pe_int (fun _ _ => rfl)) pe_int) (pg_sub (pv 0) pe_int set_list))
      (pss_one (ps_ret (pv 1))))), ?_⟩
    refine ⟨_, rfl, r, l, ws, pos, rfl, R, ?_⟩
    refine ⟨_, rfl, r, _, 1, _, rfl, rfl, .inl (.inl R.rd), at_snd, _, _, rfl, rfl, _, rfl, r, _, 1, 1, rfl, rfl, R.rd, rfl, ?_⟩
    have c1 : Chg r H (upd H r (.lst ([V.ref l, V.int (pos : Int), V.int 0].set 1 (V.int ((pos : Int) + 1))))) := Chg.upd
    exact ⟨_, rfl, k _ c1 ⟨upd_same, c1 _ _ R.wd R.ne, R.ne⟩⟩
end
end K1
namespace K1
open PySem PySem.Spec L2 Z K36 K34 K35 K38 K6 K40 CwR
section
variable {P : Program} {w : World} {K : PySem.W.Frag} {mg : Str → Option Value} {base : Heap} {C CT CN CU CA : Addr}
theorem ok_law_is_sign (T : Txt K mg C CT CN CU CA)  : Pr P w K mg base "_law_is_sign" s_law_is_sign 1 ["_law_token"] p_is_letter := by
  obtain ⟨f, fd, F, gl, bd⟩ := T.d__law_is_sign
  refine ⟨f, fd, F, gl, bd, F.ok sc_law_is_sign (fun vs H Q E h => ?_) (fun cdv A outer s H vs Q E hr h => ?_)⟩
  · obtain ⟨w, rfl, _⟩ := h
    rfl
  · obtain ⟨w, rfl, hz, k⟩ := h
    have hu := hu_of hr
    refine ⟨_, (pss_one (ps_ret (pe_and (pe_callB call_isi (by rfl) T.b_isinstance (by decide +kernel) (pa_cons (pv 0) (pa_cons (pe_bty "str" (by rfl) T.b_str (by decide +kernel)) pa_nil))) (pe_and (pe_cmpR op_eq (pe_callB call_len_str (by rfl) T.b_len (by decide +kernel) (pa_cons (pv 0) pa_nil)) pe_int (nomark _)) (pe_one (pe_cmpR op_in_sign (pv 0) pe_str (by rfl))))))), ?_⟩
    refine ⟨_, rfl, _, _, _, _, _, rfl, .ty _, .base (.str _), kit_ty (r := true) (by decide +kernel), _, rfl, ?_⟩
    refine iteT ⟨_, rfl, _, rfl, sl_le (Nat.le_trans hz (by decide)), rfl, ?_⟩
    by_cases h : w.length = 1
    · obtain ⟨c, rfl⟩ := one_ch h
      rw [show decide (V.int ((ch c).length : Int) = V.int 1) = true from rfl]
      refine ⟨_, rfl, iteT ⟨_, rfl, c, _, rfl, rfl, ?_⟩⟩
      rw [letter_mem]
      exact k
    · rw [show decide (V.int (w.length : Int) = V.int 1) = false from decide_eq_false fun e => h (by have := V.int.inj e; omega)]
      refine ⟨_, rfl, iteF ?_⟩
      rw [let_no h] at k
      exact k
end
end K1
namespace K1
open PySem PySem.Spec L2 Z K36 K34 K35 K38 K6 K40 CwR
section
variable {P : Program} {w : World} {K : PySem.W.Frag} {mg : Str → Option Value} {base : Heap} {C CT CN CU CA : Addr}
theorem ok_law_is_goal (T : Txt K mg C CT CN CU CA) (G__law_is_sign : Pr P w K mg base "_law_is_sign" s_law_is_sign 1 ["_law_token"] p_is_letter) : Pr P w K mg base "_law_is_goal" s_law_is_goal 2 ["_law_token"] p_is_target := by
  obtain ⟨f, fd, F, gl, bd⟩ := T.d__law_is_goal
  refine ⟨f, fd, F, gl, bd, F.ok sc_law_is_goal (fun vs H Q E h => ?_) (fun cdv A outer s H vs Q E hr h => ?_)⟩
  · obtain ⟨w, rfl, _⟩ := h
    rfl
  · obtain ⟨w, rfl, hz, k⟩ := h
    have hu := hu_of hr
    refine ⟨_, (pss_one (ps_ret (pe_or (pcall G__law_is_sign (hr.mono (by decide)) (pa_cons (pv 0) pa_nil)) (pe_one (pe_and (pe_callB call_isi (by rfl) T.b_isinstance (by decide +kernel) (pa_cons (pv 0) (pa_cons (pe_bty "str" (by rfl) T.b_str (by decide +kernel)) pa_nil))) (pe_one (pe_cmpR op_eq (pv 0) pe_str (nomark _)))))))), ?_⟩
    refine ⟨_, rfl, w, rfl, hz, _, rfl, ?_⟩
    unfold isTgt at k
    cases h : isLet w with
    | true =>
      rw [h] at k
      exact iteT k
    | false =>
      rw [h] at k
      refine iteF ?_
      refine ⟨_, rfl, _, _, _, _, _, rfl, .ty _, .base (.str _), kit_ty (r := true) (by decide +kernel), _, rfl, ?_⟩
      refine iteT ⟨_, rfl, rfl, ?_⟩
      rw [show decide (V.str w = V.str (Str.ofString "END")) = decide (w = Str.ofString "END") from decide_eq_decide.mpr ⟨fun e => V.str.inj e, fun e => congrArg V.str e⟩]
      exact k
end
end K1
namespace K1
open PySem PySem.Spec L2 Z K36 K34 K35 K38 K6 K40 CwR
section
variable {P : Program} {w : World} {K : PySem.W.Frag} {mg : Str → Option Value} {base : Heap} {C CT CN CU CA : Addr}
theorem ok_law_read_quiz (T : Txt K mg C CT CN CU CA) (G__law_ahead_word : Pr P w K mg base "_law_ahead_word" s_law_ahead_word 1 ["_law_reader"] (p_ahead K)) (G__law_next_word : Pr P w K mg base "_law_next_word" s_law_next_word 2 ["_law_reader"] (p_next K)) (G__law_is_sign : Pr P w K mg base "_law_is_sign" s_law_is_sign 1 ["_law_token"] p_is_letter) (G__law_is_goal : Pr P w K mg base "_law_is_goal" s_law_is_goal 2 ["_law_token"] p_is_target) : Pr P w K mg base "_law_read_quiz" s_law_read_quiz 3 ["_law_reader"] (p_read_quiz K) := by
  obtain ⟨f, fd, F, gl, bd⟩ := T.d__law_read_quiz
  refine ⟨f, fd, F, gl, bd, F.ok sc_law_read_quiz (fun vs H Q E h => ?_) (fun cdv A outer s H vs Q E hr h => ?_)⟩
  · obtain ⟨r, l, ws, rfl, _⟩ := h
    rfl
  · obtain ⟨r, l, ws, rfl, R, hw, k⟩ := h
    have hu := hu_of hr
    refine ⟨_, (pss_cons (ps_par (i := 1) (j := 2) rfl sc_law_read_quiz.nd rfl rfl (by decide) rfl rfl (pa_cons pe_str (pa_cons (pe_lst pa_nil) pa_nil)) (by rfl))
      (pss_cons (ps_for PassesOwn.never rfl (pi_range1 rfl T.b_range (pa_cons pe_int pa_nil)) (pg_name (i := 3) sc_law_read_quiz.nd rfl (Or.inl rfl))
      (pss_cons (ps_par3 (i := 4) (j := 5) (l := 6) rfl sc_law_read_quiz.nd rfl rfl rfl (by decide) (by decide) (by decide) rfl rfl rfl (pa_cons (pcall G__law_next_word (hr.mono (by decide)) (pa_cons (pv 0) pa_nil)) (pa_cons (pcall G__law_next_word (hr.mono (by decide)) (pa_cons (pv 0) pa_nil)) (pa_cons (pcall G__law_next_word (hr.mono (by decide)) (pa_cons (pv 0) pa_nil)) pa_nil))) (by rfl))
      (pss_cons (ps_if (PW.pt (pw_or (pt_not (pt_val (pcall G__law_is_sign (hr.mono (by decide)) (pa_cons (pv 4) pa_nil)))) (pw_or (pt_cmpR op_notIn_seq (pv 5) (pe_tup (pa_cons pe_str (pa_cons pe_str pa_nil))) (by rfl)) (pw_or1 (pt_not (pt_val (pcall G__law_is_goal (hr.mono (by decide)) (pa_cons (pv 6) pa_nil)))))))) (pss_one (ps_ret pe_non)) pss_nil)
      (pss_cons (ps_expr (pe_bm PySem.F.plainAttrs_list PySem.F.slot_list_append PySem.F.type_list_append mt_append (pv 2) (pa_cons (pe_tup (pa_cons (pv 5) (pa_cons (pv 4) (pa_cons (pv 6) pa_nil)))) pa_nil)))
      (pss_cons (ps_set (i := 7) sc_law_read_quiz.nd rfl (Or.inl rfl) (pcall G__law_ahead_word (hr.mono (by decide)) (pa_cons (pv 0) pa_nil)))
      (pss_cons (ps_if (PW.pt (pw_or (pt_cmpR op_notIn_seq (pv 7) (pe_tup (pa_cons pe_str (pa_cons pe_str pa_nil))) (by rfl)) (pw_or (pt_cmpR op_notIn_seq (pv 1) (pe_tup (pa_cons pe_str (pa_cons (pv 7) pa_nil))) (by rfl)) (pw_or1 (pt_cmpR op_eq (pv 3) pe_int (nomark _)))))) (pss_one (ps_ret (pe_tup (pa_cons (pe_ifExp (pt_cmpR op_ne (pv 1) pe_str (nomark _)) (pv 1) pe_str) (pa_cons (pe_callTy call_tupP (by rfl) T.b_tuple (by decide +kernel) (pa_cons (pv 2) pa_nil)) pa_nil))))) pss_nil)
      (pss_one (ps_set (i := 1) sc_law_read_quiz.nd rfl (Or.inl rfl) (pcall G__law_next_word (hr.mono (by decide)) (pa_cons (pv 0) pa_nil))))))))))
      (pss_one (ps_ret pe_non)))), ?_⟩
    have wl : ∀ i, (W ws i).length ≤ 20000 := fun i => by
      have := (W_ok hw i).len
      omega
    refine ⟨Nat.zero_le _, fun p hp => ⟨_, _, rfl, ?_⟩⟩
    have hwd := R.wd
    have np : p ≠ r := fun e => by rw [e, R.rd] at hp; cases hp
    have s1 := same_new (o := .lst []) hp
    have e1 : upd H p (.lst []) p = some (.lst ([] : List V)) := upd_same
    have R1 := R.same s1
    generalize upd H p (.lst []) = H1 at s1 e1 R1 ⊢
    refine ⟨3, rfl, by decide, by decide, ?_⟩
    refine for_range (lo := 0) (n := 3) (fun i σ H' => Chg r H H' ∧ ∃ (jt : Str) (rs : List Addr) (f : List Tri) (x3 x4 x5 x6 x7 : Option V), σ = [some (.ref r), some (.str jt), some (.ref p), x3, x4, x5, x6, x7] ∧ jt.length ≤ 20000 ∧ H' p = some (.lst (rs.map V.ref)) ∧ Trs K H' rs f ∧ f.length = i ∧ RdAt K H' r l ws (4 * i) ∧ rd 3 ws 0 sE [] = rd (3 - i) ws (4 * i) jt f)
      ⟨.of s1, sE, [], [], _, _, _, _, _, rfl, by decide +kernel, e1, .nil, rfl, R1, rfl⟩ ?_ ?_
    case refine_2 =>
      rintro σ H' ⟨c, jt, rs, f, x3, x4, x5, x6, x7, rfl, _, _, _, _, R', e⟩
      have e2 : rd 3 ws 0 sE [] = (none, 4 * 3) := e
      exact (k H' c (by rw [e2]; exact R')).1 (by rw [e2])
    rintro i σ H2 hi ⟨c2, jt, rs, f, x3, x4, x5, x6, x7, rfl, hj, hk, htr, hlen, R2, e⟩
    obtain ⟨t, ht⟩ : ∃ t, 3 - i = t + 1 := ⟨2 - i, by omega⟩
    rw [ht] at e
    have hrs : rs.length = f.length := Paired.len htr
    refine ⟨_, rfl, r, l, ws, 4 * i, rfl, R2, fun H3 c3 R3 => ⟨_, rfl, r, l, ws, _, rfl, R3, fun H4 c4 R4 => ⟨_, rfl, r, l, ws, _, rfl, R4, fun H5 c5 R5 => ⟨_, _, _, rfl, ?_⟩⟩⟩⟩
    have c25 := (c3.trans c4).trans c5
    have hk5 := c25 _ _ hk np
    have im5 := Chg.imm c25 R2.rd trivial
    have htr5 := htr.imm im5
    have c05 := c2.trans c25
    have non : ∀ H', Same H5 H' → trip (W ws (4 * i)) (W ws (4 * i + 1)) (W ws (4 * i + 2)) = false → Q .non H' := fun H' s h => by
      have e2 := e.trans (rd_no h)
      exact (k H' (c05.trans (.of s)) (by rw [e2]; exact R5.same s)).1 (by rw [e2])
    refine ⟨_, rfl, W ws (4 * i), rfl, wl _, _, rfl, ?_⟩
    cases h1 : isLet (W ws (4 * i))
    · exact iteT (non H5 (fun _ _ h => h) (trip_1 h1))
    refine iteF ⟨_, rfl, sl_le (by show 2 ≤ 1000000; decide), fun q hq => ?_⟩
    have s6 := same_new (o := .tup [V.str (Str.ofString "="), V.str (Str.ofString "!=")]) hq
    have e6 : upd H5 q (.tup [V.str (Str.ofString "="), V.str (Str.ofString "!=")]) q = some (.tup [V.str (Str.ofString "="), V.str (Str.ofString "!=")]) := upd_same
    generalize upd H5 q (.tup [V.str (Str.ofString "="), V.str (Str.ofString "!=")]) = H6 at s6 e6 ⊢
    refine ⟨q, _, rfl, .inr (.inl (.inl e6)), rfl, rfl, _, rfl, ?_⟩
    rw [show inV (V.str (W ws (4 * i + 1))) [V.str (Str.ofString "="), V.str (Str.ofString "!=")] = isMk (W ws (4 * i + 1)) from in_mk _]
    cases h2 : isMk (W ws (4 * i + 1))
    · exact iteT (non H6 s6 (trip_2 h2))
    refine iteF ⟨_, rfl, W ws (4 * i + 2), rfl, wl _, _, rfl, ?_⟩
    cases h3 : isTgt (W ws (4 * i + 2))
    · exact iteT (non H6 s6 (trip_3 h3))
    refine iteF ?_
    have ok3 : trip (W ws (4 * i)) (W ws (4 * i + 1)) (W ws (4 * i + 2)) = true := trip_t h1 h2 h3
    have hk6 := s6 _ _ hk5
    refine ⟨_, rfl, .inl ⟨rfl, _, .inl (.inl hk6)⟩, _, rfl, _, rfl, _, rfl, sl_le (by show 3 ≤ 1000000; decide), fun u hu => ?_⟩
    have s7 := s6.trans (same_new (o := .tup [V.str (W ws (4 * i + 1)), V.str (W ws (4 * i)), V.str (W ws (4 * i + 2))]) hu)
    have e7 : upd H6 u (.tup [V.str (W ws (4 * i + 1)), V.str (W ws (4 * i)), V.str (W ws (4 * i + 2))]) u = some (.tup (triV (W ws (4 * i + 1), W ws (4 * i), W ws (4 * i + 2)))) := upd_same
    generalize upd H6 u (.tup [V.str (W ws (4 * i + 1)), V.str (W ws (4 * i)), V.str (W ws (4 * i + 2))]) = H7 at s7 e7 ⊢
    have hk7 := s7 _ _ hk5
    refine ⟨p, _, _, rfl, rfl, hk7, by rw [List.length_map, hrs, hlen]; exact Nat.lt_of_lt_of_le (show i < 100 by omega) (sl_le (by decide)), ?_⟩
    have nu : u ≠ p := fun z => by rw [z, hk7] at e7; cases e7
    have im8 : Imm H7 (upd H7 p (.lst (rs.map V.ref ++ [V.ref u]))) := Chg.imm Chg.upd hk7 trivial
    have e8 : upd H7 p (.lst (rs.map V.ref ++ [V.ref u])) p = some (.lst ((rs ++ [u]).map V.ref)) := by rw [upd_same, List.map_append]; rfl
    have htr8 : Trs K (upd H7 p (.lst (rs.map V.ref ++ [V.ref u]))) (rs ++ [u]) (f ++ [(W ws (4 * i + 1), W ws (4 * i), W ws (4 * i + 2))]) := ((htr5.imm (.of s7)).imm im8).snoc (.inl (.inl (by rw [upd_ne nu]; exact e7)))
    have c08 : Chg r H (upd H7 p (.lst (rs.map V.ref ++ [V.ref u]))) := chg_new (c05.trans (.of s7)) hp
    have R8 : RdAt K (upd H7 p (.lst (rs.map V.ref ++ [V.ref u]))) r l ws (4 * i + 3) := by
      have R7 := R5.same s7
      refine ⟨by rw [upd_ne np.symm]; exact R7.rd, by rw [upd_ne (fun z => by rw [z, hp] at hwd; cases hwd)]; exact R7.wd, R7.ne⟩
    generalize upd H7 p (.lst (rs.map V.ref ++ [V.ref u])) = H8 at im8 e8 htr8 c08 R8 ⊢
    refine ⟨_, rfl, r, l, ws, 4 * i + 3, rfl, R8, ?_⟩
    have ret : ∀ H', Same H8 H' → (isJt (W ws (4 * i + 3)) = false ∨ (jt ≠ sE ∧ jt ≠ W ws (4 * i + 3)) ∨ t = 0) → (tRet (tTup (tCons (tIf (tTest (tOp rNe (tVar 1) (tC (V.str (Str.ofString ""))))) (tVar 1) (tC (V.str (Str.ofString "and")))) (tCons (tCB (rTupP K) (tCons (tVar 2) tNil)) tNil)))) { nx := fun x H' => Q V.non H', rt := Q } [some (.ref r), some (.str jt), some (.ref p), some (.int (0 + (i : Int))), some (.str (W ws (4 * i))), some (.str (W ws (4 * i + 1))), some (.str (W ws (4 * i + 2))), some (.str (W ws (4 * i + 3)))] H' := fun H' s' hc => by
      have e2 := e.trans (rd_end ok3 hc)
      have fin : ∀ (H9 : Hp) (q1 q2 : Addr), Same H8 H9 → SqT K H9 q2 [.str (if jt ≠ sE then jt else Str.ofString "and"), .ref q1] → SqT K H9 q1 ((rs ++ [u]).map V.ref) → Q (.ref q2) H9 := fun H9 q1 q2 s9 h1 h2 =>
        (k H9 (c08.trans (.of s9)) (by rw [e2]; exact R8.same s9)).2 _ _ (by rw [e2]) ⟨q2, q1, _, rfl, h1, h2, htr8.imm (.of s9)⟩
      refine ⟨_, rfl, rfl, _, rfl, ?_⟩
      rw [dec_st]
      have tail : ∀ x : Str, x = (if jt ≠ sE then jt else Str.ofString "and") → (tCons (tCB (rTupP K) (tCons (tVar 2) tNil)) tNil) [some (.ref r), some (.str jt), some (.ref p), some (.int (0 + (i : Int))), some (.str (W ws (4 * i))), some (.str (W ws (4 * i + 1))), some (.str (W ws (4 * i + 2))), some (.str (W ws (4 * i + 3)))] H' fun xs H2 => (V.str x :: xs).length ≤ sizeLine ∧ ∀ p, H2 p = none → Q (V.ref p) (upd H2 p (.tup (V.str x :: xs))) := fun x hx => by
        refine ⟨_, rfl, p, _, rfl, .inl (.inl (s' _ _ e8)), fun q o hq ho => ⟨sl_le (by show 2 ≤ 1000000; decide), fun v hv => ?_⟩⟩
        have s9 := s'.trans ((same_new (o := .frz o (.tup ((rs ++ [u]).map V.ref))) hq).trans (same_new (o := .tup [V.str x, V.ref q]) hv))
        exact fin _ q v s9 (.inl (.inl (by rw [upd_same, hx]))) (SqT.imm (.of (same_new hv)) (.inl (.inr ⟨o, upd_same⟩)))
      by_cases hjt : jt = sE
      · rw [show decide (jt = Str.ofString "") = true from decide_eq_true hjt]
        exact iteF (tail _ (by rw [if_neg (fun z => z hjt)]))
      · rw [show decide (jt = Str.ofString "") = false from decide_eq_false hjt]
        exact iteT ⟨_, rfl, tail _ (by rw [if_pos hjt])⟩
    refine ⟨_, rfl, sl_le (by show 2 ≤ 1000000; decide), fun q9 hq9 => ?_⟩
    have s9 := same_new (o := .tup [V.str (Str.ofString "and"), V.str (Str.ofString "or")]) hq9
    have e9 : upd H8 q9 (.tup [V.str (Str.ofString "and"), V.str (Str.ofString "or")]) q9 = some (.tup [V.str (Str.ofString "and"), V.str (Str.ofString "or")]) := upd_same
    generalize upd H8 q9 (.tup [V.str (Str.ofString "and"), V.str (Str.ofString "or")]) = H9 at s9 e9 ⊢
    refine ⟨q9, _, rfl, .inr (.inl (.inl e9)), rfl, rfl, _, rfl, ?_⟩
    rw [show inV (V.str (W ws (4 * i + 3))) [V.str (Str.ofString "and"), V.str (Str.ofString "or")] = isJt (W ws (4 * i + 3)) from in_jt _]
    cases hj3 : isJt (W ws (4 * i + 3))
    · exact iteT (ret H9 s9 (.inl hj3))
    refine iteF ⟨_, rfl, _, rfl, sl_le (by show 2 ≤ 1000000; decide), fun qa hqa => ?_⟩
    have sa := s9.trans (same_new (o := .tup [V.str (Str.ofString ""), V.str (W ws (4 * i + 3))]) hqa)
    have ea : upd H9 qa (.tup [V.str (Str.ofString ""), V.str (W ws (4 * i + 3))]) qa = some (.tup [V.str (Str.ofString ""), V.str (W ws (4 * i + 3))]) := upd_same
    generalize upd H9 qa (.tup [V.str (Str.ofString ""), V.str (W ws (4 * i + 3))]) = Ha at sa ea ⊢
    refine ⟨qa, _, rfl, .inr (.inl (.inl ea)), rfl, rfl, _, rfl, ?_⟩
    rw [show inV (V.str jt) [V.str (Str.ofString ""), V.str (W ws (4 * i + 3))] = (decide (jt = sE) || decide (jt = W ws (4 * i + 3))) from in_two _ _ _]
    by_cases hc : jt ≠ sE ∧ jt ≠ W ws (4 * i + 3)
    · rw [decide_eq_false hc.1, decide_eq_false hc.2]
      exact iteT (ret Ha sa (.inr (.inl hc)))
    rw [show (decide (jt = sE) || decide (jt = W ws (4 * i + 3))) = true from by
      rw [Bool.or_eq_true, decide_eq_true_eq, decide_eq_true_eq]
      by_cases z : jt = sE
      · exact .inl z
      · exact .inr (Classical.byContradiction fun z2 => hc ⟨z, z2⟩)]
    refine iteF ⟨_, rfl, rfl, _, rfl, ?_⟩
    by_cases h0 : t = 0
    · rw [show decide (V.int (0 + (i : Int)) = V.int 2) = true from decide_eq_true (by congr 1; omega)]
      exact iteT (ret Ha sa (.inr (.inr h0)))
    rw [show decide (V.int (0 + (i : Int)) = V.int 2) = false from decide_eq_false (fun z => h0 (by have := V.int.inj z; omega))]
    refine iteF ?_
    have e2 := e.trans (rd_go ok3 (fun z => by
      rcases z with z | z | z
      · rw [hj3] at z
        cases z
      · exact hc z
      · exact h0 z))
    refine ⟨_, rfl, r, l, ws, 4 * i + 3, rfl, R8.same sa, fun Hb cb Rb => ?_⟩
    have cab := (Chg.of (j := r) sa).trans cb
    refine ⟨c08.trans cab, W ws (4 * i + 3), _, _, _, _, _, _, _, rfl, wl _, cab _ _ e8 np, htr8.imm (Chg.imm cab R8.rd trivial), by rw [List.length_append, hlen]; rfl, Rb, ?_⟩
    rw [e2, show 3 - (i + 1) = t by omega]
    rfl
end
end K1
namespace K1
open PySem PySem.Spec L2 Z K36 K34 K35 K38 K6 K40 CwR
section
variable {P : Program} {w : World} {K : PySem.W.Frag} {mg : Str → Option Value} {base : Heap} {C CT CN CU CA : Addr}
theorem ok_law_quiz_read (T : Txt K mg C CT CN CU CA) (G__law_read_quiz : Pr P w K mg base "_law_read_quiz" s_law_read_quiz 3 ["_law_reader"] (p_read_quiz K)) : Pr P w K mg base "_law_quiz_read" s_law_quiz_read 4 ["_law_said"] (p_quiz_read K) := by
  obtain ⟨f, fd, F, gl, bd⟩ := T.d__law_quiz_read
  refine ⟨f, fd, F, gl, bd, F.ok sc_law_quiz_read (fun vs H Q E h => ?_) (fun cdv A outer s H vs Q E hr h => ?_)⟩
  · obtain ⟨x, rfl, _⟩ := h
    rfl
  · obtain ⟨x, rfl, hx, k⟩ := h
    have hu := hu_of hr
    refine ⟨_, (pss_cons (ps_set (i := 1) sc_law_quiz_read.nd rfl (Or.inl rfl) (pe_lst (pa_cons (pe_split (pv 0) pe_str) (pa_cons pe_int (pa_cons pe_int pa_nil)))))
      (pss_cons (ps_set (i := 2) sc_law_quiz_read.nd rfl (Or.inl rfl) (pcall G__law_read_quiz (hr.mono (by decide)) (pa_cons (pv 1) pa_nil)))
      (pss_one (ps_ret (pe_ifExp (PW.pt (pw_and (pt_cmp (pc_notN (pv 2)) rfl) (pw_and1 (pt_cmpR op_eq (pe_ix ix_list (pv 1) pe_int (fun _ _ => rfl)) (pe_callB call_len_seq (by rfl) T.b_len (by decide +kernel) (pa_cons (pe_ix ix_list (pv 1) pe_int (fun _ _ => rfl)) pa_nil)) (nomark _))))) (pv 2) pe_non))))), ?_⟩
    have sl := spl_len x
    have xl := hx.len
    refine ⟨_, rfl, ⟨_, rfl⟩, x, _, rfl, rfl, by decide +kernel, sl_le (by omega), fun l hl => ⟨sl_le (by show 3 ≤ 1000000; decide), fun r hr => ?_⟩⟩
    have s1 := same_new (o := .lst ((spl x).map V.str)) hl
    have e1 : upd H l (.lst ((spl x).map V.str)) l = some (.lst ((spl x).map V.str)) := upd_same
    have s2 := s1.trans (same_new (o := .lst [V.ref l, V.int 0, V.int 0]) hr)
    have R : RdAt K (upd (upd H l (.lst ((spl x).map V.str))) r (.lst [V.ref l, V.int 0, V.int 0])) r l (spl x) 0 := ⟨upd_same, same_new hr _ _ e1, ne_of_none e1 hr⟩
    refine ⟨_, rfl, r, l, spl x, rfl, R, fun w hw => spl_ok hx w hw, fun H' c R' => ?_⟩
    have rn : H r = none := none_of s1 hr
    have s3 : Same H H' := fun b o e => c b o (s2 _ _ e) (ne_of_none e rn)
    refine ⟨fun e => ?_, fun q u e hq => ?_⟩
    · refine ⟨_, rfl, false, rfl, iteF ?_⟩
      refine k.1 ?_ H' s3
      unfold tst
      rw [e]
      split <;> rfl
    · have hq2 := hq
      obtain ⟨a, b, rs, rfl, _⟩ := hq2
      refine ⟨_, rfl, true, rfl, iteT ⟨_, rfl, r, _, 1, _, rfl, rfl, .inl (.inl R'.rd), at_snd, _, rfl, r, _, 0, _, rfl, rfl, .inl (.inl R'.rd), at_first, l, _, rfl, .inl (.inl (.inl R'.wd)), rfl, _, rfl, ?_⟩⟩
      rw [List.length_map]
      by_cases hp : (rd 3 (spl x) 0 sE []).2 = (spl x).length
      · rw [show decide (V.int (((rd 3 (spl x) 0 sE []).2 : Nat) : Int) = V.int (((spl x).length : Nat) : Int)) = true from decide_eq_true (by rw [hp])]
        refine iteT ⟨_, rfl, k.2 q ?_ H' _ s3 hq⟩
        unfold tst
        rw [if_pos hp, e]
      · rw [show decide (V.int (((rd 3 (spl x) 0 sE []).2 : Nat) : Int) = V.int (((spl x).length : Nat) : Int)) = false from decide_eq_false (fun z => hp (by have := V.int.inj z; omega))]
        refine iteF (k.1 ?_ H' s3)
        unfold tst
        rw [if_neg hp]
end
end K1
namespace K1
open PySem PySem.Spec L2 Z K36 K34 K35 K38 K6 K40 CwR
section
variable {P : Program} {w : World} {K : PySem.W.Frag} {mg : Str → Option Value} {base : Heap} {C CT CN CU CA : Addr}
theorem ok_law_lacking (T : Txt K mg C CT CN CU CA)  : Pr P w K mg base "_law_lacking" s_law_lacking 1 ["_law_homes", "_law_some"] b_lacking := by
  obtain ⟨f, fd, F, gl, bd⟩ := T.d__law_lacking
  refine ⟨f, fd, F, gl, bd, F.ok sc_law_lacking (fun vs H Q E h => ?_) (fun cdv A outer s H vs Q E hr h => ?_)⟩
  · obtain ⟨d, l, ns, ws, rfl, _⟩ := h
    rfl
  · obtain ⟨d, l, ns, ws, rfl, hd, hl, ht, hw, k⟩ := h
    have hu := hu_of hr
    refine ⟨_, (pss_one (ps_ret (pe_lc (own := [("_law_sign", 2)]) (g := gName 2) rfl sc_law_lacking.nd (pi_list (pe_callB cr_sortedS (by rfl) T.b_sorted (by decide +kernel) (pa_cons (pv 1) pa_nil))) (blkOk_by (own := [("_law_sign", 2)]) (N := N_law_lacking) (sc := defScope s_law_lacking) (by decide +kernel)) (fun _ _ _ _ _ => (pg_name (i := 2) sc_law_lacking.nd rfl (Or.inl rfl))) (fun _ _ _ _ _ => (pts_one (PW.pt (pw_and (pt_cmpR op_ne (pv 2) pe_str (nomark _)) (pw_and1 (pt_cmp (pc_dnotin hu (pv 2) (pv 0)))))))) (fun _ _ _ _ _ => (pv 2))))), ?_⟩
    refine ⟨_, rfl, l, ws, rfl, .inl (.inl hl), by omega, fun ys p perm srt hp => ⟨p, rfl, ⟨_, .inl (.inl upd_same)⟩, fun D2 hD2 => ?_⟩⟩
    have s2 := same_new (o := .lst (ys.map V.str)) hp
    have e2 : upd H p (.lst (ys.map V.str)) p = some (.lst (ys.map V.str)) := upd_same
    generalize upd H p (.lst (ys.map V.str)) = H2 at s2 e2 hD2 ⊢
    have yl := perm.length_eq
    refine lcW (fun w => !decide (w = s_ "END") && !decide (w ∈ ns.map fun p => ch p.1)) e2 hD2 (by omega) (fun w H3 R1 R2 _ s3 h1 h2 => ?_) (fun H3 s3 e3 => ?_)
    · refine ⟨rfl, _, rfl, rfl, _, rfl, ?_⟩
      rw [dec_st]
      cases e : decide (w = Str.ofString "END") with
      | true => exact iteF (iteF (h1 H3 (fun _ _ h => h) (by show (!decide (w = Str.ofString "END") && _) = false; rw [e]; rfl)))
      | false =>
        have hd3 := s3 _ _ (s2 _ _ hd)
        have dg := DGet.k (k := (Sum.inr w : Key)) hd3
        refine iteT ⟨_, rfl, _, rfl, d, _, rfl, dg, ?_⟩
        rw [val_in]
        cases e' : decide (w ∈ ns.map fun p => ch p.1) with
        | true => exact ⟨_, rfl, iteF (h1 H3 (fun _ _ h => h) (by show (!decide (w = Str.ofString "END") && !decide (w ∈ ns.map fun p => ch p.1)) = false; rw [e, e']; rfl))⟩
        | false => exact ⟨_, rfl, iteT ⟨_, rfl, h2 H3 (fun _ _ h => h) (by show (!decide (w = Str.ofString "END") && !decide (w ∈ ns.map fun p => ch p.1)) = true; rw [e, e']; rfl)⟩⟩
    have fl := List.length_filter_le (fun w => !decide (w = s_ "END") && !decide (w ∈ ns.map fun p => ch p.1)) ys
    exact k H3 D2 _ (s2.trans s3) (none_of s2 hD2) e3 (by omega) (fun u hu => ht u (perm.mem_iff.mp (List.mem_filter.mp hu).1)) (head_lack perm srt ht)
end
end K1
namespace K1
open PySem PySem.Spec L2 Z K36 K34 K35 K38 K6 K40 CwR
section
variable {P : Program} {w : World} {K : PySem.W.Frag} {mg : Str → Option Value} {base : Heap} {C CT CN CU CA : Addr}
theorem ok_law_is_so (T : Txt K mg C CT CN CU CA)  : Pr P w K mg base "_law_is_so" s_law_is_so 1 ["_law_homes", "_law_quiz_here"] (b_so K) := by
  obtain ⟨f, fd, F, gl, bd⟩ := T.d__law_is_so
  refine ⟨f, fd, F, gl, bd, F.ok sc_law_is_so (fun vs H Q E h => ?_) (fun cdv A outer s H vs Q E hr h => ?_)⟩
  · obtain ⟨v, q, d, ns, rfl, _⟩ := h
    rfl
  · obtain ⟨v, q, d, ns, rfl, ⟨a, b, rs, rfl, ha, hb, ht⟩, ok, hd, nd, hk, k⟩ := h
    have hu := hu_of hr
    refine ⟨_, (pss_cons (ps_setLc (i := 2) (own := [("_law_mark", 3), ("_law_one", 4), ("_law_two", 5)]) (g := gTup K 3 (gCons (gName 3) (gCons (gName 4) (gCons (gName 5) gNil)))) (tt := tYes) rfl sc_law_is_so.nd rfl rfl (sw_true rfl rfl rfl (by decide +kernel)) (pi_tup (pe_ix ix_tup (pv 1) pe_int (fun _ _ => rfl))) (blkOk_by (own := [("_law_mark", 3), ("_law_one", 4), ("_law_two", 5)]) (N := N_law_is_so) (sc := defScope s_law_is_so) (by decide +kernel)) (fun _ _ _ _ _ => (pg_tup rfl (pgs_cons (pg_name (i := 3) sc_law_is_so.nd rfl (Or.inl rfl)) (pgs_cons (pg_name (i := 4) sc_law_is_so.nd rfl (Or.inl rfl)) (pgs_cons (pg_name (i := 5) sc_law_is_so.nd rfl (Or.inl rfl)) pgs_nil))))) (fun _ _ _ _ _ => pts_nil) (fun _ _ _ _ _ => (pe_cmpR op_eq (pe_cmpR op_eq (pe_dget hu (pv 0) (pv 4) (fun _ _ => rfl)) (pe_ifExp (pt_cmpR op_eq (pv 5) pe_str (nomark _)) pe_int (pe_dget hu (pv 0) (pv 5) (fun _ _ => rfl))) (nomark _)) (pe_cmpR op_eq (pv 3) pe_str (nomark _)) (nomark _))))
      (pss_one (ps_ret (pe_ifExp (pt_cmpR op_eq (pe_ix ix_tup (pv 1) pe_int (fun _ _ => rfl)) pe_str (nomark _)) (pe_callB (cr_all rfl) (by rfl) T.b_all (by decide +kernel) (pa_cons (pv 2) pa_nil)) (pe_callB (cr_anyD rfl) (by rfl) T.b_any (by decide +kernel) (pa_cons (pv 2) pa_nil)))))), ?_⟩
    have hlen : rs.length = q.2.length := Paired.len ht
    have few := ok.few
    unfold tSeq tAsg
    dsimp only
    refine lcT (rs.zip q.2) (fun p => V.ref p.1) (fun _ => true) (fun p => V.bl (oneB ns p.2)) (by rw [List.length_zip]; omega) (fun R hR => ?_) (fun p H' R1 R2 hp s1 h1 h2 => ?_) (fun H' D s1 hD he => ?_)
    · exact ⟨_, rfl, a, _, 1, _, rfl, rfl, ha, at_snd, hR b H (fun _ _ h => h) (by rw [zip_1 V.ref hlen]; exact hb)⟩
    · obtain ⟨hr', hm⟩ := Trs.mem (ht.imm (.of s1)) hp
      obtain ⟨l1, l2, l3⟩ := trip_parts (ok.tri _ hm)
      obtain ⟨w1, w2⟩ := wq_mem hm
      have hd1 := s1 _ _ hd
      have D1 := get_at hd1 nd (hk _ w1) l1
      refine ⟨p.1, _, rfl, hr', rfl, _, _, rfl, _, _, rfl, _, _, rfl, rfl, rfl, yesI ?_⟩
      have go : ∀ v : Int, v = valN ns p.2.2.2 → R2 (V.bl (decide (V.bl (decide (V.int (valN ns p.2.2.1) = V.int v)) = V.bl (decide (V.str p.2.1 = V.str (Str.ofString "=")))))) H' := fun v e => by
        rw [dec_st, eq_int, eq_bl, e, Bool.beq_comm]
        exact h2 H' (fun _ _ h => h) rfl
      refine ⟨_, rfl, _, rfl, d, _, rfl, D1, _, rfl, rfl, _, rfl, ?_⟩
      rw [dec_st]
      by_cases h : p.2.2.2 = Str.ofString "END"
      · rw [decide_eq_true h]
        exact iteT ⟨rfl, _, rfl, rfl, rfl, go 0 (by rw [h, valN_end])⟩
      · rw [decide_eq_false h]
        have l2' : isLet p.2.2.2 = true := by
          rcases tgt_two l3 with ⟨c, e, c1, c2⟩ | e
          · rw [e, ch_let, decide_eq_true c1, decide_eq_true c2]; rfl
          · exact absurd e h
        exact iteF ⟨_, rfl, _, rfl, d, _, rfl, get_at hd1 nd (hk _ w2) l2', rfl, _, rfl, rfl, rfl, go _ rfl⟩
    have e : ((rs.zip q.2).filter fun _ => true).map (fun p => V.bl (oneB ns p.2)) = (q.2.map (oneB ns)).map V.bl := by
      rw [zip_2 (fun t => V.bl (oneB ns t)) hlen, List.map_map]
      rfl
    rw [e] at he
    have ha1 := SqT.imm (.of s1) ha
    have kk := k H' s1
    rw [holds_if] at kk
    refine ⟨_, rfl, a, _, 0, _, rfl, rfl, ha1, at_first, rfl, _, rfl, ?_⟩
    rw [dec_st]
    cases hq : decide (q.1 = s_ "and") with
    | true =>
      rw [hq, if_pos rfl] at kk
      exact iteT ⟨_, rfl, D, _, rfl, .inl (.inl he), kk⟩
    | false =>
      rw [hq, if_neg (by decide)] at kk
      exact iteF ⟨_, rfl, any_bls he kk⟩
end
end K1
namespace K1
open PySem PySem.Spec L2 Z K36 K34 K35 K38 K6 K40 CwR
section
variable {P : Program} {w : World} {K : PySem.W.Frag} {mg : Str → Option Value} {base : Heap} {C CT CN CU CA : Addr}
theorem ok_law_due (T : Txt K mg C CT CN CU CA) (G__law_lacking : Pr P w K mg base "_law_lacking" s_law_lacking 1 ["_law_homes", "_law_some"] b_lacking) (G__law_is_so : Pr P w K mg base "_law_is_so" s_law_is_so 1 ["_law_homes", "_law_quiz_here"] (b_so K)) : Pr P w K mg base "_law_due" s_law_due 2 ["_law_mine", "_law_quiz_here"] (b_due K) := by
  obtain ⟨f, fd, F, gl, bd⟩ := T.d__law_due
  refine ⟨f, fd, F, gl, bd, F.ok sc_law_due (fun vs H Q E h => ?_) (fun cdv A outer s H vs Q E hr h => ?_)⟩
  · obtain ⟨s, v, ns, cs, q, rfl, _⟩ := h
    rfl
  · obtain ⟨sx, v, ns, cs, q, rfl, ⟨d0, d1, h0, h1, h2⟩, okn, ⟨a, b, rs, rfl, ha, hb, ht⟩, ok, k⟩ := h
    have hu := hu_of hr
    refine ⟨_, (pss_cons (ps_set (i := 2) sc_law_due.nd rfl (Or.inl rfl) (pe_lst pa_nil))
      (pss_cons (ps_for PassesOwn.never rfl (pi_tup (pe_ix ix_tup (pv 1) pe_int (fun _ _ => rfl))) (pg_tup rfl (pgs_cons (pg_name (i := 3) sc_law_due.nd rfl (Or.inl rfl)) (pgs_cons (pg_name (i := 4) sc_law_due.nd rfl (Or.inl rfl)) (pgs_cons (pg_name (i := 5) sc_law_due.nd rfl (Or.inl rfl)) pgs_nil))))
      (pss_one (ps_set (i := 2) sc_law_due.nd rfl (Or.inl rfl) (pe_op op_cat (pv 2) (pe_lst (pa_cons (pv 4) (pa_cons (pv 5) pa_nil)))))))
      (pss_cons (ps_set (i := 6) sc_law_due.nd rfl (Or.inl rfl) (pcall G__law_lacking (hr.mono (by decide)) (pa_cons (pe_ix ix_list (pv 0) pe_int (fun _ _ => rfl)) (pa_cons (pv 2) pa_nil))))
      (pss_one (ps_ret (pe_ifExp (pt_cmpR (op_neD hr.units) (pv 6) (pe_lst pa_nil) (nomark _)) (pe_lst (pa_cons pe_str (pa_cons (pe_ix ix_list (pv 6) pe_int (fun _ _ => rfl)) (pa_cons pe_bl pa_nil)))) (pe_lst (pa_cons pe_str (pa_cons (pcall G__law_is_so (hr.mono (by decide)) (pa_cons (pe_ix ix_list (pv 0) pe_int (fun _ _ => rfl)) (pa_cons (pv 1) pa_nil))) pa_nil))))))))), ?_⟩
    have few := ok.few
    have rl : rs.length = q.2.length := Paired.len ht
    have nd := nd_asc okn.asc
    refine ⟨Nat.zero_le _, fun l0 hl0 => ?_⟩
    have s1 := same_new (o := .lst []) hl0
    have e1 : upd H l0 (.lst []) l0 = some (.lst (([] : List Str).map V.str)) := upd_same
    generalize upd H l0 (.lst []) = H1 at s1 e1 ⊢
    refine ⟨_, rfl, a, _, 1, _, rfl, rfl, SqT.imm (.of s1) ha, at_snd, b, rfl, ⟨_, SqT.imm (.of s1) hb⟩, ?_⟩
    refine for_tup (xs := rs.map V.ref) (fun j σ H' => Same H H' ∧ ∃ (p' : Addr) (y3 y4 y5 : Option V), H p' = none ∧ σ = [some (.ref sx), some (.ref a), some (.ref p'), y3, y4, y5, none] ∧ H' p' = some (.lst ((wordsT (q.2.take j)).map V.str))) ⟨s1, l0, _, _, _, hl0, rfl, e1⟩ (fun j σ H' _ h => SqT.imm (.of h.1) hb) ?_ ?_
    · rintro j y σ H4 hj ⟨s4, p4, y3, y4, y5, hp4, rfl, k4⟩
      obtain ⟨r, hr1, rfl⟩ := map_at hj
      obtain ⟨tr, ht1, hrt⟩ := Paired.at ht hr1
      have jl : j < rs.length := (List.getElem?_eq_some_iff.mp hr1).1
      have wl : (wordsT (q.2.take j)).length ≤ 2 * j := by
        rw [wT_len, List.length_take]
        omega
      refine ⟨r, _, rfl, SqT.imm (.of s4) hrt, rfl, _, _, rfl, _, _, rfl, _, _, rfl, rfl, _, rfl, _, rfl, _, rfl, sl_le (by show 2 ≤ 1000000; decide), fun q6 hq6 => ?_⟩
      have s6 := same_new (o := .lst [V.str tr.2.1, V.str tr.2.2]) hq6
      refine ⟨p4, q6, _, _, rfl, rfl, s6 _ _ k4, upd_same, sl_le (by rw [List.length_map]; show _ + 2 ≤ _; omega), fun q7 hq7 => ?_⟩
      have s7 := same_new (o := .lst ((wordsT (q.2.take j)).map V.str ++ [V.str tr.2.1, V.str tr.2.2])) hq7
      have e : wordsT (q.2.take j ++ [tr]) = wordsT (q.2.take j) ++ [tr.2.1, tr.2.2] := by simp [wordsT]
      exact ⟨s4.trans (s6.trans s7), q7, _, _, _, none_of s4 (none_of s6 hq7), rfl, by rw [upd_same, take_snoc ht1, e, List.map_append]; rfl⟩
    rintro σ H4 ⟨s4, p4, y3, y4, y5, hp4, rfl, k4⟩
    rw [List.length_map, rl, List.take_length] at k4
    refine ⟨_, rfl, sx, _, 0, _, rfl, rfl, .inl (.inl (s4 _ _ h0)), at_first, _, rfl, d0, p4, ns, wordsQ q, rfl, s4 _ _ h1, k4, wQ_tgt ok, by show (wordsT q.2).length ≤ 60; rw [wT_len]; omega, fun H5 p5 us s5 hp5 e5 ul ut uh => ?_⟩
    have s05 := s4.trans s5
    have so : ∀ z ∈ us, PyData.strOk z = true := fun z hz => (tx_tgt (ut z hz)).strOk
    refine ⟨_, rfl, Nat.zero_le _, fun q6 hq6 => ne_emp e5 so hq6 (fun H6 s6 => ?_)⟩
    have s06 := s05.trans s6
    cases us with
    | nil =>
      have hl : lack q ns = none := by
        cases e : lack q ns with
        | none => rfl
        | some c =>
          have e' : firstNo (sgc (wordsQ q)) ns = some c := e
          rw [e'] at uh
          cases uh
      have qa := s06
      refine ⟨_, rfl, iteF ⟨_, rfl, sx, _, 0, _, rfl, rfl, .inl (.inl (s06 _ _ h0)), at_first, _, rfl, .ref a, q, d0, ns, rfl, ⟨a, b, rs, rfl, SqT.imm (.of s06) ha, SqT.imm (.of s06) hb, Trs.imm (.of s06) ht⟩, ok, s06 _ _ h1, nd, known_all ok hl, fun H7 s7 => ⟨sl_le (by show 2 ≤ 1000000; decide), fun r hr => ?_⟩⟩⟩
      refine k _ _ (s06.trans (s7.trans (same_new hr))) ?_
      rw [upd_same]
      unfold dueL
      rw [hl]
    | cons u r6 =>
      have hu' : (firstNo (sgc (wordsQ q)) ns).map ch = some u := uh.symm
      cases e : firstNo (sgc (wordsQ q)) ns with
      | none => rw [e] at hu'; cases hu'
      | some c =>
        rw [e] at hu'
        obtain rfl := Option.some.inj hu'
        refine ⟨_, rfl, iteT ⟨_, rfl, p5, _, 0, _, rfl, rfl, .inl (.inl (s6 _ _ e5)), at_first, sl_le (by show 3 ≤ 1000000; decide), fun r hr => ?_⟩⟩
        refine k _ _ (s06.trans (same_new hr)) ?_
        rw [upd_same]
        have e' : lack q ns = some c := e
        unfold dueL
        rw [e']
end
end K1
namespace K1
open PySem PySem.Spec L2 Z K36 K34 K35 K38 K6 K40 CwR
section
variable {P : Program} {w : World} {K : PySem.W.Frag} {mg : Str → Option Value} {base : Heap} {C CT CN CU CA : Addr}
theorem ok_law_shown (T : Txt K mg C CT CN CU CA)  : Pr P w K mg base "_law_shown" s_law_shown 1 ["_law_mine"] q_text := by
  obtain ⟨f, fd, F, gl, bd⟩ := T.d__law_shown
  refine ⟨f, fd, F, gl, bd, F.ok sc_law_shown (fun vs H Q E h => ?_) (fun cdv A outer s H vs Q E hr h => ?_)⟩
  · obtain ⟨s, ns, cs, rfl, _⟩ := h
    rfl
  · obtain ⟨s, ns, cs, rfl, ⟨d0, d1, h0, h1, h2⟩, ok, dok, k⟩ := h
    have hu := hu_of hr
    refine ⟨_, (pss_cons (ps_set (i := 1) sc_law_shown.nd rfl (Or.inl rfl) (pe_join pe_str (pe_lc (own := [("_law_sign", 3)]) (g := gName 3) (tt := tYes) rfl sc_law_shown.nd (pi_list (pe_callB (cr_sortedDS rfl) (by rfl) T.b_sorted (by decide +kernel) (pa_cons (pe_ix ix_list (pv 0) pe_int (fun _ _ => rfl)) pa_nil))) (blkOk_by (own := [("_law_sign", 3)]) (N := N_law_shown) (sc := defScope s_law_shown) (by decide +kernel)) (fun _ _ _ _ _ => (pg_name (i := 3) sc_law_shown.nd rfl (Or.inl rfl))) (fun _ _ _ _ _ => pts_nil) (fun _ _ _ _ _ => (pe_op op_add_str (pe_op op_add_str (pv 3) pe_str) (pe_callTy call_str_int (by rfl) T.b_str (by decide +kernel) (pa_cons (pe_dget hu (pe_ix (ix_listK (K := K) rfl) (pv 0) pe_int (fun _ _ => rfl)) (pv 3) (fun _ _ => rfl)) pa_nil)))))))
      (pss_cons (ps_set (i := 2) sc_law_shown.nd rfl (Or.inl rfl) (pe_join pe_str (pe_lc (own := [("_law_spot", 4)]) (g := gName 4) (tt := tYes) rfl sc_law_shown.nd (pi_list (pe_callB (call_sortedDI rfl) (by rfl) T.b_sorted (by decide +kernel) (pa_cons (pe_ix ix_list (pv 0) pe_int (fun _ _ => rfl)) pa_nil))) (blkOk_by (own := [("_law_spot", 4)]) (N := N_law_shown) (sc := defScope s_law_shown) (by decide +kernel)) (fun _ _ _ _ _ => (pg_name (i := 4) sc_law_shown.nd rfl (Or.inl rfl))) (fun _ _ _ _ _ => pts_nil) (fun _ _ _ _ _ => (pe_op op_add_str (pe_op op_add_str (pe_callTy call_str_int (by rfl) T.b_str (by decide +kernel) (pa_cons (pv 4) pa_nil)) pe_str) (pe_callTy call_str_int (by rfl) T.b_str (by decide +kernel) (pa_cons (pe_dget hu (pe_ix (ix_listK (K := K) rfl) (pv 0) pe_int (fun _ _ => rfl)) (pv 4) (fun _ _ => rfl)) pa_nil)))))))
      (pss_one (ps_ret (pe_op op_add_str (pe_op op_add_str (pv 1) pe_str) (pe_ifExp (pt_cmpR (op_ne_dictE (show (Around.deeper A _).units < cLine from Nat.lt_of_le_of_lt (Nat.le_add_right _ 64) hr.units)) (pe_ix ix_list (pv 0) pe_int (fun _ _ => rfl)) pe_dnewK (nomark _)) (pv 2) pe_str)))))), ?_⟩
    have ck := srt_ok dok
    have n4 := ok.four
    have c9 := dok.few
    have sl9 : (srt cs).length ≤ 9 := by rw [(srt_perm cs).length_eq]; exact c9
    unfold tAsg tSeq tM1
    dsimp only
    refine ⟨⟨_, rfl⟩, ?_⟩
    refine lcL ns (fun p => V.str (ch p.1)) (fun _ => true) (fun p => V.str (nameW p)) (by omega) (fun R hR => ?_) (fun p H' R1 R2 hm sm q1 q2 => ?_) (fun H1 D1 s1 hD1 hl1 => ?_)
    · refine ⟨_, rfl, s, _, 0, _, rfl, rfl, .inl (.inl h0), at_first, d0, kN ns, _, rfl, .inl h1, strs_of_keys ns, by rw [List.length_map]; omega, fun ys p hp hs hpn => ?_⟩
      rw [lets_sorted ok hp hs]
      exact hR p _ (same_new hpn) (.inl (.inl (by rw [upd_same, List.map_map]; rfl)))
    · obtain ⟨p1, p2⟩ := ok.pl p hm
      have n2 := num_len p1 p2
      have D : DGet H' d0 (.str (ch p.1)) (some (.int p.2)) := val_n ok hm ▸ DGet.k (k := (Sum.inr (ch p.1) : Key)) (sm _ _ h1)
      refine ⟨rfl, yesI ⟨_, rfl, _, _, rfl, rfl, sl_le (by rw [ch_len, eq1_len]; decide), _, rfl, s, _, 0, _, rfl, rfl, .inl (.inl (sm _ _ h0)), at_first, _, rfl, d0, _, rfl, D, p.2, rfl, num_log p1 p2, _, _, rfl, rfl, sl_le ?_, q2 _ (fun _ _ h => h) rfl⟩⟩
      rw [len_app, ch_len, eq1_len]
      exact Nat.le_trans (Nat.add_le_add_left n2 2) (by decide)
    rw [all_true] at hl1
    have h0a := s1 _ _ h0
    have h2a := s1 _ _ h2
    have sum1 := sum_len (k := 5) (ys := ns.map nameW) (fun y hy => by
      obtain ⟨p, hp, rfl⟩ := List.mem_map.mp hy
      exact nameW_len (ok.pl p hp).1 (ok.pl p hp).2)
    rw [List.length_map] at sum1
    have sp1l : (Str.ofString " ").length = 1 := sp1_len
    refine ⟨_, _, ns.map nameW, rfl, rfl, .inl (.inl (.inl (by rw [List.map_map]; exact hl1))), ?_, ?_⟩
    · rw [List.length_map, sp1l]
      omega
    unfold gName
    dsimp only
    refine ⟨⟨_, rfl⟩, ?_⟩
    refine lcL (srt cs) (fun p => V.int p.1) (fun _ => true) (fun p => V.str (cellW p)) (by omega) (fun R hR => ?_) (fun p H' R1 R2 hm sm q1 q2 => ?_) (fun H2 D2 s2 hD2 hl2 => ?_)
    · refine ⟨_, rfl, s, _, 1, _, rfl, rfl, .inl (.inl h0a), at_snd, d1, kC cs, _, rfl, .inl h2a, ints_of_keys cs, by rw [List.length_map]; omega, fun ys p hp hs hpn => ?_⟩
      rw [keys_sorted dok.nd hp hs]
      exact hR p _ (same_new hpn) (.inl (.inl (by rw [upd_same, List.map_map]; rfl)))
    · obtain ⟨p1, p2, p3, p4⟩ := ck.pl p hm
      have p0 : 0 ≤ p.1 := by omega
      have n1 := num_len p0 p2
      have n2 := num_len p3 p4
      have pm := (srt_perm cs).mem_iff.mp hm
      have D : DGet H' d1 (.int p.1) (some (.int p.2)) := by
        have := val_c (List.mem_map_of_mem (f := (·.1)) pm)
        rw [val_of dok.nd pm] at this
        exact this ▸ DGet.k (k := (Sum.inl p.1 : Key)) (sm _ _ h2a)
      refine ⟨rfl, yesI ⟨_, rfl, p.1, rfl, num_log p0 p2, _, _, rfl, rfl, sl_le ?_, _, rfl, s, _, 1, _, rfl, rfl, .inl (.inl (sm _ _ h0a)), at_snd, _, rfl, d1, _, rfl, D, p.2, rfl, num_log p3 p4, _, _, rfl, rfl, sl_le ?_, q2 _ (fun _ _ h => h) rfl⟩⟩
      · rw [gt1_len]
        exact Nat.le_trans (Nat.add_le_add_right n1 1) (by decide)
      · rw [len_app, gt1_len]
        exact Nat.le_trans (Nat.add_le_add (Nat.add_le_add_right n1 1) n2) (by decide)
    rw [all_true] at hl2
    have hl1a := s2 _ _ hl1
    have sum2 := sum_len (k := 7) (ys := (srt cs).map cellW) (cs_le ck)
    rw [List.length_map] at sum2
    refine ⟨_, _, (srt cs).map cellW, rfl, rfl, .inl (.inl (.inl (by rw [List.map_map]; exact hl2))), ?_, ?_⟩
    · rw [List.length_map, sp1l]
      omega
    have L1 := nTxt_len ok
    have L2 := cTxt_len ck
    have h0b := s2 _ _ h0a
    have h2b := s2 _ _ h2a
    have le : (kC cs).length = (srt cs).length := by rw [(srt_perm cs).length_eq]; exact List.length_map _
    refine ⟨_, rfl, _, _, rfl, rfl, sl_le (by have : (Str.ofString " | ").length = 3 := bar_len; have : (Txt.join (Str.ofString " ") (ns.map nameW)).length ≤ _ := L1; omega), _, rfl, s, _, 1, _, rfl, rfl, .inl (.inl h0b), at_snd, fun e he => ⟨d1, e, kC cs, rfl, rfl, same_new he _ _ h2b, upd_same, _, rfl, ?_⟩⟩
    have s3 := (s1.trans s2).trans (same_new (o := .dK []) he)
    rw [le]
    have kk := k _ s3
    by_cases hc : srt cs = []
    · have ct : cTxt (srt cs) = Str.ofString "none" := by unfold cTxt; rw [if_pos hc]
      unfold stTxt at kk
      rw [ct] at kk L2
      rw [hc]
      exact iteF ⟨_, _, rfl, rfl, sl_le (by rw [len_app]; have h3 : (Str.ofString " | ").length = 3 := bar_len; have h1 : (Txt.join (Str.ofString " ") (ns.map nameW)).length ≤ _ := L1; omega), kk⟩
    · have ct : cTxt (srt cs) = Txt.join sp1 ((srt cs).map cellW) := by unfold cTxt; rw [if_neg hc]
      unfold stTxt at kk
      rw [ct] at kk L2
      have hl : (srt cs).length ≠ 0 := fun e => hc (List.eq_nil_of_length_eq_zero e)
      rw [decide_eq_false hl]
      exact iteT ⟨_, rfl, _, _, rfl, rfl, sl_le (by rw [len_app]; have h3 : (Str.ofString " | ").length = 3 := bar_len; have h1 : (Txt.join (Str.ofString " ") (ns.map nameW)).length ≤ _ := L1; have h2 : (Txt.join (Str.ofString " ") ((srt cs).map cellW)).length ≤ _ := L2; omega), kk⟩
end
end K1
namespace K1
open PySem PySem.Spec L2 Z K36 K34 K35 K38 K6 K40 CwR
section
variable {P : Program} {w : World} {K : PySem.W.Frag} {mg : Str → Option Value} {base : Heap} {C CT CN CU CA : Addr}
theorem ok_is_target (T : Txt K mg C CT CN CU CA) (G_is_letter : Pr P w K mg base "is_letter" s_is_letter 1 ["value"] p_is_letter) : Pr P w K mg base "is_target" s_is_target 2 ["value"] p_is_target := by
  obtain ⟨f, fd, F, gl, bd⟩ := T.d_is_target
  refine ⟨f, fd, F, gl, bd, F.ok sc_is_target (fun vs H Q E h => ?_) (fun cdv A outer s H vs Q E hr h => ?_)⟩
  · obtain ⟨w, rfl, _⟩ := h
    rfl
  · obtain ⟨w, rfl, hz, k⟩ := h
    have hu := hu_of hr
    refine ⟨_, (pss_one (ps_ret (pe_or (pcall G_is_letter (hr.mono (by decide)) (pa_cons (pv 0) pa_nil)) (pe_one (pe_cmpR op_eq (pv 0) pe_str (nomark _)))))), ?_⟩
    refine ⟨_, rfl, w, rfl, hz, _, rfl, ?_⟩
    unfold isTgt at k
    cases h : isLet w with
    | true =>
      rw [h] at k
      exact iteT k
    | false =>
      rw [h] at k
      refine iteF ⟨_, rfl, rfl, ?_⟩
      rw [show decide (V.str w = V.str (Str.ofString "END")) = decide (w = Str.ofString "END") from decide_eq_decide.mpr ⟨fun e => V.str.inj e, fun e => congrArg V.str e⟩]
      exact k
end
end K1
namespace K1
open PySem PySem.Spec L2 Z K36 K34 K35 K38 K6 K40 CwR
section
variable {P : Program} {w : World} {K : PySem.W.Frag} {mg : Str → Option Value} {base : Heap} {C CT CN CU CA : Addr}
theorem ok_comparison_in (T : Txt K mg C CT CN CU CA) (G_is_letter : Pr P w K mg base "is_letter" s_is_letter 1 ["value"] p_is_letter) (G_is_target : Pr P w K mg base "is_target" s_is_target 2 ["value"] p_is_target) : Pr P w K mg base "comparison_in" s_comparison_in 3 ["words"] (p_comparison_in K) := by
  obtain ⟨f, fd, F, gl, bd⟩ := T.d_comparison_in
  refine ⟨f, fd, F, gl, bd, F.ok sc_comparison_in (fun vs H Q E h => ?_) (fun cdv A outer s H vs Q E hr h => ?_)⟩
  · obtain ⟨l, ws, rfl, _⟩ := h
    rfl
  · obtain ⟨l, ws, rfl, hl, hz, k⟩ := h
    have hu := hu_of hr
    refine ⟨_, (pss_cons (ps_if (PW.pt (pw_and (pt_cmpR op_eq (pe_callB call_len_seq (by rfl) T.b_len (by decide +kernel) (pa_cons (pv 0) pa_nil)) pe_int (nomark _)) (pw_and (pt_val (pcall G_is_letter (hr.mono (by decide)) (pa_cons (pe_ix ix_list (pv 0) pe_int (fun _ _ => rfl)) pa_nil))) (pw_and (pt_cmpR op_in_seq (pe_ix ix_list (pv 0) pe_int (fun _ _ => rfl)) (pe_tup (pa_cons pe_str (pa_cons pe_str pa_nil))) (by rfl)) (pw_and1 (pt_val (pcall G_is_target (hr.mono (by decide)) (pa_cons (pe_ix ix_list (pv 0) pe_int (fun _ _ => rfl)) pa_nil)))))))) (pss_one (ps_ret (pe_tup (pa_cons (pe_ix ix_list (pv 0) pe_int (fun _ _ => rfl)) (pa_cons (pe_ix ix_list (pv 0) pe_int (fun _ _ => rfl)) (pa_cons (pe_ix ix_list (pv 0) pe_int (fun _ _ => rfl)) pa_nil)))))) pss_nil)
      (pss_one (ps_ret pe_non))), ?_⟩
    by_cases h3 : ws.length = 3
    case neg =>
      have no : cmpIn ws = none := by
        cases e : cmpIn ws with
        | none => rfl
        | some t => exact absurd (cmp_len (by rw [e]; simp)) h3
      refine ⟨_, rfl, l, _, rfl, .inl hl, rfl, false, congrArg V.bl (decide_eq_false (by rw [List.length_map]; intro z; exact h3 (by have := V.int.inj z; omega))), iteF ?_⟩
      exact (k H (fun _ _ h => h)).1 no
    match ws, h3, hl, hz, k with
    | [a, m, b], _, hl, hz, k =>
      refine ⟨_, rfl, l, _, rfl, .inl hl, rfl, true, congrArg V.bl (decide_eq_true rfl), iteT ?_⟩
      refine ⟨_, rfl, l, _, 0, _, rfl, rfl, hl, at_first, a, rfl, hz a (.head _), _, rfl, ?_⟩
      cases h1 : isLet a with
      | false => exact iteF ((k H (fun _ _ h => h)).1 (by simp [cmpIn, trip, h1]))
      | true =>
        refine iteT ⟨_, rfl, l, _, 1, _, rfl, rfl, hl, at_snd, sl_le (by show 2 ≤ 1000000; decide), fun t ht => ?_⟩
        have s1 := same_new (o := .tup [V.str (Str.ofString "="), V.str (Str.ofString "!=")]) ht
        have e1 : upd H t (.tup [V.str (Str.ofString "="), V.str (Str.ofString "!=")]) t = some (.tup [V.str (Str.ofString "="), V.str (Str.ofString "!=")]) := upd_same
        generalize upd H t (.tup [V.str (Str.ofString "="), V.str (Str.ofString "!=")]) = H1 at s1 e1 ⊢
        have hl1 := SqL_same s1 hl
        refine ⟨t, _, rfl, .inr (.inl (.inl e1)), rfl, rfl, _, rfl, ?_⟩
        rw [show inV (V.str m) [V.str (Str.ofString "="), V.str (Str.ofString "!=")] = isMk m from in_mk m]
        cases h2 : isMk m with
        | false => exact iteF ((k H1 s1).1 (by simp [cmpIn, trip, h1, h2]))
        | true =>
          refine iteT ⟨_, rfl, l, _, 2, _, rfl, rfl, hl1, at_third, b, rfl, hz b (.tail _ (.tail _ (.head _))), _, rfl, ?_⟩
          cases h3 : isTgt b with
          | false => exact iteF ((k H1 s1).1 (by simp [cmpIn, trip, h1, h2, h3]))
          | true =>
            refine iteT ⟨_, rfl, l, _, 1, _, rfl, rfl, hl1, at_snd, _, rfl, l, _, 0, _, rfl, rfl, hl1, at_first, _, rfl, l, _, 2, _, rfl, rfl, hl1, at_third, sl_le (by show 3 ≤ 1000000; decide), fun p hp => ?_⟩
            exact (k _ (s1.trans (same_new hp))).2 (m, a, b) p (by simp [cmpIn, trip, h1, h2, h3]) (none_of s1 hp) upd_same
end
end K1
namespace K1
open PySem PySem.Spec L2 Z K36 K34 K35 K38 K6 K40 CwR
section
variable {P : Program} {w : World} {K : PySem.W.Frag} {mg : Str → Option Value} {base : Heap} {C CT CN CU CA : Addr}
theorem ok_test_in (T : Txt K mg C CT CN CU CA) (G_comparison_in : Pr P w K mg base "comparison_in" s_comparison_in 3 ["words"] (p_comparison_in K)) : Pr P w K mg base "_test_in" s_test_in 4 ["words"] (p_test_in K) := by
  obtain ⟨f, fd, F, gl, bd⟩ := T.d__test_in
  refine ⟨f, fd, F, gl, bd, F.ok sc_test_in (fun vs H Q E h => ?_) (fun cdv A outer s H vs Q E hr h => ?_)⟩
  · obtain ⟨l, ws, rfl, _⟩ := h
    rfl
  · obtain ⟨l, ws, rfl, hl, hw, n1, n2, k⟩ := h
    have hu := hu_of hr
    refine ⟨_, (pss_cons (ps_set (i := 1) sc_test_in.nd rfl (Or.inl rfl) (pe_ifExp (pt_cmpR op_gt (pe_callB call_len_seq (by rfl) T.b_len (by decide +kernel) (pa_cons (pv 0) pa_nil)) pe_int (nomark _)) (pe_ix ix_list (pv 0) pe_int (fun _ _ => rfl)) pe_str))
      (pss_cons (ps_set (i := 2) sc_test_in.nd rfl (Or.inl rfl) (pe_callTy cr_range3 (by rfl) T.b_range (by decide +kernel) (pa_cons pe_int (pa_cons (pe_callB call_len_seq (by rfl) T.b_len (by decide +kernel) (pa_cons (pv 0) pa_nil)) (pa_cons pe_int pa_nil)))))
      (pss_cons (ps_setLc (i := 3) (own := [("first", 5)]) (g := gName 5) (tt := tYes) rfl sc_test_in.nd rfl rfl (sw_true rfl rfl rfl (by decide +kernel)) (pi_rngV (pv 2)) (blkOk_by (own := [("first", 5)]) (N := N_test_in) (sc := defScope s_test_in) (by decide +kernel)) (fun _ _ _ _ _ => (pg_name (i := 5) sc_test_in.nd rfl (Or.inl rfl))) (fun _ _ _ _ _ => pts_nil) (fun _ _ _ _ _ => (pcall G_comparison_in (hr.mono (by decide)) (pa_cons (pe_slice (sl_listK (K := K) rfl) (pv 0) (po_some (pv 5)) (po_some (pe_op op_add (pv 5) pe_int))) pa_nil))))
      (pss_cons (ps_setLc (i := 4) (own := [("first", 5)]) (g := gName 5) rfl sc_test_in.nd rfl rfl (sw_true rfl rfl rfl (by decide +kernel)) (pi_rngV (pv 2)) (blkOk_by (own := [("first", 5)]) (N := N_test_in) (sc := defScope s_test_in) (by decide +kernel)) (fun _ _ _ _ _ => (pg_name (i := 5) sc_test_in.nd rfl (Or.inl rfl))) (fun _ _ _ _ _ => (pts_one (pt_cmpR op_lt (pe_op op_add (pv 5) pe_int) (pe_callB (call_len_seqK (K := K) rfl) (by rfl) T.b_len (by decide +kernel) (pa_cons (pv 0) pa_nil)) (nomark _)))) (fun _ _ _ _ _ => (pe_ix (ix_listK (K := K) rfl) (pv 0) (pe_op op_add (pv 5) pe_int) (fun _ _ => rfl))))
      (pss_cons (ps_if (PW.pt (pw_or (pt_cmpR op_notIn_seq (pv 1) (pe_tup (pa_cons pe_str (pa_cons pe_str pa_nil))) (by rfl)) (pw_or (pt_cmpR (op_inD (by have h := hr.un; show (Around.deeper A _).units + 65 < cLine; omega)) pe_non (pv 3) (by rfl)) (pw_or1 (pt_cmpR (op_neD hr.units) (pv 4) (pe_op op_rep (pe_lst (pa_cons (pv 1) pa_nil)) (pe_op op_sub (pe_callB call_len_seq (by rfl) T.b_len (by decide +kernel) (pa_cons (pv 3) pa_nil)) pe_int)) (nomark _)))))) (pss_one (ps_ret pe_non)) pss_nil)
      (pss_one (ps_ret (pe_ifExp (pt_chain op_le op_le pe_int (pe_callB call_len_seq (by rfl) T.b_len (by decide +kernel) (pa_cons (pv 3) pa_nil)) (pe_globI rfl T.c_MOST_COMPARISONS)) (pe_tup (pa_cons (pv 1) (pa_cons (pe_callTy call_tupP (by rfl) T.b_tuple (by decide +kernel) (pa_cons (pv 3) pa_nil)) pa_nil))) pe_non)))))))), ?_⟩
    rw [← tst_eq] at k
    have n0 : 0 < ws.length := by omega
    refine seq_post (fun σ' H' => H' = H ∧ σ' = [some (.ref l), some (.str (jointOf ws)), none, none, none, none]) (fun R hR => ?_) ?_
    · refine ⟨_, rfl, l, _, rfl, .inl hl, _, _, rfl, rfl, _, rfl, ?_⟩
      rw [List.length_map]
      by_cases h3 : 3 < ws.length
      · rw [show decide ((3 : Int) < (ws.length : Int)) = true from decide_eq_true (by omega)]
        refine iteT ⟨_, rfl, l, _, 3, _, rfl, rfl, hl, at_nat (i := 3) (x := V.str (W ws 3)) ?_, hR _ _ ⟨rfl, by unfold jointOf; rw [if_pos h3]; rfl⟩⟩
        rw [List.getElem?_map, List.getElem?_eq_getElem h3]
        show _ = some (V.str (ws.getD 3 sE))
        rw [List.getD_eq_getElem?_getD, List.getElem?_eq_getElem h3]
        rfl
      · rw [show decide ((3 : Int) < (ws.length : Int)) = false from decide_eq_false (by omega)]
        exact iteF (hR _ _ ⟨rfl, by unfold jointOf; rw [if_neg h3]; rfl⟩)
    rintro _ H' ⟨rfl, rfl⟩
    generalize hjt : jointOf ws = jt at *
    have tj : TxOk 12000 jt := by
      rw [← hjt]
      unfold jointOf
      split
      · exact W_ok hw 3
      · exact txB_ok (by decide +kernel)
    refine ⟨_, rfl, l, _, rfl, .inl hl, 0, (ws.length : Int), 4, (ws.length + 3) / 4, by rw [List.length_map], rg4 (by omega), fun pr hpr => ?_⟩
    have s1 := same_new (o := RngO pr 0 (ws.length : Int) 4) hpr
    have e1 : upd H' pr (RngO pr 0 (ws.length : Int) 4) pr = some (RngO pr 0 (ws.length : Int) 4) := upd_same
    generalize upd H' pr (RngO pr 0 (ws.length : Int) 4) = H1 at s1 e1 ⊢
    refine ⟨_, rfl, pr, 0, (ws.length : Int), 4, (ws.length + 3) / 4, rfl, e1, rg4 (by omega), fun D hD => ?_⟩
    refine lc_it (n := (ws.length + 3) / 4) (fun i H' => Same H1 H' ∧ ∃ vs, H' D = some (.lst vs) ∧ CmpAll K H' vs ((List.range i).map fun i => cmpIn (grp ws i))) ⟨same_new hD, [], upd_same, .nil⟩ (fun i H' hi _ => hi) (fun H' _ => Nat.le_refl _) (fun i x H2 H3 hi h y => ?_) (fun H2 h => ?_)
    · obtain ⟨sm, vs, hk, hc⟩ := h
      obtain ⟨rfl, rfl⟩ := y
      refine ⟨rfl, yesI ⟨_, rfl, _, rfl, _, rfl, _, rfl, _, _, rfl, rfl, _, rfl, l, _, rfl, SqL_same (s1.trans sm) hl, fun q hq => ?_⟩⟩
      have s3 := same_new (o := .lst (cutV (ws.map V.str) (some (0 + (i : Int) * 4)) (some (0 + (i : Int) * 4 + 3)))) hq
      have e3 : upd H3 q (.lst (cutV (ws.map V.str) (some (0 + (i : Int) * 4)) (some (0 + (i : Int) * 4 + 3)))) q = some (.lst ((grp ws i).map V.str)) := by rw [upd_same, grp_cut]
      generalize upd H3 q (.lst (cutV (ws.map V.str) (some (0 + (i : Int) * 4)) (some (0 + (i : Int) * 4 + 3)))) = H4 at s3 e3 ⊢
      have hlen : vs.length = i := by rw [Paired.len hc, List.length_map, List.length_range]
      have fin : ∀ (v : V) (H5 : Hp), Same H4 H5 → CmpAt K H5 v (cmpIn (grp ws i)) → ∃ acc, H5 D = some (.lst acc) ∧ acc.length < sizeLine ∧ (Same H1 (upd H5 D (.lst (acc ++ [v]))) ∧ ∃ vs, upd H5 D (.lst (acc ++ [v])) D = some (.lst vs) ∧ CmpAll K (upd H5 D (.lst (acc ++ [v]))) vs ((List.range (i + 1)).map fun i => cmpIn (grp ws i))) := fun v H5 s5 hv => by
        have hk5 := s5 _ _ (s3 _ _ hk)
        refine ⟨vs, hk5, Nat.lt_of_lt_of_le (show vs.length < 20000 by omega) (sl_le (by decide)), fun b o e => ?_, vs ++ [v], upd_same, ?_⟩
        · rw [upd_ne (ne_of_none e hD)]
          exact s5 _ _ (s3 _ _ (sm _ _ e))
        · have im : Imm H5 (upd H5 D (.lst (vs ++ [v]))) := Chg.imm Chg.upd hk5 trivial
          rw [List.range_succ, List.map_append]
          exact Paired.snoc (F := CmpAt K _) (hv.imm im) ((hc.imm (.of (s3.trans s5))).imm im)
      refine ⟨q, grp ws i, rfl, .inl (.inl e3), fun w hw' => ?_, fun H5 s5 => ⟨fun e => fin _ _ s5 (by rw [e]; rfl), fun t b e hn hb => fin _ _ s5 (by rw [e]; exact ⟨b, rfl, .inl (.inl hb)⟩)⟩⟩
      have := (hw w (List.mem_of_mem_drop (List.mem_of_mem_take hw'))).len
      omega
    obtain ⟨sm, vs, hk, hc⟩ := h
    have hc : CmpAll K H2 vs (comps ws) := hc
    have D0 : H' D = none := none_of s1 hD
    have s2 := s1.trans sm
    refine ⟨_, rfl, pr, 0, (ws.length : Int), 4, (ws.length + 3) / 4, rfl, sm _ _ e1, rg4 (by omega), fun J hJ => ?_⟩
    refine K6.lc_pure (n := (ws.length + 3) / 4) (fun i => V.int (0 + (i : Int) * 4)) (fun i => decide (4 * i + 3 < ws.length)) (fun i => V.str (W ws (4 * i + 3))) hJ (by omega) (fun i H' hi _ => hi) (fun H' _ => Nat.le_refl _) (fun i H' x H2 _ _ y => y) (fun i H3 R1 R2 hi s3 h1 h2 => ?_) (fun H3 s3 hJ3 => ?_)
    · refine ⟨rfl, ?_⟩
      have hl3 := SqL_same (s2.trans s3) hl
      refine ⟨_, rfl, _, _, rfl, rfl, _, rfl, l, _, rfl, .inl hl3, _, _, rfl, rfl, _, rfl, ?_⟩
      rw [List.length_map]
      by_cases h : 4 * i + 3 < ws.length
      · rw [show decide ((0 : Int) + (i : Int) * 4 + 3 < (ws.length : Int)) = true from decide_eq_true (by omega)]
        refine iteT ⟨_, rfl, _, rfl, _, _, rfl, rfl, l, _, _, _, rfl, rfl, hl3, ?_, h2 H3 (fun _ _ h => h) (decide_eq_true h)⟩
        rw [show (0 : Int) + (i : Int) * 4 + 3 = ((4 * i + 3 : Nat) : Int) by omega]
        refine at_nat ?_
        rw [List.getElem?_map, List.getElem?_eq_getElem h]
        show _ = some (V.str (ws.getD (4 * i + 3) sE))
        rw [List.getD_eq_getElem?_getD, List.getElem?_eq_getElem h]
        rfl
      · rw [show decide ((0 : Int) + (i : Int) * 4 + 3 < (ws.length : Int)) = false from decide_eq_false (by omega)]
        exact iteF (h1 H3 (fun _ _ h => h) (decide_eq_false h))
    have hJ3 : H3 J = some (.lst ((joints ws).map V.str)) := by
      rw [hJ3]
      unfold joints
      rw [List.map_map]
      rfl
    have hk3 := s3 _ _ hk
    have hc3 := hc.imm (.of s3)
    have s13 := s2.trans s3
    have cl := comps_len ws
    have vl : vs.length = (comps ws).length := Paired.len hc
    clear hJ hD s3 s2 sm hk hc
    have non : tstP ws = none → ∀ H4, Same H3 H4 → Q .non H4 := fun e H4 s4 => k.1 e H4 (s13.trans s4)
    refine ⟨_, rfl, sl_le (by show 2 ≤ 1000000; decide), fun q hq => ?_⟩
    have s4 := same_new (o := .tup [V.str (Str.ofString "and"), V.str (Str.ofString "or")]) hq
    have e4 : upd H3 q (.tup [V.str (Str.ofString "and"), V.str (Str.ofString "or")]) q = some (.tup [V.str (Str.ofString "and"), V.str (Str.ofString "or")]) := upd_same
    generalize upd H3 q (.tup [V.str (Str.ofString "and"), V.str (Str.ofString "or")]) = H4 at s4 e4 ⊢
    refine ⟨q, _, rfl, .inr (.inl (.inl e4)), rfl, rfl, _, rfl, ?_⟩
    rw [show inV (V.str jt) [V.str (Str.ofString "and"), V.str (Str.ofString "or")] = isJt jt from in_jt _]
    cases hj3 : isJt jt
    · exact iteT (non (by unfold tstP; rw [if_pos (.inl (by rw [hjt]; exact hj3))]) _ s4)
    refine iteF ⟨_, rfl, _, _, .non, .lst (.inl (.inl (s4 _ _ hk3))) (cmp_dp (hc3.imm (.of s4))), by decide +kernel, cmp_shaped (fun t ht => comps_mem ht), _, rfl, ?_⟩
    rw [cmp_any]
    by_cases hn : none ∈ comps ws
    · rw [decide_eq_true hn]
      exact iteT (non (by unfold tstP; rw [if_pos (.inr (.inl hn))]) _ s4)
    rw [decide_eq_false hn]
    refine iteF ⟨_, rfl, _, rfl, sl_le (by show 1 ≤ 1000000; decide), fun q5 hq5 => ⟨_, rfl, D, _, rfl, .inl (.inl (.inl (same_new hq5 _ _ (s4 _ _ hk3)))), _, _, rfl, rfl, ?_⟩⟩
    have s5 := s4.trans (same_new (o := .lst [V.str jt]) hq5)
    have e5 : upd H4 q5 (.lst [V.str jt]) q5 = some (.lst [V.str jt]) := upd_same
    generalize upd H4 q5 (.lst [V.str jt]) = H5 at s5 e5 ⊢
    have ek : ((vs.length : Int) - 1).toNat = (comps ws).length - 1 := by omega
    refine ⟨q5, _, _, rfl, rfl, e5, by omega, by omega, sl_le (by rw [ek]; show 1 * ((comps ws).length - 1) ≤ 1000000; omega), fun q6 hq6 => ?_⟩
    have s6 := s5.trans (same_new (o := .lst (List.replicate ((vs.length : Int) - 1).toNat [V.str jt]).flatten) hq6)
    have e6 : upd H5 q6 (.lst (List.replicate ((vs.length : Int) - 1).toNat [V.str jt]).flatten) q6 = some (.lst ((List.replicate ((comps ws).length - 1) jt).map V.str)) := by
      rw [upd_same, ek, List.map_replicate]
      congr 2
      have : ∀ n : Nat, (List.replicate n [V.str jt]).flatten = List.replicate n (V.str jt) := fun n => by
        induction n with
        | zero => rfl
        | succ n ih => rw [List.replicate_succ, List.flatten_cons, ih, List.replicate_succ]; rfl
      exact this _
    generalize upd H5 q6 (.lst (List.replicate ((vs.length : Int) - 1).toNat [V.str jt]).flatten) = H6 at s6 e6 ⊢
    have jok : ∀ z ∈ joints ws, PyData.strOk z = true := fun z hz => by
      unfold joints at hz
      obtain ⟨i, _, rfl⟩ := List.mem_map.mp hz
      exact (W_ok hw _).strOk
    refine ⟨_, _, .lst (.inl (.inl (s6 _ _ hJ3))) (Z.dp_strs _), .lst (.inl (.inl e6)) (Z.dp_strs _), Z.shaped_strs _ jok, Z.shaped_strs _ (fun z hz => by rw [(List.mem_replicate.mp hz).2]; exact tj.strOk), _, rfl, ?_⟩
    rw [eqv_strs]
    by_cases hj : joints ws = List.replicate ((comps ws).length - 1) jt
    case neg =>
      rw [decide_eq_false hj]
      exact iteT (non (by unfold tstP; rw [if_pos (.inr (.inr (by rw [hjt]; exact hj)))]) _ s6)
    rw [decide_eq_true hj]
    refine iteF ?_
    have step : tstP ws = if 1 ≤ (comps ws).length ∧ (comps ws).length ≤ 3 then some (jt, (comps ws).filterMap id) else none := by
      unfold tstP
      rw [if_neg (fun z => ?_), hjt]
      rcases z with z | z | z
      · rw [hjt, hj3] at z
        cases z
      · exact hn z
      · rw [hjt] at z
        exact z hj
    refine ⟨_, rfl, D, _, rfl, .inl (.inl (.inl (s6 _ _ hk3))), _, _, rfl, rfl, _, rfl, ?_⟩
    rw [show decide ((1 : Int) ≤ (vs.length : Int)) = true from decide_eq_true (by omega)]
    refine iteT ⟨_, _, rfl, rfl, _, rfl, ?_⟩
    by_cases h3 : (comps ws).length ≤ 3
    case neg =>
      rw [show decide ((vs.length : Int) ≤ 3) = false from decide_eq_false (by omega)]
      exact iteF (non (by rw [step, if_neg (fun z => h3 z.2)]) _ s6)
    rw [show decide ((vs.length : Int) ≤ 3) = true from decide_eq_true (by omega)]
    obtain ⟨rs, rfl, ht⟩ := cmp_refs hc3 hn
    refine iteT ⟨_, rfl, _, rfl, D, _, rfl, .inl (.inl (s6 _ _ hk3)), fun q7 o hq7 ho => ⟨sl_le (by show 2 ≤ 1000000; decide), fun v hv => ?_⟩⟩
    have s8 := s6.trans ((same_new (o := .frz o (.tup (rs.map V.ref))) hq7).trans (same_new (o := .tup [V.str jt, V.ref q7]) hv))
    exact k.2 _ (by rw [step, if_pos ⟨by omega, h3⟩]) _ _ (s13.trans s8) ⟨v, q7, rs, rfl, .inl (.inl upd_same), SqT.imm (.of (same_new hv)) (.inl (.inr ⟨o, upd_same⟩)), ht.imm (.of s8)⟩
end
end K1
namespace K1
open PySem PySem.Spec L2 Z K36 K34 K35 K38 K6 K40 CwR
section
variable {P : Program} {w : World} {K : PySem.W.Frag} {mg : Str → Option Value} {base : Heap} {C CT CN CU CA : Addr}
theorem ok_test_or_none (T : Txt K mg C CT CN CU CA) (G__test_in : Pr P w K mg base "_test_in" s_test_in 4 ["words"] (p_test_in K)) : Pr P w K mg base "test_or_none" s_test_or_none 5 ["value"] (p_test_or_none K) := by
  obtain ⟨f, fd, F, gl, bd⟩ := T.d_test_or_none
  refine ⟨f, fd, F, gl, bd, F.ok sc_test_or_none (fun vs H Q E h => ?_) (fun cdv A outer s H vs Q E hr h => ?_)⟩
  · obtain ⟨v, rfl, _⟩ := h
    rfl
  · obtain ⟨v, rfl, h⟩ := h
    have hu := hu_of hr
    refine ⟨_, (pss_one (ps_ret (pe_ifExp (pt_val (pe_callB call_isi (by rfl) T.b_isinstance (by decide +kernel) (pa_cons (pv 0) (pa_cons (pe_bty "str" (by rfl) T.b_str (by decide +kernel)) pa_nil)))) (pcall G__test_in (hr.mono (by decide)) (pa_cons (pe_split (pv 0) pe_str) pa_nil)) pe_non))), ?_⟩
    rcases h with ⟨x, rfl, hx, k⟩ | ⟨hn, k⟩
    · refine ⟨_, rfl, _, _, _, _, _, rfl, .ty _, .base (.str _), kit_ty (r := true) (by decide +kernel), _, rfl, iteT ?_⟩
      have sl := spl_len x
      have xl := hx.len
      refine ⟨_, rfl, ⟨_, rfl⟩, x, _, rfl, rfl, by decide +kernel, sl_le (by omega), fun l hl => ?_⟩
      have s1 := same_new (o := .lst ((spl x).map V.str)) hl
      refine ⟨l, spl x, rfl, .inl (.inl upd_same), fun w hw => (spl_ok hx w hw), List.length_pos_iff.mpr (spl_ne x), by omega, fun e H' s => k.1 e H' (s1.trans s), fun q e H' u s hq => k.2 q e H' u (s1.trans s) hq⟩
    · obtain ⟨c, hc, hk⟩ := not_str hn
      exact ⟨_, rfl, _, _, _, _, _, rfl, .ty _, hc, hk, _, rfl, iteF k⟩
end
end K1
namespace K1
open PySem PySem.Spec L2 Z K36 K34 K35 K38 K6 K40 CwR
section
variable {P : Program} {w : World} {K : PySem.W.Frag} {mg : Str → Option Value} {base : Heap} {C CT CN CU CA : Addr}
theorem ok_test_tree (T : Txt K mg C CT CN CU CA) (G_test_or_none : Pr P w K mg base "test_or_none" s_test_or_none 5 ["value"] (p_test_or_none K)) : PrX P w K mg base "test_tree" s_test_tree 6 ["test"] (p_test_tree K CT) := by
  obtain ⟨f, fd, F, gl, bd⟩ := T.d_test_tree
  refine ⟨f, fd, F, gl, bd, F.okX sc_test_tree (fun vs H Q E h => ?_) (fun cdv A outer s H vs Q E hr h => ?_)⟩
  · obtain ⟨v, rfl, _⟩ := h
    rfl
  · obtain ⟨v, rfl, h⟩ := h
    have hu := hu_of hr
    refine ⟨_, (pss_cons (ps_set (i := 1) sc_test_tree.nd rfl (Or.inl rfl) (pcall G_test_or_none (hr.mono (by decide)) (pa_cons (pv 0) pa_nil)))
      (pss_cons (ps_if (pt_cmp (pc_isN (pv 1)) rfl) (pss_one (ps_raiseE rfl (takes_of rfl rfl rfl rfl) (ok_err_InvalidTest T) (hr.mono (by decide)) (pa_cons (pv 0) pa_nil))) pss_nil)
      (pss_one (ps_ret (pv 1))))), ?_⟩
    rcases h with ⟨x, q, rfl, hx, e, k⟩ | ⟨hn, b⟩
    · refine ⟨_, rfl, _, rfl, .inl ⟨x, rfl, hx, fun e2 => (by rw [e] at e2; cases e2), fun q' e' H' u s hq => ?_⟩⟩
      rw [e] at e'
      cases e'
      obtain ⟨a, b, rs, rfl, rest⟩ := hq
      exact ⟨_, rfl, false, rfl, iteF ⟨_, rfl, k H' _ s ⟨a, b, rs, rfl, rest⟩⟩⟩
    · have go : ∀ H', Same H H' → tSeq (tIfS (tB (tIsN (tVar 1))) (tRaise (fun cls d x H => E cls d H) CT (Str.ofString "given") (tCons (tVar 0) tNil)) tNext) (tRet (tVar 1)) { nx := fun x H' => Q V.non H', rt := Q } [some v, some .non] H' := fun H' s => ⟨_, rfl, true, rfl, iteT ⟨_, rfl, _, rfl, b H' s⟩⟩
      rcases hn with ⟨x, rfl, hx, e⟩ | hn
      · exact ⟨_, rfl, _, rfl, .inl ⟨x, rfl, hx, fun _ H' s => go H' s, fun q e' => (by rw [e] at e'; cases e')⟩⟩
      · exact ⟨_, rfl, _, rfl, .inr ⟨hn, go H (fun _ _ h => h)⟩⟩
end
end K1
namespace K1
open PySem PySem.Spec L2 Z K36 K34 K35 K38 K6 K40 CwR
section
variable {P : Program} {w : World} {K : PySem.W.Frag} {mg : Str → Option Value} {base : Heap} {C CT CN CU CA : Addr}
theorem ok_need_store (T : Txt K mg C CT CN CU CA)  : PrX P w K mg base "need_store" s_need_store 3 ["value"] (b_need K C CN) := by
  obtain ⟨f, fd, F, gl, bd⟩ := T.d_need_store
  refine ⟨f, fd, F, gl, bd, F.okX sc_need_store (fun vs H Q E h => ?_) (fun cdv A outer s H vs Q E hr h => ?_)⟩
  · obtain ⟨v, rfl, _⟩ := h
    rfl
  · obtain ⟨v, rfl, h⟩ := h
    have hu := hu_of hr
    refine ⟨_, (pss_one (ps_if (pt_not (pt_val (pe_callB call_isi (by rfl) T.b_isinstance (by decide +kernel) (pa_cons (pv 0) (pa_cons (pe_glob (v := V.ref C) rfl T.mgC rfl) pa_nil))))) (pss_one (ps_raiseE rfl (takes_of rfl rfl rfl rfl) (ok_err_NotAStore T) (hr.mono (by decide)) (pa_cons (pv 0) pa_nil))) pss_nil)), ?_⟩
    rcases h with ⟨x, ns, cs, rfl, ⟨v, u, dx, pd, ad, ld, ks, S⟩, k⟩ | ⟨ns, bad⟩
    · exact ⟨_, rfl, _, _, _, _, true, rfl, .own C, .base (.ins S.ob T.cl T.isC T.isG T.isT T.isM), T.k_self, _, rfl, iteF k⟩
    · obtain ⟨c, hc, hk⟩ := NotSt.ty ns T.k_non T.k_bool T.k_int T.k_tup T.k_list T.k_dict T.k_str
      exact ⟨_, rfl, _, _, _, _, _, rfl, .own C, hc, hk, _, rfl, iteT ⟨_, rfl, _, rfl, bad H (fun _ _ h => h)⟩⟩
end
end K1
namespace K1
open PySem PySem.Spec L2 Z K36 K34 K35 K38 K6 K40 CwR
section
variable {P : Program} {w : World} {K : PySem.W.Frag} {mg : Str → Option Value} {base : Heap} {C CT CN CU CA : Addr}
theorem ok_need_known (T : Txt K mg C CT CN CU CA)  : PrX P w K mg base "need_known" s_need_known 3 ["letters", "names"] (b_known CU) := by
  obtain ⟨f, fd, F, gl, bd⟩ := T.d_need_known
  refine ⟨f, fd, F, gl, bd, F.okX sc_need_known (fun vs H Q E h => ?_) (fun cdv A outer s H vs Q E hr h => ?_)⟩
  · obtain ⟨z, n, ns, rfl, _⟩ := h
    rfl
  · obtain ⟨z, n, ns, rfl, hn, hz, h4, h⟩ := h
    have hu := hu_of hr
    refine ⟨_, (pss_one (ps_for (passes_of rfl) rfl (pi_str (pv 0)) (pg_name (i := 2) sc_need_known.nd rfl (Or.inl rfl))
      (pss_one (ps_if (pt_cmpR op_notIn_sign (pv 2) (pv 1) (by rfl)) (pss_one (ps_raiseE rfl (takes_of rfl rfl rfl rfl) (ok_err_UnknownName T) (hr.mono (by decide)) (pa_cons (pv 2) pa_nil))) pss_nil)))), ?_⟩
    refine ⟨_, rfl, z, rfl, ?_⟩
    refine for_it (n := z.cps.size) (fun i σ H' => H' = H ∧ (∀ c ∈ (TL.tl z).take i, c ∈ ns.map (·.1)) ∧ ∃ x2 : Option V, σ = [some (.str z), some (.str n), x2]) ⟨rfl, by simp, _, rfl⟩ (fun i σ H' hi _ => hi) (fun σ H' _ => Nat.le_refl _) ?_ ?_
    · rintro i v σ H1 H2 hi ⟨rfl, hm, x2, rfl⟩ yl
      obtain ⟨rfl, c, hc, rfl⟩ := yl
      have hc2 : (TL.tl z)[i]? = some c := by show z.cps.toList[i]? = _; rw [Array.getElem?_toList]; exact hc
      refine ⟨_, rfl, _, rfl, c, n, rfl, rfl, _, rfl, ?_⟩
      rw [show decide (c ∈ n.cps.toList) = decide (c ∈ ns.map (·.1)) by rw [show n.cps.toList = TL.tl n from rfl, hn]]
      by_cases hin : c ∈ ns.map (·.1)
      · rw [decide_eq_true hin]
        refine iteF ⟨rfl, fun d hd => ?_, _, rfl⟩
        rw [take_snoc hc2] at hd
        rcases List.mem_append.mp hd with h | h
        · exact hm d h
        · rw [List.mem_singleton.mp h]; exact hin
      · rw [decide_eq_false hin]
        have fa := first_at hm hc2 hin
        rcases h with ⟨e, _⟩ | ⟨c', e, bad⟩
        · rw [fa] at e; cases e
        · rw [fa] at e
          cases e
          exact iteT ⟨_, rfl, _, rfl, bad _ (fun _ _ h => h)⟩
    · rintro σ H1 ⟨rfl, hm, x2, rfl⟩
      have sz : z.cps.size = (TL.tl z).length := by show _ = z.cps.toList.length; simp
      rw [sz, List.take_length] at hm
      have fn := first_none hm
      rcases h with ⟨_, k⟩ | ⟨c', e, bad⟩
      · exact k
      · rw [fn] at e; cases e
end
end K1
namespace K1
open PySem PySem.Spec L2 Z K36 K34 K35 K38 K6 K40 CwR
section
variable {P : Program} {w : World} {K : PySem.W.Frag} {mg : Str → Option Value} {base : Heap} {C CT CN CU CA : Addr}
theorem ok_place_told (T : Txt K mg C CT CN CU CA)  : Pr P w K mg base "place_told" s_place_told 1 ["places", "word"] b_told := by
  obtain ⟨f, fd, F, gl, bd⟩ := T.d_place_told
  refine ⟨f, fd, F, gl, bd, F.ok sc_place_told (fun vs H Q E h => ?_) (fun cdv A outer s H vs Q E hr h => ?_)⟩
  · obtain ⟨d, ns, w, rfl, _⟩ := h
    rfl
  · obtain ⟨d, ns, w, rfl, hd, nd, hk, k⟩ := h
    have hu := hu_of hr
    refine ⟨_, (pss_one (ps_ret (pe_ifExp (pt_cmpR op_eq (pv 1) pe_str (nomark _)) (pe_globI rfl T.c_END) (pe_dget hu (pv 0) (pv 1) (fun _ _ => rfl))))), ?_⟩
    refine ⟨_, rfl, rfl, _, rfl, ?_⟩
    rw [dec_st]
    by_cases h : w = Str.ofString "END"
    · rw [decide_eq_true h]
      rw [h, valN_end] at k
      exact iteT k
    · rw [decide_eq_false h]
      rcases hk with e | ⟨p, hp, rfl⟩
      · exact absurd e h
      · rw [valN_of nd hp] at k
        refine iteF ⟨_, rfl, _, rfl, d, _, rfl, val_dk nd hp ▸ DGet.k (k := (Sum.inr (ch p.1) : Key)) hd, k⟩
end
end K1
namespace K1
open PySem PySem.Spec L2 Z K36 K34 K35 K38 K6 K40 CwR
section
variable {P : Program} {w : World} {K : PySem.W.Frag} {mg : Str → Option Value} {base : Heap} {C CT CN CU CA : Addr}
theorem ok_does_hold (T : Txt K mg C CT CN CU CA) (G_place_told : Pr P w K mg base "place_told" s_place_told 1 ["places", "word"] b_told) : Pr P w K mg base "does_hold" s_does_hold 2 ["test", "places"] (b_hold K) := by
  obtain ⟨f, fd, F, gl, bd⟩ := T.d_does_hold
  refine ⟨f, fd, F, gl, bd, F.ok sc_does_hold (fun vs H Q E h => ?_) (fun cdv A outer s H vs Q E hr h => ?_)⟩
  · obtain ⟨v, q, d, ns, rfl, _⟩ := h
    rfl
  · obtain ⟨v, q, d, ns, rfl, ⟨a, b, rs, rfl, ha, hb, ht⟩, ok, hd, nd, hk, k⟩ := h
    have hu := hu_of hr
    refine ⟨_, (pss_cons (ps_setLc (i := 2) (own := [("sign", 3), ("letter", 4), ("word", 5)]) (g := gTup K 3 (gCons (gName 3) (gCons (gName 4) (gCons (gName 5) gNil)))) (tt := tYes) rfl sc_does_hold.nd rfl rfl (sw_true rfl rfl rfl (by decide +kernel)) (pi_tup (pe_ix ix_tup (pv 0) pe_int (fun _ _ => rfl))) (blkOk_by (own := [("sign", 3), ("letter", 4), ("word", 5)]) (N := N_does_hold) (sc := defScope s_does_hold) (by decide +kernel)) (fun _ _ _ _ _ => (pg_tup rfl (pgs_cons (pg_name (i := 3) sc_does_hold.nd rfl (Or.inl rfl)) (pgs_cons (pg_name (i := 4) sc_does_hold.nd rfl (Or.inl rfl)) (pgs_cons (pg_name (i := 5) sc_does_hold.nd rfl (Or.inl rfl)) pgs_nil))))) (fun _ _ _ _ _ => pts_nil) (fun _ _ _ _ _ => (pe_cmpR op_eq (pe_cmpR op_eq (pv 3) pe_str (nomark _)) (pe_cmpR op_eq (pe_dget hu (pv 1) (pv 4) (fun _ _ => rfl)) (pcall G_place_told (hr.mono (by decide)) (pa_cons (pv 1) (pa_cons (pv 5) pa_nil))) (nomark _)) (nomark _))))
      (pss_one (ps_ret (pe_ifExp (pt_cmpR op_eq (pe_ix ix_tup (pv 0) pe_int (fun _ _ => rfl)) pe_str (nomark _)) (pe_callB (cr_all rfl) (by rfl) T.b_all (by decide +kernel) (pa_cons (pv 2) pa_nil)) (pe_callB (cr_anyD rfl) (by rfl) T.b_any (by decide +kernel) (pa_cons (pv 2) pa_nil)))))), ?_⟩
    have hlen : rs.length = q.2.length := Paired.len ht
    have few := ok.few
    unfold tSeq tAsg
    dsimp only
    refine lcT (rs.zip q.2) (fun p => V.ref p.1) (fun _ => true) (fun p => V.bl (oneB ns p.2)) (by rw [List.length_zip]; omega) (fun R hR => ?_) (fun p H' R1 R2 hp s1 h1 h2 => ?_) (fun H' D s1 hD he => ?_)
    · exact ⟨_, rfl, a, _, 1, _, rfl, rfl, ha, at_snd, hR b H (fun _ _ h => h) (by rw [zip_1 V.ref hlen]; exact hb)⟩
    · obtain ⟨hr', hm⟩ := Trs.mem (ht.imm (.of s1)) hp
      obtain ⟨l1, l2, l3⟩ := trip_parts (ok.tri _ hm)
      obtain ⟨w1, w2⟩ := wq_mem hm
      have hd1 := s1 _ _ hd
      have D1 := get_at hd1 nd (hk _ w1) l1
      refine ⟨p.1, _, rfl, hr', rfl, _, _, rfl, _, _, rfl, _, _, rfl, rfl, rfl, yesI ?_⟩
      refine ⟨_, rfl, rfl, _, rfl, _, rfl, d, _, rfl, D1, _, rfl, _, rfl, d, ns, p.2.2.2, rfl, hd1, nd, hk _ w2, rfl, rfl, ?_⟩
      rw [dec_st, eq_int, eq_bl]
      exact h2 H' (fun _ _ h => h) rfl
    have e : ((rs.zip q.2).filter fun _ => true).map (fun p => V.bl (oneB ns p.2)) = (q.2.map (oneB ns)).map V.bl := by
      rw [zip_2 (fun t => V.bl (oneB ns t)) hlen, List.map_map]
      rfl
    rw [e] at he
    have ha1 := SqT.imm (.of s1) ha
    have kk := k H' s1
    rw [holds_if] at kk
    refine ⟨_, rfl, a, _, 0, _, rfl, rfl, ha1, at_first, rfl, _, rfl, ?_⟩
    rw [dec_st]
    cases hq : decide (q.1 = s_ "and") with
    | true =>
      rw [hq, if_pos rfl] at kk
      exact iteT ⟨_, rfl, D, _, rfl, .inl (.inl he), kk⟩
    | false =>
      rw [hq, if_neg (by decide)] at kk
      exact iteF ⟨_, rfl, any_bls he kk⟩
end
end K1
namespace K1
open PySem PySem.Spec L2 Z K36 K34 K35 K38 K6 K40 CwR
section
variable {P : Program} {w : World} {K : PySem.W.Frag} {mg : Str → Option Value} {base : Heap} {C CT CN CU CA : Addr}
theorem ok_letters_tested (T : Txt K mg C CT CN CU CA)  : Pr P w K mg base "letters_tested" s_letters_tested 1 ["tree"] (a_tested K) := by
  obtain ⟨f, fd, F, gl, bd⟩ := T.d_letters_tested
  refine ⟨f, fd, F, gl, bd, F.ok sc_letters_tested (fun vs H Q E h => ?_) (fun cdv A outer s H vs Q E hr h => ?_)⟩
  · obtain ⟨v, q, rfl, _⟩ := h
    rfl
  · obtain ⟨v, q, rfl, ⟨a, b, rs, rfl, ha, hb, ht⟩, ok, k⟩ := h
    have hu := hu_of hr
    refine ⟨_, (pss_cons (ps_setDc2 (i := 1) (own := [("item", 2), ("word", 3)]) (us := [3]) (g := gName 2) (gj := gName 3) rfl sc_letters_tested.nd rfl rfl (sw_dict rfl rfl rfl (by decide +kernel)) (pi_tup (pe_ix ix_tup (pv 0) pe_int (fun _ _ => rfl))) (blkOk_by (own := [("item", 2), ("word", 3)]) (N := N_letters_tested) (sc := defScope s_letters_tested) (by decide +kernel)) (by decide) (fun _ _ _ _ _ => (pg_name (i := 2) sc_letters_tested.nd rfl (Or.inl rfl))) (fun _ _ _ _ _ => (pi_tupK (K := K) rfl (pe_slice (sl_tupPK (K := K) rfl) (pv 2) (po_some pe_int) po_none))) (fun _ _ _ _ _ => (pg_name (i := 3) sc_letters_tested.nd rfl (Or.inl rfl))) (fun _ _ _ _ _ => (pv 3)) (fun _ _ _ _ _ => pe_bl))
      (pss_one (ps_ret (pe_join pe_str (pe_lc (own := [("letter", 4)]) (g := gName 4) rfl sc_letters_tested.nd (pi_list (pe_callB (cr_sortedDS rfl) (by rfl) T.b_sorted (by decide +kernel) (pa_cons (pv 1) pa_nil))) (blkOk_by (own := [("letter", 4)]) (N := N_letters_tested) (sc := defScope s_letters_tested) (by decide +kernel)) (fun _ _ _ _ _ => (pg_name (i := 4) sc_letters_tested.nd rfl (Or.inl rfl))) (fun _ _ _ _ _ => (pts_one (pt_cmpR op_ne (pv 4) pe_str (nomark _)))) (fun _ _ _ _ _ => (pv 4))))))), ?_⟩
    refine ⟨_, rfl, a, _, 1, _, rfl, rfl, ha, at_snd, b, rfl, ⟨_, hb⟩, fun D hD => ?_⟩
    refine dc2_out (xs := rs.map V.ref) (fun i H' => Same H H' ∧ ∃ ws, H' D = some (.dK (kW ws)) ∧ ws.Nodup ∧ (∀ w ∈ ws, isTgt w = true) ∧ ∀ x, x ∈ ws ↔ x ∈ wordsT (q.2.take i)) ⟨same_new hD, [], upd_same, by simp, by simp, by simp⟩ (fun i H' _ h => SqT.imm (.of h.1) hb) (fun i x H' hi h => ?_) (fun H' h => ?_)
    · obtain ⟨s1, ws, hk, nd, tg, hm⟩ := h
      obtain ⟨r, hr1, rfl⟩ := map_at hi
      obtain ⟨t, ht1, hrt⟩ := Paired.at ht hr1
      have hrt1 := SqT.imm (.of s1) hrt
      have okt := ok.tri t (List.mem_of_getElem? ht1)
      obtain ⟨l1, l2, l3⟩ := trip_parts okt
      have tg1 : isTgt t.2.1 = true := by unfold isTgt; rw [l1]; rfl
      refine ⟨rfl, _, rfl, _, rfl, r, _, rfl, hrt1, fun h => absurd h.1 (by show ¬ (HT.sIx 3 0 (some 1) = 0); decide), fun _ q5 o5 hq5 ho5 => ⟨q5, rfl, ⟨_, .inl (.inr ⟨o5, upd_same⟩)⟩, ?_⟩⟩
      have n5 : q5 ≠ D := fun e => by rw [e, hk] at hq5; cases hq5
      have s5 := same_new (o := .frz o5 (.tup (cutV (triV t) (some 1) none))) hq5
      have k5 := s5 _ _ hk
      have e5 : upd H' q5 (.frz o5 (.tup (cutV (triV t) (some 1) none))) q5 = some (.frz o5 (.tup [.str t.2.1, .str t.2.2])) := upd_same
      generalize upd H' q5 (.frz o5 (.tup (cutV (triV t) (some 1) none))) = H5 at s5 k5 e5 ⊢
      refine dc2_in (xs := [t.2.1, t.2.2].map V.str) (fun j H' => Same H H' ∧ H' q5 = some (.frz o5 (.tup [.str t.2.1, .str t.2.2])) ∧ ∃ ws, H' D = some (.dK (kW ws)) ∧ ws.Nodup ∧ (∀ w ∈ ws, isTgt w = true) ∧ ∀ x, x ∈ ws ↔ x ∈ wordsT (q.2.take i) ∨ x ∈ [t.2.1, t.2.2].take j) ⟨s1.trans s5, e5, ws, k5, nd, tg, by simpa using hm⟩ (fun j H' _ h => .inl (.inr ⟨_, h.2.1⟩)) (fun j x H6 hj h => ?_) (fun H6 h => ?_)
      · obtain ⟨s6, e6, vs, hk6, nd6, tg6, hm6⟩ := h
        obtain ⟨w, hw, rfl⟩ := map_at hj
        have hwm := List.mem_of_getElem? hw
        have tw : isTgt w = true := by
          simp only [List.mem_cons, List.not_mem_nil, or_false] at hwm
          rcases hwm with rfl | rfl
          · exact tg1
          · exact l3
        have few := tgt_few nd6 tg6
        refine ⟨rfl, _, rfl, kW vs, Sum.inr w, rfl, hk6, Nat.lt_of_lt_of_le (show (kW vs).length < 1000 by rw [List.length_map]; omega) (sl_le (by decide)), fun b' o e => ?_, ?_, addW vs w, ?_, addW_nd nd6, fun x hx => ?_, fun x => ?_⟩
        · rw [upd_ne (ne_of_none e hD)]
          exact s6 _ _ e
        · rw [upd_ne n5]
          exact e6
        · rw [upd_same]
          exact congrArg (fun z => some (HO.dK z)) (putK_kW vs w)
        · exact (addW_mem.mp hx).elim (tg6 x) fun e => e ▸ tw
        · rw [addW_mem, hm6, take_snoc hw, List.mem_append, List.mem_singleton, or_assoc]
      · obtain ⟨s6, e6, vs, hk6, nd6, tg6, hm6⟩ := h
        refine ⟨s6, vs, hk6, nd6, tg6, fun x => ?_⟩
        have e : wordsT (q.2.take i ++ [t]) = wordsT (q.2.take i) ++ [t.2.1, t.2.2] := by simp [wordsT]
        rw [hm6, take_snoc ht1, e, List.mem_append]
        exact Iff.rfl
    obtain ⟨s1, ws, hk, nd, tg, hm⟩ := h
    have few := tgt_few nd tg
    have rl : rs.length = q.2.length := Paired.len ht
    rw [List.length_map, rl, List.take_length] at hm
    dsimp only [gName, List.set]
    refine ⟨⟨_, rfl⟩, _, rfl, D, kW ws, ws, rfl, .inl hk, kW_keys ws, by omega, fun ys p perm srt hp => ⟨p, rfl, ⟨_, .inl (.inl upd_same)⟩, fun D2 hD2 => ?_⟩⟩
    have s2 := s1.trans (same_new (o := .lst (ys.map V.str)) hp)
    have e2 : upd H' p (.lst (ys.map V.str)) p = some (.lst (ys.map V.str)) := upd_same
    generalize upd H' p (.lst (ys.map V.str)) = H2 at s2 e2 hD2 ⊢
    have yl := perm.length_eq
    refine lcW (fun w => !decide (w = s_ "END")) e2 hD2 (by omega) (fun w H3 R1 R2 _ s3 h1 h2 => ?_) (fun H3 s3 e3 => ?_)
    · refine ⟨rfl, _, rfl, rfl, _, rfl, ?_⟩
      rw [dec_st]
      cases e : decide (w = Str.ofString "END") with
      | true => exact iteF (h1 H3 (fun _ _ h => h) (by show (!decide (w = Str.ofString "END")) = false; rw [e]; rfl))
      | false => exact iteT ⟨_, rfl, h2 H3 (fun _ _ h => h) (by show (!decide (w = Str.ofString "END")) = true; rw [e]; rfl)⟩
    have e4 : ys.filter (fun w => !decide (w = s_ "END")) = sgn (wordsQ q) := (sorted_sgn perm srt nd tg).trans (sgn_congr fun c _ _ => hm (ch c))
    rw [e4] at e3
    exact ⟨_, D2, sgn (wordsQ q), rfl, rfl, .inl (.inl (.inl e3)), sgn_small _, k H3 (s2.trans s3)⟩
end
end K1
namespace K1
open PySem PySem.Spec L2 Z K36 K34 K35 K38 K6 K40 CwR
section
variable {P : Program} {w : World} {K : PySem.W.Frag} {mg : Str → Option Value} {base : Heap} {C CT CN CU CA : Addr}
theorem ok_holds (T : Txt K mg C CT CN CU CA) (G_test_tree : PrX P w K mg base "test_tree" s_test_tree 6 ["test"] (p_test_tree K CT)) (G_need_store : PrX P w K mg base "need_store" s_need_store 3 ["value"] (b_need K C CN)) (G_need_known : PrX P w K mg base "need_known" s_need_known 3 ["letters", "names"] (b_known CU)) (G_does_hold : Pr P w K mg base "does_hold" s_does_hold 2 ["test", "places"] (b_hold K)) (G_letters_tested : Pr P w K mg base "letters_tested" s_letters_tested 1 ["tree"] (a_tested K)) : PrX P w K mg base "holds" s_holds 7 ["test", "store"] (b_holds K C CT CN CU) := by
  obtain ⟨f, fd, F, gl, bd⟩ := T.d_holds
  refine ⟨f, fd, F, gl, bd, F.okX sc_holds (fun vs H Q E h => ?_) (fun cdv A outer s H vs Q E hr h => ?_)⟩
  · obtain ⟨t, s, rfl, _⟩ := h
    rfl
  · obtain ⟨t, st, rfl, h⟩ := h
    have hu := hu_of hr
    refine ⟨_, (pss_cons (ps_set (i := 2) sc_holds.nd rfl (Or.inl rfl) (pcallX E G_test_tree (hr.mono (by decide)) (passes_call (takes_of rfl rfl rfl rfl) (fun _ _ _ _ h => h)) (pa_cons (pv 0) pa_nil)))
      (pss_cons (ps_expr (pcallX E G_need_store (hr.mono (by decide)) (passes_call (takes_of rfl rfl rfl rfl) (fun _ _ _ _ h => h)) (pa_cons (pv 1) pa_nil)))
      (pss_cons (ps_expr (pcallX E G_need_known (hr.mono (by decide)) (passes_call (takes_of rfl rfl rfl rfl) (fun _ _ _ _ h => h)) (pa_cons (pcall G_letters_tested (hr.mono (by decide)) (pa_cons (pv 2) pa_nil)) (pa_cons (pe_fld (pv 1) rfl) pa_nil))))
      (pss_one (ps_ret (pcall G_does_hold (hr.mono (by decide)) (pa_cons (pv 2) (pa_cons (pe_fld (pv 1) rfl) pa_nil)))))))), ?_⟩
    rcases h with ⟨q, y, ns, cs, ⟨x, rfl, xo, xt⟩, rfl, hs, k1, k2⟩ | ⟨nt, bad⟩ | ⟨⟨q, x, rfl, xo, xt⟩, ns, nss, bad⟩
    · have ok := tst_qok xt
      refine ⟨_, rfl, .str x, rfl, .inl ⟨x, q, rfl, xo, xt, fun H1 u1 s1 qa => ?_⟩⟩
      refine ⟨_, rfl, .ref y, rfl, .inl ⟨y, ns, cs, rfl, hs.same s1, ?_⟩⟩
      refine ⟨_, rfl, u1, q, rfl, qa, ok, fun H2 s2 => ?_⟩
      obtain ⟨v, u, dx, pd, ad, ld, ks, S⟩ := hs.same (s1.trans s2)
      have nd := nd_asc S.nok.asc
      refine ⟨_, rfl, y, C, dx, _, _, rfl, S.ob, T.cl, T.n_letters, rfl, txL (wordsQ q), lTxt ns, ns, rfl, tl_l ns, by have := (txL_ok (wordsQ q)).len; omega, by have := S.nok.four; omega, ?_⟩
      cases e : lack q ns with
      | none =>
        refine .inl ⟨by rw [txL_tl]; exact e, ?_⟩
        exact ⟨_, rfl, _, rfl, y, C, dx, _, _, rfl, S.ob, T.cl, T.n_places, rfl, u1, q, pd, ns, rfl, QAt.imm (.of s2) qa, ok, S.pd_, nd, known_all ok e, fun H3 s3 => k1 e H3 ((s1.trans s2).trans s3)⟩
      | some c => exact .inr ⟨c, by rw [txL_tl]; exact e, fun H' s' => k2 c e H' ((s1.trans s2).trans s')⟩
    · exact ⟨_, rfl, t, rfl, .inr ⟨nt, bad⟩⟩
    · exact ⟨_, rfl, .str x, rfl, .inl ⟨x, q, rfl, xo, xt, fun H1 u1 s1 qa => ⟨_, rfl, st, rfl, .inr ⟨nss H1 s1, fun H' s' => bad H' (s1.trans s')⟩⟩⟩⟩
end
end K1
namespace K1
open PySem PySem.Spec L2 Z K36 K34 K35 K38 K6 K40 CwR
section
variable {P : Program} {w : World} {K : PySem.W.Frag} {mg : Str → Option Value} {base : Heap} {C CT CN CU CA : Addr}
theorem ok_law_told (T : Txt K mg C CT CN CU CA) (G_holds : PrX P w K mg base "holds" s_holds 7 ["test", "store"] (b_holds K C CT CN CU)) : Pr P w K mg base "_law_told" s_law_told 8 ["_law_first", "_law_second", "_law_is_named"] (b_asked K C) := by
  obtain ⟨f, fd, F, gl, bd⟩ := T.d__law_told
  refine ⟨f, fd, F, gl, bd, F.ok sc_law_told (fun vs H Q E h => ?_) (fun cdv A outer s H vs Q E hr h => ?_)⟩
  · obtain ⟨t, s, b, rfl, _⟩ := h
    rfl
  · obtain ⟨t, st, b, rfl, h⟩ := h
    have hu := hu_of hr
    refine ⟨_, (pss_one (ps_try_each rfl rfl sc_law_told.nd takes0 (fun W pn xe tk _ => (pss_one (ps_ret (pe_lst (pa_cons pe_str (pa_cons (pe_ifExp (pt_val (pv 2)) (pcallWN0 G_holds (hr.mono (by decide)) tk kb_holds (pk_cons (pv 0) (pk_cons (pv 1) pk_nil))) (pcallW G_holds (hr.mono (by decide)) tk (pa_cons (pv 0) (pa_cons (pv 1) pa_nil)))) pa_nil))))))
      (.cons (i := 3) rfl rfl ⟨rfl, by decide, .inl T.x_InvalidTest.gC⟩ (fun a oe cls d pn hz hf => (pss_one (ps_ret (pe_lst (pa_cons pe_str (pa_cons (pe_xf T.x_InvalidTest.xf T.x_InvalidTest.no hz hf (pv 3)) pa_nil)))))) (.cons (i := 3) rfl rfl ⟨rfl, by decide, .inl T.x_NotAStore.gC⟩ (fun a oe cls d pn hz hf => (pss_one (ps_ret (pe_lst (pa_cons pe_str (pa_cons (pe_xf T.x_NotAStore.xf T.x_NotAStore.no hz hf (pv 3)) pa_nil)))))) (.cons (i := 3) rfl rfl ⟨rfl, by decide, .inl T.x_UnknownName.gC⟩ (fun a oe cls d pn hz hf => (pss_one (ps_ret (pe_lst (pa_cons pe_str (pa_cons (pe_xf T.x_UnknownName.xf T.x_UnknownName.no hz hf (pv 3)) (pa_cons (pe_callB (id := "isinstance") (r := rIsX K CU a cls d) (call_isX (X := (cxOf CX0 P w K mg base N_law_told "_law_told" (defScope s_law_told) f cdv A outer s H E).nox) T.i_UnknownName hz hf) (by rfl) T.b_isinstance (by decide +kernel) (pa_cons (pv 3) (pa_cons (pe_glob (v := V.ref CA) rfl T.mgCA rfl) pa_nil))) pa_nil))))))) .nil))))), ?_⟩
    rcases h with ⟨q, y, ns, cs, it, rfl, hs, k⟩ | ⟨nt, k⟩ | ⟨it, ns, nss, k⟩
    · cases b with
      | true =>
        refine ⟨_, rfl, _, rfl, iteT ⟨_, rfl, _, rfl, rfl, t, .ref y, rfl, .inl ⟨q, y, ns, cs, it, rfl, hs, fun e H1 s1 => ⟨sl_le (by show 2 ≤ 1000000; decide), fun l hl => ?_⟩, fun c e H1 s1 d H2 s2 hd hx => .inr ⟨T.e_UT, .inr ⟨T.e_UN, .inl ⟨T.x_UnknownName.te, fun a ha => ?_⟩⟩⟩⟩⟩⟩
        · refine k _ l (s1.trans (same_new hl)) ?_
          rw [upd_same]
          unfold dueL
          rw [e]
        · unfold tRet
          dsimp only [endsAs]
          refine ⟨_, rfl, rfl, rfl, d, _, .str (ch c), rfl, hx, rfl, _, rfl, .ref CA, .ref CA, d, _, true, rfl, fun u h => h, rfl, rfl, hx, T.k_UA, sl_le (by show 3 ≤ 1000000; decide), fun l hl => ?_⟩
          refine k _ l (s1.trans (s2.trans (same_new hl))) ?_
          rw [upd_same]
          unfold dueL
          rw [e]
      | false =>
        refine ⟨_, rfl, _, rfl, iteF ⟨_, rfl, _, rfl, t, .ref y, rfl, .inl ⟨q, y, ns, cs, it, rfl, hs, fun e H1 s1 => ⟨sl_le (by show 2 ≤ 1000000; decide), fun l hl => ?_⟩, fun c e H1 s1 d H2 s2 hd hx => .inr ⟨T.e_UT, .inr ⟨T.e_UN, .inl ⟨T.x_UnknownName.te, fun a ha => ?_⟩⟩⟩⟩⟩⟩
        · refine k _ l (s1.trans (same_new hl)) ?_
          rw [upd_same]
          unfold dueL
          rw [e]
        · unfold tRet
          dsimp only [endsAs]
          refine ⟨_, rfl, rfl, rfl, d, _, .str (ch c), rfl, hx, rfl, _, rfl, .ref CA, .ref CA, d, _, true, rfl, fun u h => h, rfl, rfl, hx, T.k_UA, sl_le (by show 3 ≤ 1000000; decide), fun l hl => ?_⟩
          refine k _ l (s1.trans (s2.trans (same_new hl))) ?_
          rw [upd_same]
          unfold dueL
          rw [e]
    · cases b with
      | true =>
        refine ⟨_, rfl, _, rfl, iteT ⟨_, rfl, _, rfl, rfl, t, st, rfl, .inr (.inl ⟨nt, fun H1 s1 d H2 s2 hd hx => .inl ⟨T.x_InvalidTest.te, fun a ha => ?_⟩⟩)⟩⟩
        unfold tRet
        dsimp only [endsAs]
        exact ⟨_, rfl, rfl, rfl, d, _, t, rfl, hx, rfl, sl_le (by show 2 ≤ 1000000; decide), fun l hl => k _ l (s1.trans (s2.trans (same_new hl))) upd_same⟩
      | false =>
        refine ⟨_, rfl, _, rfl, iteF ⟨_, rfl, _, rfl, t, st, rfl, .inr (.inl ⟨nt, fun H1 s1 d H2 s2 hd hx => .inl ⟨T.x_InvalidTest.te, fun a ha => ?_⟩⟩)⟩⟩
        unfold tRet
        dsimp only [endsAs]
        exact ⟨_, rfl, rfl, rfl, d, _, t, rfl, hx, rfl, sl_le (by show 2 ≤ 1000000; decide), fun l hl => k _ l (s1.trans (s2.trans (same_new hl))) upd_same⟩
    · cases b with
      | true =>
        refine ⟨_, rfl, _, rfl, iteT ⟨_, rfl, _, rfl, rfl, t, st, rfl, .inr (.inr ⟨it, ns, nss, fun H1 s1 d H2 s2 hd hx => .inr ⟨T.e_NT, .inl ⟨T.x_NotAStore.te, fun a ha => ?_⟩⟩⟩)⟩⟩
        unfold tRet
        dsimp only [endsAs]
        exact ⟨_, rfl, rfl, rfl, d, _, st, rfl, hx, rfl, sl_le (by show 2 ≤ 1000000; decide), fun l hl => k _ l (s1.trans (s2.trans (same_new hl))) upd_same⟩
      | false =>
        refine ⟨_, rfl, _, rfl, iteF ⟨_, rfl, _, rfl, t, st, rfl, .inr (.inr ⟨it, ns, nss, fun H1 s1 d H2 s2 hd hx => .inr ⟨T.e_NT, .inl ⟨T.x_NotAStore.te, fun a ha => ?_⟩⟩⟩)⟩⟩
        unfold tRet
        dsimp only [endsAs]
        exact ⟨_, rfl, rfl, rfl, d, _, st, rfl, hx, rfl, sl_le (by show 2 ≤ 1000000; decide), fun l hl => k _ l (s1.trans (s2.trans (same_new hl))) upd_same⟩
end
end K1
namespace K1
open PySem PySem.Spec L2 Z K36 K34 K35 K38 K6 K40 CwR
section
variable {P : Program} {w : World} {K : PySem.W.Frag} {mg : Str → Option Value} {base : Heap} {C CT CN CU CA : Addr}
theorem ok_eq (T : Txt K mg C CT CN CU CA)  : PrE P w K mg base C "Store.__eq__" s_eq 1 (sp_eq K C) := by
  obtain ⟨f, fd, F, O⟩ := T.d_eq
  refine ⟨f, fd, F, O, F.ok sc_eq (fun vs H Q E h => ?_) (fun cdv A outer s H vs Q E hr h => ?_)⟩
  · obtain ⟨x, y, ns, cs, rfl, _⟩ := h
    rfl
  · obtain ⟨x, y, ns, cs, rfl, ⟨v, u, dx, pd, ad, ld, ks, S⟩, h⟩ := h
    have hu := hu_of hr
    refine ⟨_, (pss_one (ps_ret (pe_and (pe_callB call_isi (by rfl) T.b_isinstance (by decide +kernel) (pa_cons (pv 1) (pa_cons (pe_glob (v := V.ref C) rfl T.mgC rfl) pa_nil))) (pe_and (pe_cmpR (op_eqD hr.units) (pe_fld (pv 0) rfl) (pe_fld (pv 1) rfl) (nomark _)) (pe_one (pe_cmpR (op_eqD hr.units) (pe_fld (pv 0) rfl) (pe_fld (pv 1) rfl) (nomark _))))))), ?_⟩
    rcases h with ⟨x', ns', cs', rfl, ⟨v', u', dx', pd', ad', ld', ks', S'⟩, k⟩ | ⟨h, k⟩
    · refine ⟨_, rfl, _, _, _, _, true, rfl, .own C, .base (.ins S'.ob T.cl T.isC T.isG T.isT T.isM), T.k_self, _, rfl, iteT ?_⟩
      refine ⟨_, rfl, x, C, dx, _, _, rfl, S.ob, T.cl, T.n_names, rfl, _, rfl, x', C, dx', _, _, rfl, S'.ob, T.cl, T.n_names, rfl, nD ns, nD ns', dp_n S.nm, dp_n S'.nm, shape_n S.nok, shape_n S'.nok, _, rfl, ?_⟩
      rw [eqv_n]
      have ek : decide (ns = ns' ∧ cs = cs') = (decide (ns = ns') && decide (cs = cs')) := by simp
      rw [ek] at k
      generalize decide (ns = ns') = z at k ⊢
      cases z with
      | false => exact k
      | true =>
        refine iteT ⟨_, rfl, x, C, dx, _, _, rfl, S.ob, T.cl, T.n_cells, rfl, _, rfl, x', C, dx', _, _, rfl, S'.ob, T.cl, T.n_cells, rfl, cD cs, cD cs', dp_c S.ce, dp_c S'.ce, shape_c S.cok, shape_c S'.cok, ?_⟩
        rw [eqv_c]
        exact k
    · rcases h with ⟨z, rfl⟩ | ⟨i, rfl⟩ | ⟨a, xs, rfl, hq⟩
      · exact ⟨_, rfl, _, _, _, _, false, rfl, .own C, .base (.str z), T.k_str, _, rfl, iteF k⟩
      · exact ⟨_, rfl, _, _, _, _, false, rfl, .own C, .base (.int i), T.k_int, _, rfl, iteF k⟩
      · exact ⟨_, rfl, _, _, _, _, false, rfl, .own C, SqT.ty hq, T.k_tup, _, rfl, iteF k⟩
end
end K1
namespace K1
open PySem PySem.Spec L2 Z K36 K34 K35 K38 K6 K40 CwR
section
variable {P : Program} {w : World} {K : PySem.W.Frag} {mg : Str → Option Value} {base : Heap} {C CT CN CU CA : Addr}
theorem ok_law_right (T : Txt K mg C CT CN CU CA) (SB : ∃ mm, base.Ns sysModules mm) (G__law_pick : Pr P w K mg base "_law_pick" s_law_pick 2 ["_law_well_here", "_law_some"] (p_pick K)) (G__law_drawn : Pr P w K mg base "_law_drawn" s_law_drawn 3 ["_law_well_here", "_law_signs", "_law_limit"] b_drawn) (G__law_store : Pr P w K mg base "_law_store" s_law_store 7 ["_law_mine"] (q_made K C)) (G__law_odd : Pr P w K mg base "_law_odd" s_law_odd 3 ["_law_well_here"] (b_odd K)) (G__law_quiz : Pr P w K mg base "_law_quiz" s_law_quiz 3 ["_law_well_here", "_law_signs"] (p_quiz K)) (G__law_quiz_said : Pr P w K mg base "_law_quiz_said" s_law_quiz_said 1 ["_law_quiz_here"] (p_quiz_said K)) (G__law_bent : Pr P w K mg base "_law_bent" s_law_bent 3 ["_law_well_here", "_law_said"] p_bent) (G__law_quiz_read : Pr P w K mg base "_law_quiz_read" s_law_quiz_read 4 ["_law_said"] (p_quiz_read K)) (G__law_due : Pr P w K mg base "_law_due" s_law_due 2 ["_law_mine", "_law_quiz_here"] (b_due K)) (G__law_shown : Pr P w K mg base "_law_shown" s_law_shown 1 ["_law_mine"] q_text) (G__law_told : Pr P w K mg base "_law_told" s_law_told 8 ["_law_first", "_law_second", "_law_is_named"] (b_asked K C)) (G_eq : PrE P w K mg base C "Store.__eq__" s_eq 1 (sp_eq K C)) : PrG P w K mg base "_law_right" s_law_right 9 ["_law_well_here"] sp_law_right := by
  obtain ⟨f, fd, F, gl, bd⟩ := T.d__law_right
  refine ⟨f, fd, F, gl, bd, okG F sc_law_right (fun vs H Q E h => ?_) (fun cdv A outer s H vs Q E hr hgd h => ?_)⟩
  · obtain ⟨j, rfl, _⟩ := h
    rfl
  · obtain ⟨j, rfl, hj, k⟩ := h
    have hu := hu_of hr
    refine ⟨_, (pss_cons (ps_set (i := 1) sc_law_right.nd rfl (Or.inl rfl) (pcall G__law_pick (hr.mono (by decide)) (pa_cons (pv 0) (pa_cons (pe_tup (pa_cons pe_str (pa_cons pe_str (pa_cons pe_str (pa_cons pe_str pa_nil))))) pa_nil))))
      (pss_cons (ps_set (i := 2) sc_law_right.nd rfl (Or.inl rfl) (pcall G__law_drawn (hr.mono (by decide)) (pa_cons (pv 0) (pa_cons (pv 1) (pa_cons pe_int pa_nil)))))
      (pss_cons (ps_par (i := 3) (j := 4) rfl sc_law_right.nd rfl rfl (by decide) rfl rfl (pa_cons (pcall G__law_store (hr.mono (by decide)) (pa_cons (pv 2) pa_nil)) (pa_cons (pcall G__law_odd (hr.mono (by decide)) (pa_cons (pv 0) pa_nil)) pa_nil)) (by rfl))
      (pss_cons (ps_for PassesOwn.never rfl (pi_range1 rfl T.b_range (pa_cons pe_int pa_nil)) (pg_name (i := 5) sc_law_right.nd rfl (Or.inl rfl))
      (pss_cons (ps_set (i := 6) sc_law_right.nd rfl (Or.inl rfl) (pcall G__law_quiz (hr.mono (by decide)) (pa_cons (pv 0) (pa_cons (pe_op op_add_str (pe_op op_mulS (pv 1) pe_int) (pe_ifExp (pt_cmpR op_gt (pv 5) pe_int (nomark _)) pe_str (pe_slice sl_str (pv 1) po_none (po_some pe_int)))) pa_nil))))
      (pss_cons (ps_set (i := 7) sc_law_right.nd rfl (Or.inl rfl) (pcall G__law_quiz_said (hr.mono (by decide)) (pa_cons (pv 6) pa_nil)))
      (pss_cons (ps_if (pt_cmpR op_ne (pe_callB (call_showX SB hgd hr.units) (by rfl) T.b_repr (by decide +kernel) (pa_cons (pcall G__law_told (hr.mono (by decide)) (pa_cons (pv 7) (pa_cons (pv 3) (pa_cons (pe_cmpR op_eq (pv 5) pe_int (nomark _)) pa_nil)))) pa_nil)) (pe_callB (call_showX SB hgd hr.units) (by rfl) T.b_repr (by decide +kernel) (pa_cons (pcall G__law_due (hr.mono (by decide)) (pa_cons (pv 2) (pa_cons (pv 6) pa_nil))) pa_nil)) (nomark _)) (pss_one (ps_ret pe_bl)) pss_nil)
      (pss_cons (ps_set (i := 8) sc_law_right.nd rfl (Or.inl rfl) (pcall G__law_bent (hr.mono (by decide)) (pa_cons (pv 0) (pa_cons (pv 7) pa_nil))))
      (pss_cons (ps_set (i := 9) sc_law_right.nd rfl (Or.inl rfl) (pcall G__law_quiz_read (hr.mono (by decide)) (pa_cons (pv 8) pa_nil)))
      (pss_cons (ps_set (i := 10) sc_law_right.nd rfl (Or.inl rfl) (pe_ifExp (pt_cmp (pc_isN (pv 9)) rfl) (pe_lst (pa_cons pe_str (pa_cons (pv 8) pa_nil))) (pcall G__law_due (hr.mono (by decide)) (pa_cons (pv 2) (pa_cons (pv 9) pa_nil)))))
      (pss_one (ps_if (pt_cmpR op_ne (pe_callB (call_showX SB hgd hr.units) (by rfl) T.b_repr (by decide +kernel) (pa_cons (pcall G__law_told (hr.mono (by decide)) (pa_cons (pv 8) (pa_cons (pv 3) (pa_cons pe_bl pa_nil)))) pa_nil)) (pe_callB (call_showX SB hgd hr.units) (by rfl) T.b_repr (by decide +kernel) (pa_cons (pv 10) pa_nil)) (nomark _)) (pss_one (ps_ret pe_bl)) pss_nil)))))))))
      (pss_cons (ps_if (PW.pt (pw_or (pt_cmpR op_ne (pe_callB (call_showX SB hgd hr.units) (by rfl) T.b_repr (by decide +kernel) (pa_cons (pcall G__law_told (hr.mono (by decide)) (pa_cons (pv 7) (pa_cons (pv 4) (pa_cons pe_bl pa_nil)))) pa_nil)) (pe_callB (call_showX SB hgd hr.units) (by rfl) T.b_repr (by decide +kernel) (pa_cons (pe_lst (pa_cons pe_str (pa_cons (pv 4) pa_nil))) pa_nil)) (nomark _)) (pw_or1 (pt_cmpR op_ne (pe_fld (pv 3) rfl) (pcall G__law_shown (hr.mono (by decide)) (pa_cons (pv 2) pa_nil)) (nomark _))))) (pss_one (ps_ret pe_bl)) pss_nil)
      (pss_one (ps_ret (pe_cmpR op_eq (pe_callB (call_showX SB hgd hr.units) (by rfl) T.b_repr (by decide +kernel) (pa_cons (pcall G__law_told (hr.mono (by decide)) (pa_cons (pv 4) (pa_cons (pcall G__law_pick (hr.mono (by decide)) (pa_cons (pv 0) (pa_cons (pe_tup (pa_cons (pv 3) (pa_cons (pv 4) pa_nil))) pa_nil))) (pa_cons pe_bl pa_nil)))) pa_nil)) (pe_callB (call_showX SB hgd hr.units) (by rfl) T.b_repr (by decide +kernel) (pa_cons (pe_lst (pa_cons pe_str (pa_cons (pv 4) pa_nil))) pa_nil)) (nomark _))))))))), ?_⟩
    refine ⟨_, rfl, sl_le (by show 4 ≤ 1000000; decide), fun t ht => ?_⟩
    have s1 := same_new (o := .tup [V.str (Str.ofString "x"), V.str (Str.ofString "xy"), V.str (Str.ofString "xyz"), V.str (Str.ofString "bhqz")]) ht
    refine ⟨j, .ref t, _, rfl, hj.same s1, .inr (.inl ⟨t, rfl, .inl (.inl upd_same)⟩), List.cons_ne_nil _ _, by show 4 ≤ 1000; decide, fun H2 x c2 j2 hx => ?_⟩
    obtain ⟨z, rfl, z1, z4, hz, za, ⟨m12, hm⟩, f1, hf⟩ := sg40 hx
    have c02 := (Chg.of s1).trans c2
    clear c2 s1 hx ht
    refine ⟨_, rfl, _, rfl, j, z, 3, rfl, j2, z1, z4, hz, za, by decide, fun H3 sm ns cs c3 j3 hsm ls nok dok nz => ?_⟩
    have nsm : sm ≠ j := j2.ne hsm
    refine ⟨_, rfl, sm, ns, cs, rfl, ls, nok, dok, fun H4 y s4 hy st => ?_⟩
    have c04 := (c02.trans c3).trans (.of s4)
    have j4 := j3.same s4
    have ls4 := ls.same s4
    refine ⟨_, rfl, j, rfl, j4, fun H5 v c5 j5 hv => ⟨_, _, rfl, ?_⟩⟩
    have st5 := st.cj c5 j4
    have ls5 := ls4.chg c5 j4 nsm
    have c05 := c04.trans c5
    clear st ls ls4 c04 c02 c3 c5 s4 hy hsm j4 j3
    refine ⟨5, rfl, by decide, by decide, ?_⟩
    refine for_range (lo := 0) (n := 5) (fun i σ H' => Chg j H5 H' ∧ JugAt H' j ∧ ∃ x5 x6 x7 x8 x9 x10 : Option V, σ = [some (.ref j), some (.str z), some (.ref sm), some (.ref y), some v, x5, x6, x7, x8, x9, x10] ∧ (0 < i → ∃ t q, x7 = some t ∧ IsTest t q)) ⟨.refl _ _, j5, _, _, _, _, _, _, rfl, fun h => absurd h (by decide)⟩ ?_ ?_
    · rintro i σ H6 hi ⟨c6, j6, x5, x6, x7, x8, x9, x10, rfl, _⟩
      refine seq_post (fun σ' H' => ∃ (u : V) (q : Quiz) (x7 x8 x9 x10 : Option V), Chg j H5 H' ∧ JugAt H' j ∧ QAt K H' u q ∧ QOk q ∧ (q.2.length = 1 → q.1 = Str.ofString "and") ∧ σ' = [some (.ref j), some (.str z), some (.ref sm), some (.ref y), some v, some (.int (0 + (i : Int))), some u, x7, x8, x9, x10]) (fun R hR => ?_) ?_
      · have go : ∀ e : Str, e.length = 1 → (∀ c ∈ TL.tl e, 97 ≤ c ∧ c ≤ 122) → ∃ (j' : Addr) (z' : Str), [V.ref j, V.str (Txt.mul z (3 : Nat) ++ e)] = [.ref j', .str z'] ∧ JugAt H6 j' ∧ 1 ≤ z'.length ∧ z'.length ≤ 100 ∧ (∀ c ∈ TL.tl z', 97 ≤ c ∧ c ≤ 122) ∧ ∀ H' u q, Chg j' H6 H' → JugAt H' j' → QAt K H' u q → QOk q → (q.2.length = 1 → q.1 = Str.ofString "and") → R [some (.ref j), some (.str z), some (.ref sm), some (.ref y), some v, some (.int (0 + (i : Int))), some u, x7, x8, x9, x10] H' := fun e e1 he => by
          refine ⟨j, _, rfl, j6, by rw [len_app]; omega, by rw [len_app]; omega, fun c hc => ?_, fun H' u q c' j' hq ok ha => hR _ _ ⟨u, q, _, _, _, _, c6.trans c', j', hq, ok, ha, rfl⟩⟩
          rw [TL.tl_append] at hc
          exact (List.mem_append.mp hc).elim (hm c) (he c)
        refine ⟨_, rfl, _, rfl, z, 3, rfl, rfl, by decide, by omega, by omega, _, rfl, _, _, rfl, rfl, _, rfl, ?_⟩
        by_cases ht : (2 : Int) < 0 + (i : Int)
        · exact ifT (decide_eq_true ht) ⟨_, _, rfl, rfl, sl_le (by have := e_len; omega), go _ (by decide +kernel) (by decide +kernel)⟩
        · exact ifF (decide_eq_false ht) ⟨_, rfl, _, rfl, z, rfl, sl_le (by omega), _, _, rfl, rfl, sl_le (by omega), go _ f1 hf⟩
      rintro _ H7 ⟨u, q, x7, x8, x9, x10, c7, j7, hq, ok, ha, rfl⟩
      have st7 := st5.cj c7 j5
      have ls7 := ls5.chg c7 j5 nsm
      obtain ⟨g1, g2, g3⟩ := due_ok40 ns q
      refine ⟨_, rfl, u, q, rfl, hq, ok, fun H8 s8 => ?_⟩
      have so := said_ok ok
      have et : tst (spl (said q)) = some q := by rw [spl_said ok]; exact tst_wds ok ha
      have it : IsTest (.str (said q)) q := ⟨_, rfl, so.mono (by decide), et⟩
      dsimp only [gName, List.set]
      refine seq_post (fun σ' H' => Same H7 H' ∧ σ' = [some (.ref j), some (.str z), some (.ref sm), some (.ref y), some v, some (.int (0 + (i : Int))), some u, some (.str (said q)), x8, x9, x10]) (fun R hR => ?_) ?_
      · refine ⟨_, rfl, _, rfl, _, rfl, rfl, .str (said q), .ref y, _, rfl, .inl ⟨q, y, ns, srt cs, it, rfl, st7.same s8, fun H9 l9 s9 e9 => ⟨.ref l9, dueP ns q, rfl, due_dx e9, g1, g2, g3, _, rfl, _, rfl, sm, u, ns, cs, q, rfl, ls7.same (s8.trans s9), nok, QAt.imm (.of (s8.trans s9)) hq, ok, fun Ha la sa ea => ⟨.ref la, dueP ns q, rfl, due_dx ea, g1, g2, g3, rfl, _, rfl, ?_⟩⟩⟩⟩
        rw [decide_eq_true rfl]
        exact iteF (hR _ _ ⟨(s8.trans s9).trans sa, rfl⟩)
      rintro _ H9 ⟨s9, rfl⟩
      have j9 := j7.same s9
      have c9 := c7.trans (.of s9)
      have st9 := st7.same s9
      have ls9 := ls7.same s9
      clear hq ls7 st7 s8
      refine ⟨_, rfl, _, rfl, j, said q, 43, rfl, j9, so, by decide, fun Hb yb cb jb tb => ?_⟩
      have stb := st9.cj cb j9
      have lsb := ls9.chg cb j9 nsm
      have c5b := c9.trans cb
      have tb2 : TxOk 12000 yb := tb.mono (by decide)
      refine ⟨_, rfl, yb, rfl, tb2, fun e Hc sc => ?_, fun q2 e Hc u2 sc hq2 => ?_⟩
      · refine ⟨_, rfl, _, rfl, iteT ⟨_, rfl, sl_le (by show 2 ≤ 1000000; decide), fun ld hld => ?_⟩⟩
        have sd := same_new (o := .lst [V.str (Str.ofString "test"), V.str yb]) hld
        have ed : upd Hc ld (.lst [V.str (Str.ofString "test"), V.str yb]) ld = some (.lst [V.str (Str.ofString "test"), V.str yb]) := upd_same
        generalize upd Hc ld (.lst [V.str (Str.ofString "test"), V.str yb]) = Hd at sd ed ⊢
        have nt : NoTest K Hd (.str yb) := .inl ⟨yb, rfl, tb2, e⟩
        obtain ⟨pd, po, psh⟩ := shown_str (K := K) (H := Hd) tb2 (Nat.le_refl _)
        obtain ⟨k1, k2, k3⟩ := say_ok (w := Str.ofString "test") (by decide +kernel) po
        refine ⟨_, rfl, _, rfl, .str yb, .ref y, _, rfl, .inr (.inl ⟨nt, fun He le se ee => ⟨.ref le, sayD (Str.ofString "test") pd, rfl, say_dx ee (psh He se), k1, k2, k3, _, rfl, .ref ld, sayD (Str.ofString "test") pd, rfl, say_dx (se _ _ ed) (psh He se), k1, k2, k3, rfl, _, rfl, ?_⟩⟩)⟩
        rw [decide_eq_true rfl]
        have sbe := (sc.trans sd).trans se
        exact iteF ⟨c5b.trans (.of sbe), jb.same sbe, _, _, _, _, _, _, rfl, fun _ => ⟨_, q, rfl, it⟩⟩
      · obtain ⟨a2, b2, rs2, rfl, ha2, hb2, ht2⟩ := hq2
        have ok2 := tst_qok e
        have it2 : IsTest (.str yb) q2 := ⟨_, rfl, tb2, e⟩
        obtain ⟨k1, k2, k3⟩ := due_ok40 ns q2
        refine ⟨_, rfl, _, rfl, iteF ⟨_, rfl, _, rfl, sm, .ref a2, ns, cs, q2, rfl, lsb.same sc, nok, ⟨a2, b2, rs2, rfl, ha2, hb2, ht2⟩, ok2, fun Hd ld sd ed => ?_⟩⟩
        refine ⟨_, rfl, _, rfl, .str yb, .ref y, _, rfl, .inl ⟨q2, y, ns, srt cs, it2, rfl, stb.same (sc.trans sd), fun He le se ee => ⟨.ref le, dueP ns q2, rfl, due_dx ee, k1, k2, k3, _, rfl, .ref ld, dueP ns q2, rfl, due_dx (se _ _ ed), k1, k2, k3, rfl, _, rfl, ?_⟩⟩⟩
        rw [decide_eq_true rfl]
        have sbe := (sc.trans sd).trans se
        exact iteF ⟨c5b.trans (.of sbe), jb.same sbe, _, _, _, _, _, _, rfl, fun _ => ⟨_, q, rfl, it⟩⟩
    rintro σ H6 ⟨c6, j6, x5, x6, x7, x8, x9, x10, rfl, hx7⟩
    obtain ⟨t, q, rfl, it⟩ := hx7 (by decide)
    have st6 := st5.cj c6 j5
    have ls6 := ls5.chg c6 j5 nsm
    obtain ⟨nt6, sh6⟩ := hv H6 c6
    dsimp only
    refine seq_post (fun σ' H' => Same H6 H' ∧ σ' = [some (.ref j), some (.str z), some (.ref sm), some (.ref y), some v, x5, x6, some t, x8, x9, x10]) (fun R hR => ?_) ?_
    · obtain ⟨pd, po, psh⟩ := sh6
      obtain ⟨k1, k2, k3⟩ := say_ok (w := Str.ofString "store") (by decide +kernel) po
      refine ⟨_, rfl, _, rfl, t, v, _, rfl, .inr (.inr ⟨⟨q, it⟩, NoTest.notSt nt6, fun H' s' => NoTest.notSt (nt6.same s'), fun H7 l7 s7 e7 => ⟨.ref l7, sayD (Str.ofString "store") pd, rfl, say_dx e7 (psh H7 s7), k1, k2, k3, _, rfl, sl_le (by show 2 ≤ 1000000; decide), fun l8 hl8 => ?_⟩⟩)⟩
      have s8 := same_new (o := .lst [V.str (Str.ofString "store"), v]) hl8
      refine ⟨.ref l8, sayD (Str.ofString "store") pd, rfl, say_dx upd_same (psh _ (s7.trans s8)), k1, k2, k3, rfl, _, rfl, ?_⟩
      rw [decide_eq_true rfl]
      have s68 := s7.trans s8
      obtain ⟨v1, u1, dx, pd1, ad, ld, ks, S⟩ := st6.same s68
      refine iteF ⟨_, rfl, y, C, dx, _, _, rfl, S.ob, T.cl, T.n_text, rfl, _, rfl, sm, ns, cs, rfl, ls6.same s68, nok, dok, fun H9 s9 => ⟨rfl, _, rfl, ?_⟩⟩
      rw [decide_eq_true rfl]
      exact iteF (hR _ _ ⟨s68.trans s9, rfl⟩)
    rintro _ H7 ⟨s7, rfl⟩
    have j7 := j6.same s7
    have c7 := c6.trans (.of s7)
    refine ⟨_, rfl, _, rfl, _, rfl, _, rfl, sl_le (by show 2 ≤ 1000000; decide), fun tt htt => ?_⟩
    have s8 := same_new (o := .tup [V.ref y, v]) htt
    refine ⟨j, .ref tt, _, rfl, j7.same s8, .inr (.inl ⟨tt, rfl, .inl (.inl upd_same)⟩), List.cons_ne_nil _ _, by show 2 ≤ 1000; decide, fun Hb x cb jb hx => ?_⟩
    have c5b := c7.trans ((Chg.of s8).trans cb)
    obtain ⟨ntb, pd, po, psh⟩ := hv Hb c5b
    obtain ⟨k1, k2, k3⟩ := say_ok (w := Str.ofString "test") (by decide +kernel) po
    refine ⟨v, x, _, rfl, .inr (.inl ⟨ntb, fun Hc lc sc ec => ⟨.ref lc, sayD (Str.ofString "test") pd, rfl, say_dx ec (psh Hc sc), k1, k2, k3, _, rfl, sl_le (by show 2 ≤ 1000000; decide), fun l8 hl8 => ?_⟩⟩)⟩
    have s9 := same_new (o := .lst [V.str (Str.ofString "test"), v]) hl8
    refine ⟨.ref l8, sayD (Str.ofString "test") pd, rfl, say_dx upd_same (psh _ (sc.trans s9)), k1, k2, k3, rfl, ?_⟩
    rw [decide_eq_true rfl]
    exact k _ (c05.trans (c5b.trans (.of (sc.trans s9))))
end
end K1
namespace K1
open PySem PySem.Spec L2 Z K36 K34 K35 K38 K6 K40 CwR
section
variable {P : Program} {w : World} {K : PySem.W.Frag} {mg : Str → Option Value} {base : Heap} {C CT CN CU CA : Addr}
theorem ok_law_well (T : Txt K mg C CT CN CU CA)  : Pr P w K mg base "_law_well" s_law_well 1 ["_law_script", "_law_turn"] (sp_law_jug K) := by
  obtain ⟨f, fd, F, gl, bd⟩ := T.d__law_well
  refine ⟨f, fd, F, gl, bd, F.ok sc_law_well (fun vs H Q E h => ?_) (fun cdv A outer s H vs Q E hr h => ?_)⟩
  · obtain ⟨a, ns, t, rfl, _⟩ := h
    rfl
  · obtain ⟨a, ns, t, rfl, hs, h1, h2, hz, k⟩ := h
    have hu := hu_of hr
    refine ⟨_, (pss_cons (ps_set (i := 2) sc_law_well.nd rfl (Or.inl rfl) (pe_ifExp (pt_cmpR op_lt (pv 1) (pe_callB call_len_seq (by rfl) T.b_len (by decide +kernel) (pa_cons (pv 0) pa_nil)) (nomark _)) (pe_callTy call_int1 (by rfl) T.b_int (by decide +kernel) (pa_cons (pe_ix ix_list (pv 0) (pv 1) (fun _ _ => rfl)) pa_nil)) (pe_op op_add (pe_op op_mul pe_int (pv 1)) pe_int)))
      (pss_cons (ps_set (i := 3) sc_law_well.nd rfl (Or.inl rfl) (pe_op op_add pe_int (pe_op op_mul pe_int (pv 1))))
      (pss_cons (ps_for PassesOwn.never rfl (pi_list (pe_slice sl_list (pv 0) po_none (po_some pe_int))) (pg_name (i := 4) sc_law_well.nd rfl (Or.inl rfl))
      (pss_one (ps_set (i := 3) sc_law_well.nd rfl (Or.inl rfl) (pe_op op_modN (pe_callTy call_int1 (by rfl) T.b_int (by decide +kernel) (pa_cons (pe_op op_add (pe_op op_add (pe_op op_mul (pv 3) pe_int) (pe_op op_modN (pe_callTy call_int1 (by rfl) T.b_int (by decide +kernel) (pa_cons (pv 4) pa_nil)) pe_int)) pe_int) pa_nil)) pe_int))))
      (pss_cons (ps_set (i := 3) sc_law_well.nd rfl (Or.inl rfl) (pe_op op_modN (pe_callTy call_int1 (by rfl) T.b_int (by decide +kernel) (pa_cons (pe_op op_add (pe_op op_mul (pv 3) pe_int) (pe_op op_mul (pe_op op_modN (pe_callTy call_int1 (by rfl) T.b_int (by decide +kernel) (pa_cons (pv 2) pa_nil)) pe_int) pe_int)) pa_nil)) pe_int))
      (pss_one (ps_ret (pe_lst (pa_cons (pe_ifExp (PW.pt (pw_or (pt_cmpR op_lt (pv 2) pe_int (nomark _)) (pw_or1 (pt_cmpR op_ge (pv 2) (pe_op op_pow pe_int pe_int) (nomark _))))) (pe_callB call_abs (by rfl) T.b_abs (by decide +kernel) (pa_cons (pv 2) pa_nil)) pe_int) (pa_cons (pv 3) (pa_cons pe_int pa_nil)))))))))), ?_⟩
    have nz1 : (2147483563 : Int) ≠ 0 := by decide
    have nz2 : (2147483629 : Int) ≠ 0 := by decide
    by_cases ht : t < (ns.length : Int)
    case' pos =>
      obtain ⟨y, hy, hat⟩ := at_of (xs := ns.map V.int) h1 (by rw [List.length_map]; exact ht)
      obtain ⟨own, _, rfl⟩ := List.mem_map.mp hy
      refine ⟨_, rfl, _, rfl, a, _, rfl, .inl hs, _, _, rfl, rfl, true, congrArg V.bl (decide_eq_true (by rw [List.length_map]; exact ht)), iteT ?_⟩
      refine ⟨_, rfl, _, rfl, a, _, t, _, rfl, rfl, hs, hat, .inl ⟨_, rfl, ?_⟩⟩
    case' neg =>
      refine ⟨_, rfl, _, rfl, a, _, rfl, .inl hs, _, _, rfl, rfl, false, congrArg V.bl (decide_eq_false (by rw [List.length_map]; exact ht)), iteF ?_⟩
      refine ⟨_, rfl, _, _, rfl, rfl, .inl ⟨by decide, by decide⟩, _, _, rfl, rfl, ?_⟩
      obtain ⟨own, ho⟩ : ∃ own : Int, 1013 * t + 29 = own := ⟨_, rfl⟩
      refine set_int (T := fun z => gName 2 z _ _ _) ho ?_
    all_goals
      refine ⟨_, rfl, _, _, rfl, rfl, .inl ⟨by decide, by decide⟩, _, _, rfl, rfl, ?_⟩
      refine ⟨_, rfl, _, rfl, a, _, rfl, hs, fun l hl => ?_⟩
      have s1 : Same H (upd H l (.lst (cutV (ns.map V.int) none (some 9)))) := same_new hl
      have l1 : upd H l (.lst (cutV (ns.map V.int) none (some 9))) l = some (.lst (cutV (ns.map V.int) none (some 9))) := upd_same
      generalize upd H l (.lst (cutV (ns.map V.int) none (some 9))) = H1 at s1 l1 ⊢
      refine ⟨l, rfl, ⟨_, .inl (.inl l1)⟩, ?_⟩
      refine for_list (xs := cutV (ns.map V.int) none (some 9)) (fun i σ H' => H' = H1 ∧ ∃ sd : Int, ∃ x, σ = [some (.ref a), some (.int t), some (.int own), some (.int sd), x] ∧ -(2 ^ 64) < sd ∧ sd < 2 ^ 64) ⟨rfl, _, _, rfl, by omega, by omega⟩ (fun i σ H' _ h => .inl (.inl (by rw [h.1]; exact l1))) ?_ ?_
      · rintro i x σ H' hx ⟨rfl, sd, x0, rfl, b1, b2⟩
        obtain ⟨z, hz, rfl⟩ := List.mem_map.mp (cut_mem (List.mem_of_getElem? hx))
        refine ⟨_, rfl, _, _, rfl, rfl, .inr ⟨by decide, by decide⟩, _, rfl, .inl ⟨_, rfl, _, _, rfl, rfl, nz1, _, _, rfl, rfl, _, _, rfl, rfl, .inl ⟨_, rfl, _, _, rfl, rfl, nz2, rfl, _, _, rfl, ?_, ?_⟩⟩⟩
        · exact Int.lt_of_lt_of_le (by decide) (fm_range (by decide)).1
        · exact Int.lt_trans (fm_range (by decide)).2 (by decide)
      rintro σ H' ⟨rfl, sd, x0, rfl, b1, b2⟩
      refine ⟨_, rfl, _, _, rfl, rfl, .inr ⟨by decide, by decide⟩, _, rfl, .inl ⟨_, rfl, _, _, rfl, rfl, nz1, _, _, rfl, rfl, .inr ⟨by decide, by decide⟩, _, _, rfl, rfl, .inl ⟨_, rfl, _, _, rfl, rfl, nz2, ?_⟩⟩⟩
      have fr := fm_range (i := sd * 31 + Int.fmod own 2147483563 * 10007) (m := 2147483629) (by decide)
      have fin : ∀ g : Int, ∀ q, H' q = none → Q (.ref q) (upd H' q (.lst [.int g, .int (Int.fmod (sd * 31 + Int.fmod own 2147483563 * 10007) 2147483629), .int 0])) := fun g q hq =>
        k _ q (s1.trans (same_new hq)) (none_of s1 hq) ⟨_, _, _, upd_same, Int.lt_of_lt_of_le (by decide) fr.1, Int.lt_trans fr.2 (by decide)⟩
      refine ⟨_, rfl, _, _, rfl, rfl, _, rfl, ?_⟩
      by_cases d1 : own < 0
      · refine ifT (decide_eq_true d1) (ifT rfl ⟨_, rfl, _, rfl, ?_⟩)
        exact ⟨_, rfl, by show 3 ≤ sizeLine; exact sl_le (by decide), fun q hq => fin _ q hq⟩
      · refine ifF (decide_eq_false d1) ⟨_, rfl, _, _, rfl, rfl, ⟨by decide, by decide, by decide⟩, _, _, rfl, rfl, _, rfl, ?_⟩
        by_cases d2 : (10 : Int) ^ (18 : Int).toNat ≤ own
        · refine ifT (decide_eq_true d2) ⟨_, rfl, _, rfl, ?_⟩
          exact ⟨_, rfl, by show 3 ≤ sizeLine; exact sl_le (by decide), fun q hq => fin _ q hq⟩
        · refine ifF (decide_eq_false d2) ?_
          exact ⟨_, rfl, by show 3 ≤ sizeLine; exact sl_le (by decide), fun q hq => fin _ q hq⟩
end
end K1
namespace K1
open PySem PySem.Spec L2 Z K36 K34 K35 K38 K6 K40 CwR
section
variable {P : Program} {w : World} {K : PySem.W.Frag} {mg : Str → Option Value} {base : Heap} {C CT CN CU CA : Addr}
theorem ok_law (T : Txt K mg C CT CN CU CA) (G__law_right : PrG P w K mg base "_law_right" s_law_right 9 ["_law_well_here"] sp_law_right) (G__law_well : Pr P w K mg base "_law_well" s_law_well 1 ["_law_script", "_law_turn"] (sp_law_jug K)) : PrG P w K mg base "law" s_law 10 ["_law_script"] (sp_law K) := by
  obtain ⟨f, fd, F, gl, bd⟩ := T.d_law
  refine ⟨f, fd, F, gl, bd, okG F sc_law (fun vs H Q E h => ?_) (fun cdv A outer s H vs Q E hr hgd h => ?_)⟩
  · obtain ⟨a, ns, rfl, _⟩ := h
    rfl
  · obtain ⟨a, ns, rfl, hs, hz, k⟩ := h
    have hu := hu_of hr
    refine ⟨_, (pss_one (ps_ret (pe_callB (cr_all rfl) (by rfl) T.b_all (by decide +kernel) (pa_cons (pe_lc (own := [("_law_turn", 1)]) (g := gName 1) (tt := tYes) rfl sc_law.nd (pi_range1 rfl T.b_range (pa_cons (pe_callB (call_max2 rfl) (by rfl) T.b_max (by decide +kernel) (pa_cons pe_int (pa_cons (pe_callB (call_min2 rfl) (by rfl) T.b_min (by decide +kernel) (pa_cons (pe_callB call_len_seq (by rfl) T.b_len (by decide +kernel) (pa_cons (pv 0) pa_nil)) (pa_cons pe_int pa_nil))) pa_nil))) pa_nil)) (blkOk_by (own := [("_law_turn", 1)]) (N := N_law) (sc := defScope s_law) (by decide +kernel)) (fun _ _ _ _ _ => (pg_name (i := 1) sc_law.nd rfl (Or.inl rfl))) (fun _ _ _ _ _ => pts_nil) (fun _ _ _ _ _ => (pcallG G__law_right (hr.mono (by decide)) hgd (pa_cons (pcall G__law_well (hr.mono (by decide)) (pa_cons (pv 0) (pa_cons (pv 1) pa_nil))) pa_nil)))) pa_nil)))), ?_⟩
    obtain ⟨n, hn, hn2, hn3⟩ : ∃ n : Int, n = (if (if (3 : Int) < ((ns.map V.int).length : Int) then (3 : Int) else ((ns.map V.int).length : Int)) > 2 then (if (3 : Int) < ((ns.map V.int).length : Int) then (3 : Int) else ((ns.map V.int).length : Int)) else 2) ∧ 2 ≤ n ∧ n ≤ 3 := ⟨_, rfl, by split <;> omega, by split <;> split <;> omega⟩
    refine ⟨_, rfl, a, _, rfl, .inl hs, _, _, rfl, _, _, rfl, ?_⟩
    refine ⟨n, congrArg (fun z => [V.int z]) hn.symm, by omega, by omega, fun D hD => ?_⟩
    have key : a ≠ D ∨ ∀ H', SqL K H' a (ns.map V.int) := by
      rcases hs with (q | ⟨o, q⟩) | q
      · exact .inl (ne_of_none q hD)
      · exact .inl (ne_of_none q hD)
      · exact .inr fun _ => .inr q
    refine lc_it (n := n.toNat) (fun i H' => SqL K H' a (ns.map V.int) ∧ H' D = some (.lst ((List.replicate i true).map V.bl))) ⟨SqL_same (same_new hD) hs, upd_same⟩ (fun i H' hi _ => hi) (fun H' _ => Nat.le_refl _) (fun i y H' H2 hi h yl => ?_) (fun H' h => ?_)
    · obtain ⟨hs', hk⟩ := h
      obtain ⟨rfl, rfl⟩ := yl
      refine ⟨rfl, _, rfl, _, rfl, a, ns, _, rfl, hs', by omega, by omega, hz, fun H3 j s3 hj jug => ⟨j, rfl, jug, fun H4 c4 => ?_⟩⟩
      have nD : D ≠ j := ne_of_none hk hj
      have k4 := c4 _ _ (s3 _ _ hk) nD
      have q4 : SqL K H4 a (ns.map V.int) := by
        rcases hs' with (q | ⟨o, q⟩) | q
        · exact .inl (.inl (c4 _ _ (s3 _ _ q) (ne_of_none q hj)))
        · exact .inl (.inr ⟨o, c4 _ _ (s3 _ _ q) (ne_of_none q hj)⟩)
        · exact .inr q
      refine ⟨_, k4, by rw [List.length_map, List.length_replicate]; exact Nat.lt_of_lt_of_le (show i < 100 by omega) (sl_le (by decide)), ?_, by rw [upd_same, List.replicate_succ', List.map_append]; rfl⟩
      rcases key with nk | nk
      · exact SqL.chg Chg.upd nk q4
      · exact nk _
    obtain ⟨hs', hk⟩ := h
    refine ⟨D, List.replicate n.toNat true, rfl, .inl (.inl hk), ?_⟩
    have e : (List.replicate n.toNat true).all id = true := by
      rw [List.all_eq_true]
      intro b hb
      exact (List.mem_replicate.mp hb).2
    rw [e]
    exact k H'
end
end K1
/-! What the top has left, and the end. -/
namespace K1
open PySem PySem.Spec L2 Z LamX K36 K34 K35 K38 K6 K40
theorem kit_not {K : PySem.W.Frag} {C : Addr} {T : String} (icl : PySem.W.isClsIn K C = true) (tcl : PySem.W.typeIn K (.ref C) = some (.type "type")) (s : PySem.W.subIn K (.type T) (.ref C) = some false) : PySem.W.kitOne K (.type T) (.ref C) = some false := by
  have e1 : ((PySem.W.clsIn K C).isSome && PySem.W.typeIn K (.ref C) == some (.type "type")) = true := by
    rw [tcl]
    unfold PySem.W.isClsIn at icl
    rw [icl]
    rfl
  have e : PySem.W.kitCls K (.type T) (.ref C) = some false := (if_pos e1).trans s
  unfold PySem.W.kitOne
  rw [if_neg (by intro z; exact nomatch eq_of_beq z)]
  exact e
theorem kit_sub {K : PySem.W.Frag} {C D : Addr} {b : Bool} (icl : PySem.W.isClsIn K D = true) (tcl : PySem.W.typeIn K (.ref D) = some (.type "type")) (n : PySem.W.subIn K (.ref C) (.ref D) = some true) : PySem.W.kitOne K (.ref C) (.ref D) = some true := by
  have e1 : ((PySem.W.clsIn K D).isSome && PySem.W.typeIn K (.ref D) == some (.type "type")) = true := by
    rw [tcl]
    unfold PySem.W.isClsIn at icl
    rw [icl]
    rfl
  have e : PySem.W.kitCls K (.ref C) (.ref D) = some true := (if_pos e1).trans n
  unfold PySem.W.kitOne
  split
  · rfl
  · exact e
theorem kit_self {K : PySem.W.Frag} {C : Addr} : PySem.W.kitOne K (.ref C) (.ref C) = some true := by
  unfold PySem.W.kitOne
  rw [if_pos (beq_self_eq_true _)]
theorem all_mk {l : PySem.W.OpenLaw} {w : World} {K : PySem.W.Frag} {h : Heap} {mg : Str → Option Value} {nmE0 qE0 : Str} {NE0 fIE0 : Addr} {bsE0 : List Value} {snE0 : List Str} {subE0 : List Value} {abE0 : Bool} {colE0 : Option Bool} {ddE0 : Option Addr} {m0E0 m1E0 m2E0 m3E0 m5E0 : Option Value} {odIE0 anIE0 : Option Addr} {slIE0 : Array (Option Value)} {ocIE0 kVIE0 dcIE0 pmIE0 cdIE0 ctIE0 : Value} {nmE1 qE1 : Str} {NE1 fIE1 : Addr} {bsE1 : List Value} {snE1 : List Str} {subE1 : List Value} {abE1 : Bool} {colE1 : Option Bool} {ddE1 : Option Addr} {m0E1 m1E1 m2E1 m3E1 m5E1 : Option Value} {odIE1 anIE1 : Option Addr} {slIE1 : Array (Option Value)} {ocIE1 kVIE1 dcIE1 pmIE1 cdIE1 ctIE1 : Value} {nmE2 qE2 : Str} {NE2 fIE2 : Addr} {bsE2 : List Value} {snE2 : List Str} {subE2 : List Value} {abE2 : Bool} {colE2 : Option Bool} {ddE2 : Option Addr} {m0E2 m1E2 m2E2 m3E2 m5E2 : Option Value} {odIE2 anIE2 : Option Addr} {slIE2 : Array (Option Value)} {ocIE2 kVIE2 dcIE2 pmIE2 cdIE2 ctIE2 : Value} {fa C CT CN CU CA f0 f1 f2 f3 f4 f5 f6 f7 f8 f9 f10 f11 f12 f13 f14 f15 f16 f17 f18 f19 f20 f21 f22 f23 f24 f25 f26 f27 f28 f29 f30 f31 f32 f33 f34 f35 f36 f37 f38 f39 f40 f41 f42 f43 : Addr} {t_LETTERS t_END t_LAST_PLACE t_MOST_COMPARISONS t_MOST_NAMES t_MOST_CELLS : Tok} (X : K.In h) (G : h.Ns mainGlobals mg) (hfa : mg "law" = some (.ref fa)) (TO : ∀ nm ∈ ([] : List Str), TabOf mg h nm)
    {od0 an0 od1 an1 od2 an2 od3 an3 od4 an4 od5 an5 od6 an6 od7 an7 od8 an8 od9 an9 od10 an10 od11 an11 od12 an12 od13 an13 od14 an14 od15 an15 od16 an16 od17 an17 od18 an18 od19 an19 od20 an20 od21 an21 od22 an22 od23 an23 od24 an24 od25 an25 od26 an26 od27 an27 od28 an28 od29 an29 od30 an30 od31 an31 od32 an32 od33 an33 od34 an34 od35 an35 od36 an36 od37 an37 od38 an38 od39 an39 od40 an40 od41 an41 od42 an42 od43 an43 : Option Addr} {sl0 sl1 sl2 sl3 sl4 sl5 sl6 sl7 sl8 sl9 sl10 sl11 sl12 sl13 sl14 sl15 sl16 sl17 sl18 sl19 sl20 sl21 sl22 sl23 sl24 sl25 sl26 sl27 sl28 sl29 sl30 sl31 sl32 sl33 sl34 sl35 sl36 sl37 sl38 sl39 sl40 sl41 sl42 sl43 : Array (Option Value)} {oc0 kV0 dc0 pm0 cd0 ct0 oc1 kV1 dc1 pm1 cd1 ct1 oc2 kV2 dc2 pm2 cd2 ct2 oc3 kV3 dc3 pm3 cd3 ct3 oc4 kV4 dc4 pm4 cd4 ct4 oc5 kV5 dc5 pm5 cd5 ct5 oc6 kV6 dc6 pm6 cd6 ct6 oc7 kV7 dc7 pm7 cd7 ct7 oc8 kV8 dc8 pm8 cd8 ct8 oc9 kV9 dc9 pm9 cd9 ct9 oc10 kV10 dc10 pm10 cd10 ct10 oc11 kV11 dc11 pm11 cd11 ct11 oc12 kV12 dc12 pm12 cd12 ct12 oc13 kV13 dc13 pm13 cd13 ct13 oc14 kV14 dc14 pm14 cd14 ct14 oc15 kV15 dc15 pm15 cd15 ct15 oc16 kV16 dc16 pm16 cd16 ct16 oc17 kV17 dc17 pm17 cd17 ct17 oc18 kV18 dc18 pm18 cd18 ct18 oc19 kV19 dc19 pm19 cd19 ct19 oc20 kV20 dc20 pm20 cd20 ct20 oc21 kV21 dc21 pm21 cd21 ct21 oc22 kV22 dc22 pm22 cd22 ct22 oc23 kV23 dc23 pm23 cd23 ct23 oc24 kV24 dc24 pm24 cd24 ct24 oc25 kV25 dc25 pm25 cd25 ct25 oc26 kV26 dc26 pm26 cd26 ct26 oc27 kV27 dc27 pm27 cd27 ct27 oc28 kV28 dc28 pm28 cd28 ct28 oc29 kV29 dc29 pm29 cd29 ct29 oc30 kV30 dc30 pm30 cd30 ct30 oc31 kV31 dc31 pm31 cd31 ct31 oc32 kV32 dc32 pm32 cd32 ct32 oc33 kV33 dc33 pm33 cd33 ct33 oc34 kV34 dc34 pm34 cd34 ct34 oc35 kV35 dc35 pm35 cd35 ct35 oc36 kV36 dc36 pm36 cd36 ct36 oc37 kV37 dc37 pm37 cd37 ct37 oc38 kV38 dc38 pm38 cd38 ct38 oc39 kV39 dc39 pm39 cd39 ct39 oc40 kV40 dc40 pm40 cd40 ct40 oc41 kV41 dc41 pm41 cd41 ct41 oc42 kV42 dc42 pm42 cd42 ct42 oc43 kV43 dc43 pm43 cd43 ct43 : Value}
    (aC : PySem.W.nsIn K mainGlobals "Store" = some (some (.ref C)))
    (aCT : PySem.W.nsIn K mainGlobals "InvalidTest" = some (some (.ref CT)))
    (aCN : PySem.W.nsIn K mainGlobals "NotAStore" = some (some (.ref CN)))
    (aCU : PySem.W.nsIn K mainGlobals "UnknownName" = some (some (.ref CU)))
    (aCA : PySem.W.nsIn K mainGlobals "ArrowError" = some (some (.ref CA)))
    (a0 : PySem.W.nsIn K mainGlobals "is_number" = some (some (.ref f0)))
    (l0 : K.lookup f0 = some ⟨oc0, od0, .func (PySem.W.fnOf "is_number" "is_number" (defArgs s_is_number) (defBody s_is_number) (defScope s_is_number) .none kV0 dc0 pm0 an0 cd0 ct0), sl0⟩)
    (c0 : PySem.W.codeIn K cd0 "is_number" = true)
    (k0 : PySem.W.keepIn K (.ref f0) = true)
    (a1 : PySem.W.nsIn K mainGlobals "is_whole" = some (some (.ref f1)))
    (l1 : K.lookup f1 = some ⟨oc1, od1, .func (PySem.W.fnOf "is_whole" "is_whole" (defArgs s_is_whole) (defBody s_is_whole) (defScope s_is_whole) .none kV1 dc1 pm1 an1 cd1 ct1), sl1⟩)
    (c1 : PySem.W.codeIn K cd1 "is_whole" = true)
    (k1 : PySem.W.keepIn K (.ref f1) = true)
    (a2 : PySem.W.nsIn K mainGlobals "is_place" = some (some (.ref f2)))
    (l2 : K.lookup f2 = some ⟨oc2, od2, .func (PySem.W.fnOf "is_place" "is_place" (defArgs s_is_place) (defBody s_is_place) (defScope s_is_place) .none kV2 dc2 pm2 an2 cd2 ct2), sl2⟩)
    (c2 : PySem.W.codeIn K cd2 "is_place" = true)
    (k2 : PySem.W.keepIn K (.ref f2) = true)
    (a3 : PySem.W.nsIn K mainGlobals "is_letter" = some (some (.ref f3)))
    (l3 : K.lookup f3 = some ⟨oc3, od3, .func (PySem.W.fnOf "is_letter" "is_letter" (defArgs s_is_letter) (defBody s_is_letter) (defScope s_is_letter) .none kV3 dc3 pm3 an3 cd3 ct3), sl3⟩)
    (c3 : PySem.W.codeIn K cd3 "is_letter" = true)
    (k3 : PySem.W.keepIn K (.ref f3) = true)
    (a4 : PySem.W.nsIn K mainGlobals "is_target" = some (some (.ref f4)))
    (l4 : K.lookup f4 = some ⟨oc4, od4, .func (PySem.W.fnOf "is_target" "is_target" (defArgs s_is_target) (defBody s_is_target) (defScope s_is_target) .none kV4 dc4 pm4 an4 cd4 ct4), sl4⟩)
    (c4 : PySem.W.codeIn K cd4 "is_target" = true)
    (k4 : PySem.W.keepIn K (.ref f4) = true)
    (a5 : PySem.W.nsIn K mainGlobals "is_tuple_of" = some (some (.ref f5)))
    (l5 : K.lookup f5 = some ⟨oc5, od5, .func (PySem.W.fnOf "is_tuple_of" "is_tuple_of" (defArgs s_is_tuple_of) (defBody s_is_tuple_of) (defScope s_is_tuple_of) .none kV5 dc5 pm5 an5 cd5 ct5), sl5⟩)
    (c5 : PySem.W.codeIn K cd5 "is_tuple_of" = true)
    (k5 : PySem.W.keepIn K (.ref f5) = true)
    (a6 : PySem.W.nsIn K mainGlobals "comparison_in" = some (some (.ref f6)))
    (l6 : K.lookup f6 = some ⟨oc6, od6, .func (PySem.W.fnOf "comparison_in" "comparison_in" (defArgs s_comparison_in) (defBody s_comparison_in) (defScope s_comparison_in) .none kV6 dc6 pm6 an6 cd6 ct6), sl6⟩)
    (c6 : PySem.W.codeIn K cd6 "comparison_in" = true)
    (k6 : PySem.W.keepIn K (.ref f6) = true)
    (a7 : PySem.W.nsIn K mainGlobals "need_known" = some (some (.ref f7)))
    (l7 : K.lookup f7 = some ⟨oc7, od7, .func (PySem.W.fnOf "need_known" "need_known" (defArgs s_need_known) (defBody s_need_known) (defScope s_need_known) .none kV7 dc7 pm7 an7 cd7 ct7), sl7⟩)
    (c7 : PySem.W.codeIn K cd7 "need_known" = true)
    (k7 : PySem.W.keepIn K (.ref f7) = true)
    (a8 : PySem.W.nsIn K mainGlobals "test_tree" = some (some (.ref f8)))
    (l8 : K.lookup f8 = some ⟨oc8, od8, .func (PySem.W.fnOf "test_tree" "test_tree" (defArgs s_test_tree) (defBody s_test_tree) (defScope s_test_tree) .none kV8 dc8 pm8 an8 cd8 ct8), sl8⟩)
    (c8 : PySem.W.codeIn K cd8 "test_tree" = true)
    (k8 : PySem.W.keepIn K (.ref f8) = true)
    (a9 : PySem.W.nsIn K mainGlobals "test_or_none" = some (some (.ref f9)))
    (l9 : K.lookup f9 = some ⟨oc9, od9, .func (PySem.W.fnOf "test_or_none" "test_or_none" (defArgs s_test_or_none) (defBody s_test_or_none) (defScope s_test_or_none) .none kV9 dc9 pm9 an9 cd9 ct9), sl9⟩)
    (c9 : PySem.W.codeIn K cd9 "test_or_none" = true)
    (k9 : PySem.W.keepIn K (.ref f9) = true)
    (a10 : PySem.W.nsIn K mainGlobals "_test_in" = some (some (.ref f10)))
    (l10 : K.lookup f10 = some ⟨oc10, od10, .func (PySem.W.fnOf "_test_in" "_test_in" (defArgs s_test_in) (defBody s_test_in) (defScope s_test_in) .none kV10 dc10 pm10 an10 cd10 ct10), sl10⟩)
    (c10 : PySem.W.codeIn K cd10 "_test_in" = true)
    (k10 : PySem.W.keepIn K (.ref f10) = true)
    (a11 : PySem.W.nsIn K mainGlobals "letters_tested" = some (some (.ref f11)))
    (l11 : K.lookup f11 = some ⟨oc11, od11, .func (PySem.W.fnOf "letters_tested" "letters_tested" (defArgs s_letters_tested) (defBody s_letters_tested) (defScope s_letters_tested) .none kV11 dc11 pm11 an11 cd11 ct11), sl11⟩)
    (c11 : PySem.W.codeIn K cd11 "letters_tested" = true)
    (k11 : PySem.W.keepIn K (.ref f11) = true)
    (a12 : PySem.W.nsIn K mainGlobals "place_told" = some (some (.ref f12)))
    (l12 : K.lookup f12 = some ⟨oc12, od12, .func (PySem.W.fnOf "place_told" "place_told" (defArgs s_place_told) (defBody s_place_told) (defScope s_place_told) .none kV12 dc12 pm12 an12 cd12 ct12), sl12⟩)
    (c12 : PySem.W.codeIn K cd12 "place_told" = true)
    (k12 : PySem.W.keepIn K (.ref f12) = true)
    (a13 : PySem.W.nsIn K mainGlobals "does_hold" = some (some (.ref f13)))
    (l13 : K.lookup f13 = some ⟨oc13, od13, .func (PySem.W.fnOf "does_hold" "does_hold" (defArgs s_does_hold) (defBody s_does_hold) (defScope s_does_hold) .none kV13 dc13 pm13 an13 cd13 ct13), sl13⟩)
    (c13 : PySem.W.codeIn K cd13 "does_hold" = true)
    (k13 : PySem.W.keepIn K (.ref f13) = true)
    (a14 : PySem.W.findIn K (.ref C) "__init__" = some (some (.ref f14)))
    (i14 : PySem.W.isFn K (.ref f14) = true)
    (l14 : K.lookup f14 = some ⟨oc14, od14, .func (PySem.W.fnOf "__init__" "Store.__init__" (defArgs s_init) (defBody s_init) (defScope s_init) .none kV14 dc14 pm14 an14 cd14 ct14), sl14⟩)
    (c14 : PySem.W.codeIn K cd14 "Store.__init__" = true)
    (k14 : PySem.W.keepIn K (.ref f14) = true)
    (a15 : PySem.W.findIn K (.ref C) "__eq__" = some (some (.ref f15)))
    (i15 : PySem.W.isFn K (.ref f15) = true)
    (l15 : K.lookup f15 = some ⟨oc15, od15, .func (PySem.W.fnOf "__eq__" "Store.__eq__" (defArgs s_eq) (defBody s_eq) (defScope s_eq) .none kV15 dc15 pm15 an15 cd15 ct15), sl15⟩)
    (c15 : PySem.W.codeIn K cd15 "Store.__eq__" = true)
    (k15 : PySem.W.keepIn K (.ref f15) = true)
    (a16 : PySem.W.findIn K (.ref C) "take" = some (some (.ref f16)))
    (i16 : PySem.W.isFn K (.ref f16) = true)
    (l16 : K.lookup f16 = some ⟨oc16, od16, .func (PySem.W.fnOf "take" "Store.take" (defArgs s_take) (defBody s_take) (defScope s_take) .none kV16 dc16 pm16 an16 cd16 ct16), sl16⟩)
    (c16 : PySem.W.codeIn K cd16 "Store.take" = true)
    (k16 : PySem.W.keepIn K (.ref f16) = true)
    (a17 : PySem.W.nsIn K mainGlobals "_are_store_names" = some (some (.ref f17)))
    (l17 : K.lookup f17 = some ⟨oc17, od17, .func (PySem.W.fnOf "_are_store_names" "_are_store_names" (defArgs s_are_store_names) (defBody s_are_store_names) (defScope s_are_store_names) .none kV17 dc17 pm17 an17 cd17 ct17), sl17⟩)
    (c17 : PySem.W.codeIn K cd17 "_are_store_names" = true)
    (k17 : PySem.W.keepIn K (.ref f17) = true)
    (a18 : PySem.W.nsIn K mainGlobals "_wrong_cell" = some (some (.ref f18)))
    (l18 : K.lookup f18 = some ⟨oc18, od18, .func (PySem.W.fnOf "_wrong_cell" "_wrong_cell" (defArgs s_wrong_cell) (defBody s_wrong_cell) (defScope s_wrong_cell) .none kV18 dc18 pm18 an18 cd18 ct18), sl18⟩)
    (c18 : PySem.W.codeIn K cd18 "_wrong_cell" = true)
    (k18 : PySem.W.keepIn K (.ref f18) = true)
    (a19 : PySem.W.nsIn K mainGlobals "_store_text" = some (some (.ref f19)))
    (l19 : K.lookup f19 = some ⟨oc19, od19, .func (PySem.W.fnOf "_store_text" "_store_text" (defArgs s_store_text) (defBody s_store_text) (defScope s_store_text) .none kV19 dc19 pm19 an19 cd19 ct19), sl19⟩)
    (c19 : PySem.W.codeIn K cd19 "_store_text" = true)
    (k19 : PySem.W.keepIn K (.ref f19) = true)
    (a20 : PySem.W.nsIn K mainGlobals "need_store" = some (some (.ref f20)))
    (l20 : K.lookup f20 = some ⟨oc20, od20, .func (PySem.W.fnOf "need_store" "need_store" (defArgs s_need_store) (defBody s_need_store) (defScope s_need_store) .none kV20 dc20 pm20 an20 cd20 ct20), sl20⟩)
    (c20 : PySem.W.codeIn K cd20 "need_store" = true)
    (k20 : PySem.W.keepIn K (.ref f20) = true)
    (a21 : PySem.W.nsIn K mainGlobals "holds" = some (some (.ref f21)))
    (l21 : K.lookup f21 = some ⟨oc21, od21, .func (PySem.W.fnOf "holds" "holds" (defArgs s_holds) (defBody s_holds) (defScope s_holds) .none kV21 dc21 pm21 an21 cd21 ct21), sl21⟩)
    (c21 : PySem.W.codeIn K cd21 "holds" = true)
    (k21 : PySem.W.keepIn K (.ref f21) = true)
    (a22 : PySem.W.nsIn K mainGlobals "_law_well" = some (some (.ref f22)))
    (l22 : K.lookup f22 = some ⟨oc22, od22, .func (PySem.W.fnOf "_law_well" "_law_well" (defArgs s_law_well) (defBody s_law_well) (defScope s_law_well) .none kV22 dc22 pm22 an22 cd22 ct22), sl22⟩)
    (c22 : PySem.W.codeIn K cd22 "_law_well" = true)
    (k22 : PySem.W.keepIn K (.ref f22) = true)
    (a23 : PySem.W.nsIn K mainGlobals "_law_take" = some (some (.ref f23)))
    (l23 : K.lookup f23 = some ⟨oc23, od23, .func (PySem.W.fnOf "_law_take" "_law_take" (defArgs s_law_take) (defBody s_law_take) (defScope s_law_take) .none kV23 dc23 pm23 an23 cd23 ct23), sl23⟩)
    (c23 : PySem.W.codeIn K cd23 "_law_take" = true)
    (k23 : PySem.W.keepIn K (.ref f23) = true)
    (a24 : PySem.W.nsIn K mainGlobals "_law_pick" = some (some (.ref f24)))
    (l24 : K.lookup f24 = some ⟨oc24, od24, .func (PySem.W.fnOf "_law_pick" "_law_pick" (defArgs s_law_pick) (defBody s_law_pick) (defScope s_law_pick) .none kV24 dc24 pm24 an24 cd24 ct24), sl24⟩)
    (c24 : PySem.W.codeIn K cd24 "_law_pick" = true)
    (k24 : PySem.W.keepIn K (.ref f24) = true)
    (a25 : PySem.W.nsIn K mainGlobals "_law_drawn" = some (some (.ref f25)))
    (l25 : K.lookup f25 = some ⟨oc25, od25, .func (PySem.W.fnOf "_law_drawn" "_law_drawn" (defArgs s_law_drawn) (defBody s_law_drawn) (defScope s_law_drawn) .none kV25 dc25 pm25 an25 cd25 ct25), sl25⟩)
    (c25 : PySem.W.codeIn K cd25 "_law_drawn" = true)
    (k25 : PySem.W.keepIn K (.ref f25) = true)
    (a26 : PySem.W.nsIn K mainGlobals "_law_store" = some (some (.ref f26)))
    (l26 : K.lookup f26 = some ⟨oc26, od26, .func (PySem.W.fnOf "_law_store" "_law_store" (defArgs s_law_store) (defBody s_law_store) (defScope s_law_store) .none kV26 dc26 pm26 an26 cd26 ct26), sl26⟩)
    (c26 : PySem.W.codeIn K cd26 "_law_store" = true)
    (k26 : PySem.W.keepIn K (.ref f26) = true)
    (a27 : PySem.W.nsIn K mainGlobals "_law_shown" = some (some (.ref f27)))
    (l27 : K.lookup f27 = some ⟨oc27, od27, .func (PySem.W.fnOf "_law_shown" "_law_shown" (defArgs s_law_shown) (defBody s_law_shown) (defScope s_law_shown) .none kV27 dc27 pm27 an27 cd27 ct27), sl27⟩)
    (c27 : PySem.W.codeIn K cd27 "_law_shown" = true)
    (k27 : PySem.W.keepIn K (.ref f27) = true)
    (a28 : PySem.W.nsIn K mainGlobals "_law_is_so" = some (some (.ref f28)))
    (l28 : K.lookup f28 = some ⟨oc28, od28, .func (PySem.W.fnOf "_law_is_so" "_law_is_so" (defArgs s_law_is_so) (defBody s_law_is_so) (defScope s_law_is_so) .none kV28 dc28 pm28 an28 cd28 ct28), sl28⟩)
    (c28 : PySem.W.codeIn K cd28 "_law_is_so" = true)
    (k28 : PySem.W.keepIn K (.ref f28) = true)
    (a29 : PySem.W.nsIn K mainGlobals "_law_quiz" = some (some (.ref f29)))
    (l29 : K.lookup f29 = some ⟨oc29, od29, .func (PySem.W.fnOf "_law_quiz" "_law_quiz" (defArgs s_law_quiz) (defBody s_law_quiz) (defScope s_law_quiz) .none kV29 dc29 pm29 an29 cd29 ct29), sl29⟩)
    (c29 : PySem.W.codeIn K cd29 "_law_quiz" = true)
    (k29 : PySem.W.keepIn K (.ref f29) = true)
    (a30 : PySem.W.nsIn K mainGlobals "_law_quiz_said" = some (some (.ref f30)))
    (l30 : K.lookup f30 = some ⟨oc30, od30, .func (PySem.W.fnOf "_law_quiz_said" "_law_quiz_said" (defArgs s_law_quiz_said) (defBody s_law_quiz_said) (defScope s_law_quiz_said) .none kV30 dc30 pm30 an30 cd30 ct30), sl30⟩)
    (c30 : PySem.W.codeIn K cd30 "_law_quiz_said" = true)
    (k30 : PySem.W.keepIn K (.ref f30) = true)
    (a31 : PySem.W.nsIn K mainGlobals "_law_ahead_word" = some (some (.ref f31)))
    (l31 : K.lookup f31 = some ⟨oc31, od31, .func (PySem.W.fnOf "_law_ahead_word" "_law_ahead_word" (defArgs s_law_ahead_word) (defBody s_law_ahead_word) (defScope s_law_ahead_word) .none kV31 dc31 pm31 an31 cd31 ct31), sl31⟩)
    (c31 : PySem.W.codeIn K cd31 "_law_ahead_word" = true)
    (k31 : PySem.W.keepIn K (.ref f31) = true)
    (a32 : PySem.W.nsIn K mainGlobals "_law_next_word" = some (some (.ref f32)))
    (l32 : K.lookup f32 = some ⟨oc32, od32, .func (PySem.W.fnOf "_law_next_word" "_law_next_word" (defArgs s_law_next_word) (defBody s_law_next_word) (defScope s_law_next_word) .none kV32 dc32 pm32 an32 cd32 ct32), sl32⟩)
    (c32 : PySem.W.codeIn K cd32 "_law_next_word" = true)
    (k32 : PySem.W.keepIn K (.ref f32) = true)
    (a33 : PySem.W.nsIn K mainGlobals "_law_is_sign" = some (some (.ref f33)))
    (l33 : K.lookup f33 = some ⟨oc33, od33, .func (PySem.W.fnOf "_law_is_sign" "_law_is_sign" (defArgs s_law_is_sign) (defBody s_law_is_sign) (defScope s_law_is_sign) .none kV33 dc33 pm33 an33 cd33 ct33), sl33⟩)
    (c33 : PySem.W.codeIn K cd33 "_law_is_sign" = true)
    (k33 : PySem.W.keepIn K (.ref f33) = true)
    (a34 : PySem.W.nsIn K mainGlobals "_law_is_goal" = some (some (.ref f34)))
    (l34 : K.lookup f34 = some ⟨oc34, od34, .func (PySem.W.fnOf "_law_is_goal" "_law_is_goal" (defArgs s_law_is_goal) (defBody s_law_is_goal) (defScope s_law_is_goal) .none kV34 dc34 pm34 an34 cd34 ct34), sl34⟩)
    (c34 : PySem.W.codeIn K cd34 "_law_is_goal" = true)
    (k34 : PySem.W.keepIn K (.ref f34) = true)
    (a35 : PySem.W.nsIn K mainGlobals "_law_read_quiz" = some (some (.ref f35)))
    (l35 : K.lookup f35 = some ⟨oc35, od35, .func (PySem.W.fnOf "_law_read_quiz" "_law_read_quiz" (defArgs s_law_read_quiz) (defBody s_law_read_quiz) (defScope s_law_read_quiz) .none kV35 dc35 pm35 an35 cd35 ct35), sl35⟩)
    (c35 : PySem.W.codeIn K cd35 "_law_read_quiz" = true)
    (k35 : PySem.W.keepIn K (.ref f35) = true)
    (a36 : PySem.W.nsIn K mainGlobals "_law_bent" = some (some (.ref f36)))
    (l36 : K.lookup f36 = some ⟨oc36, od36, .func (PySem.W.fnOf "_law_bent" "_law_bent" (defArgs s_law_bent) (defBody s_law_bent) (defScope s_law_bent) .none kV36 dc36 pm36 an36 cd36 ct36), sl36⟩)
    (c36 : PySem.W.codeIn K cd36 "_law_bent" = true)
    (k36 : PySem.W.keepIn K (.ref f36) = true)
    (a37 : PySem.W.nsIn K mainGlobals "_law_odd" = some (some (.ref f37)))
    (l37 : K.lookup f37 = some ⟨oc37, od37, .func (PySem.W.fnOf "_law_odd" "_law_odd" (defArgs s_law_odd) (defBody s_law_odd) (defScope s_law_odd) .none kV37 dc37 pm37 an37 cd37 ct37), sl37⟩)
    (c37 : PySem.W.codeIn K cd37 "_law_odd" = true)
    (k37 : PySem.W.keepIn K (.ref f37) = true)
    (a38 : PySem.W.nsIn K mainGlobals "_law_lacking" = some (some (.ref f38)))
    (l38 : K.lookup f38 = some ⟨oc38, od38, .func (PySem.W.fnOf "_law_lacking" "_law_lacking" (defArgs s_law_lacking) (defBody s_law_lacking) (defScope s_law_lacking) .none kV38 dc38 pm38 an38 cd38 ct38), sl38⟩)
    (c38 : PySem.W.codeIn K cd38 "_law_lacking" = true)
    (k38 : PySem.W.keepIn K (.ref f38) = true)
    (a39 : PySem.W.nsIn K mainGlobals "_law_told" = some (some (.ref f39)))
    (l39 : K.lookup f39 = some ⟨oc39, od39, .func (PySem.W.fnOf "_law_told" "_law_told" (defArgs s_law_told) (defBody s_law_told) (defScope s_law_told) .none kV39 dc39 pm39 an39 cd39 ct39), sl39⟩)
    (c39 : PySem.W.codeIn K cd39 "_law_told" = true)
    (k39 : PySem.W.keepIn K (.ref f39) = true)
    (a40 : PySem.W.nsIn K mainGlobals "_law_quiz_read" = some (some (.ref f40)))
    (l40 : K.lookup f40 = some ⟨oc40, od40, .func (PySem.W.fnOf "_law_quiz_read" "_law_quiz_read" (defArgs s_law_quiz_read) (defBody s_law_quiz_read) (defScope s_law_quiz_read) .none kV40 dc40 pm40 an40 cd40 ct40), sl40⟩)
    (c40 : PySem.W.codeIn K cd40 "_law_quiz_read" = true)
    (k40 : PySem.W.keepIn K (.ref f40) = true)
    (a41 : PySem.W.nsIn K mainGlobals "_law_due" = some (some (.ref f41)))
    (l41 : K.lookup f41 = some ⟨oc41, od41, .func (PySem.W.fnOf "_law_due" "_law_due" (defArgs s_law_due) (defBody s_law_due) (defScope s_law_due) .none kV41 dc41 pm41 an41 cd41 ct41), sl41⟩)
    (c41 : PySem.W.codeIn K cd41 "_law_due" = true)
    (k41 : PySem.W.keepIn K (.ref f41) = true)
    (a42 : PySem.W.nsIn K mainGlobals "_law_right" = some (some (.ref f42)))
    (l42 : K.lookup f42 = some ⟨oc42, od42, .func (PySem.W.fnOf "_law_right" "_law_right" (defArgs s_law_right) (defBody s_law_right) (defScope s_law_right) .none kV42 dc42 pm42 an42 cd42 ct42), sl42⟩)
    (c42 : PySem.W.codeIn K cd42 "_law_right" = true)
    (k42 : PySem.W.keepIn K (.ref f42) = true)
    (a43 : PySem.W.nsIn K mainGlobals "law" = some (some (.ref f43)))
    (l43 : K.lookup f43 = some ⟨oc43, od43, .func (PySem.W.fnOf "law" "law" (defArgs s_law) (defBody s_law) (defScope s_law) .none kV43 dc43 pm43 an43 cd43 ct43), sl43⟩)
    (c43 : PySem.W.codeIn K cd43 "law" = true)
    (k43 : PySem.W.keepIn K (.ref f43) = true)
    (pg : PySem.W.plainGet K C Str.empty = true)
    (hd : PySem.W.hasDictIn K C = true)
    (po : PySem.W.plainOver K C = true)
    (sa : PySem.W.findIn K (.ref C) "__setattr__" = some (some (.builtin "object.__setattr__")))
    (mk : PySem.W.makesIn K C = true)
    (kc : PySem.W.keepIn K (.ref C) = true)
    (n_names : PySem.W.findIn K (.ref C) "names" = some none)
    (n_cells : PySem.W.findIn K (.ref C) "cells" = some none)
    (n_letters : PySem.W.findIn K (.ref C) "letters" = some none)
    (n_text : PySem.W.findIn K (.ref C) "text" = some none)
    (n_places : PySem.W.findIn K (.ref C) "places" = some none)
    (n_arrows : PySem.W.findIn K (.ref C) "arrows" = some none)
    (n_led_to : PySem.W.findIn K (.ref C) "led_to" = some none)
    (isC : PySem.W.findIn K (.ref C) "__class__" = some (some (.builtin "object.__class__")))
    (isG : PySem.W.specialIn K (.builtin "object.__class__") "__get__" = some (some (.builtin "getset_descriptor.__get__")))
    (isT : PySem.W.takesIn K (.builtin "object.__class__") = some true)
    (isM : PySem.W.mroIn K C (.type "object") = some true)
    (neq : PySem.W.findIn K (.ref C) "__ne__" = some (some (.builtin "object.__ne__")))
    (icl : PySem.W.isClsIn K C = true)
    (tcl : PySem.W.typeIn K (.ref C) = some (.type "type"))
    (s_str : PySem.W.subIn K (.type "str") (.ref C) = some false)
    (f_str : PySem.W.notFirst K C (.type "str") = true)
    (s_int : PySem.W.subIn K (.type "int") (.ref C) = some false)
    (f_int : PySem.W.notFirst K C (.type "int") = true)
    (s_tuple : PySem.W.subIn K (.type "tuple") (.ref C) = some false)
    (f_tuple : PySem.W.notFirst K C (.type "tuple") = true)
    (xLE0 : K.lookup CT = some (excClassObj nmE0 qE0 CT NE0 bsE0 [.ref CA, .type "ValueError", .type "Exception", .type "BaseException", .type "object"] true snE0 subE0 abE0 colE0 ddE0 m0E0 m1E0 m2E0 m3E0 m5E0 "ValueError.__new__"))
    (saE0 : PySem.W.findIn K (.ref CT) "__setattr__" = some (some (.builtin "object.__setattr__")))
    (gaE0 : PySem.W.findIn K (.ref CT) "__getattribute__" = some (some (.builtin "BaseException.__getattribute__")))
    (ggE0 : PySem.W.findIn K (.ref CT) "__getattr__" = some none)
    (nfE0 : PySem.W.findIn K (.ref CT) "given" = some none)
    (iIE0 : PySem.W.findIn K (.ref CT) "__init__" = some (some (.ref fIE0)))
    (tIE0 : PySem.W.typeIn K (.ref fIE0) = some (.type "function"))
    (lIE0 : K.lookup fIE0 = some ⟨ocIE0, odIE0, .func (PySem.W.fnOf "__init__" "InvalidTest.__init__" (defArgs s_err_InvalidTest) (defBody s_err_InvalidTest) (defScope s_err_InvalidTest) .none kVIE0 dcIE0 pmIE0 anIE0 cdIE0 ctIE0), slIE0⟩)
    (cIE0 : PySem.W.codeIn K cdIE0 "InvalidTest.__init__" = true)
    (kIE0 : PySem.W.keepIn K (.ref fIE0) = true)
    (kCE0 : PySem.W.keepIn K (.ref CT) = true)
    (eCE0 : PySem.W.subIn K (.ref CT) (.type "BaseException") = some true)
    (tCE0 : PySem.W.typeIn K (.ref CT) = some (.type "type"))
    (hCE0 : PySem.W.hasDictIn K CT = true)
    (sCE0 : PySem.W.subIn K (.ref CT) (.ref CT) = some true)
    (xLE1 : K.lookup CN = some (excClassObj nmE1 qE1 CN NE1 bsE1 [.ref CA, .type "ValueError", .type "Exception", .type "BaseException", .type "object"] true snE1 subE1 abE1 colE1 ddE1 m0E1 m1E1 m2E1 m3E1 m5E1 "ValueError.__new__"))
    (saE1 : PySem.W.findIn K (.ref CN) "__setattr__" = some (some (.builtin "object.__setattr__")))
    (gaE1 : PySem.W.findIn K (.ref CN) "__getattribute__" = some (some (.builtin "BaseException.__getattribute__")))
    (ggE1 : PySem.W.findIn K (.ref CN) "__getattr__" = some none)
    (nfE1 : PySem.W.findIn K (.ref CN) "given" = some none)
    (iIE1 : PySem.W.findIn K (.ref CN) "__init__" = some (some (.ref fIE1)))
    (tIE1 : PySem.W.typeIn K (.ref fIE1) = some (.type "function"))
    (lIE1 : K.lookup fIE1 = some ⟨ocIE1, odIE1, .func (PySem.W.fnOf "__init__" "NotAStore.__init__" (defArgs s_err_NotAStore) (defBody s_err_NotAStore) (defScope s_err_NotAStore) .none kVIE1 dcIE1 pmIE1 anIE1 cdIE1 ctIE1), slIE1⟩)
    (cIE1 : PySem.W.codeIn K cdIE1 "NotAStore.__init__" = true)
    (kIE1 : PySem.W.keepIn K (.ref fIE1) = true)
    (kCE1 : PySem.W.keepIn K (.ref CN) = true)
    (eCE1 : PySem.W.subIn K (.ref CN) (.type "BaseException") = some true)
    (tCE1 : PySem.W.typeIn K (.ref CN) = some (.type "type"))
    (hCE1 : PySem.W.hasDictIn K CN = true)
    (sCE1 : PySem.W.subIn K (.ref CN) (.ref CN) = some true)
    (xLE2 : K.lookup CU = some (excClassObj nmE2 qE2 CU NE2 bsE2 [.ref CA, .type "ValueError", .type "Exception", .type "BaseException", .type "object"] true snE2 subE2 abE2 colE2 ddE2 m0E2 m1E2 m2E2 m3E2 m5E2 "ValueError.__new__"))
    (saE2 : PySem.W.findIn K (.ref CU) "__setattr__" = some (some (.builtin "object.__setattr__")))
    (gaE2 : PySem.W.findIn K (.ref CU) "__getattribute__" = some (some (.builtin "BaseException.__getattribute__")))
    (ggE2 : PySem.W.findIn K (.ref CU) "__getattr__" = some none)
    (nfE2 : PySem.W.findIn K (.ref CU) "given" = some none)
    (iIE2 : PySem.W.findIn K (.ref CU) "__init__" = some (some (.ref fIE2)))
    (tIE2 : PySem.W.typeIn K (.ref fIE2) = some (.type "function"))
    (lIE2 : K.lookup fIE2 = some ⟨ocIE2, odIE2, .func (PySem.W.fnOf "__init__" "UnknownName.__init__" (defArgs s_err_UnknownName) (defBody s_err_UnknownName) (defScope s_err_UnknownName) .none kVIE2 dcIE2 pmIE2 anIE2 cdIE2 ctIE2), slIE2⟩)
    (cIE2 : PySem.W.codeIn K cdIE2 "UnknownName.__init__" = true)
    (kIE2 : PySem.W.keepIn K (.ref fIE2) = true)
    (kCE2 : PySem.W.keepIn K (.ref CU) = true)
    (eCE2 : PySem.W.subIn K (.ref CU) (.type "BaseException") = some true)
    (tCE2 : PySem.W.typeIn K (.ref CU) = some (.type "type"))
    (hCE2 : PySem.W.hasDictIn K CU = true)
    (sCE2 : PySem.W.subIn K (.ref CU) (.ref CU) = some true)
    (iCE2 : PySem.W.isClsIn K CU = true)
    (isCE2 : PySem.W.findIn K (.ref CU) "__class__" = some (some (.builtin "object.__class__")))
    (isME2 : PySem.W.mroIn K CU (.type "object") = some true)
    (z_ValueError : PySem.W.nsIn K mainGlobals "ValueError" = some none)
    (z_isinstance : PySem.W.nsIn K mainGlobals "isinstance" = some none)
    (z_int : PySem.W.nsIn K mainGlobals "int" = some none)
    (z_bool : PySem.W.nsIn K mainGlobals "bool" = some none)
    (z_str : PySem.W.nsIn K mainGlobals "str" = some none)
    (z_len : PySem.W.nsIn K mainGlobals "len" = some none)
    (z_tuple : PySem.W.nsIn K mainGlobals "tuple" = some none)
    (z_dict : PySem.W.nsIn K mainGlobals "dict" = some none)
    (z_list : PySem.W.nsIn K mainGlobals "list" = some none)
    (z_enumerate : PySem.W.nsIn K mainGlobals "enumerate" = some none)
    (z_range : PySem.W.nsIn K mainGlobals "range" = some none)
    (z_divmod : PySem.W.nsIn K mainGlobals "divmod" = some none)
    (z_abs : PySem.W.nsIn K mainGlobals "abs" = some none)
    (z_sorted : PySem.W.nsIn K mainGlobals "sorted" = some none)
    (z_repr : PySem.W.nsIn K mainGlobals "repr" = some none)
    (z_all : PySem.W.nsIn K mainGlobals "all" = some none)
    (z_any : PySem.W.nsIn K mainGlobals "any" = some none)
    (z_max : PySem.W.nsIn K mainGlobals "max" = some none)
    (z_min : PySem.W.nsIn K mainGlobals "min" = some none)
    (g_LETTERS : PySem.W.nsIn K mainGlobals "LETTERS" = some (some (.str "abcdefghijklmnopqrstuvwxyz" t_LETTERS)))
    (g_END : PySem.W.nsIn K mainGlobals "END" = some (some (.int 0 t_END)))
    (g_LAST_PLACE : PySem.W.nsIn K mainGlobals "LAST_PLACE" = some (some (.int 999 t_LAST_PLACE)))
    (g_MOST_COMPARISONS : PySem.W.nsIn K mainGlobals "MOST_COMPARISONS" = some (some (.int 3 t_MOST_COMPARISONS)))
    (g_MOST_NAMES : PySem.W.nsIn K mainGlobals "MOST_NAMES" = some (some (.int 4 t_MOST_NAMES)))
    (g_MOST_CELLS : PySem.W.nsIn K mainGlobals "MOST_CELLS" = some (some (.int 500 t_MOST_CELLS)))
    (q_non : PySem.W.subIn K (.type "NoneType") (.ref C) = some false)
    (q_bool : PySem.W.subIn K (.type "bool") (.ref C) = some false)
    (q_list : PySem.W.subIn K (.type "list") (.ref C) = some false)
    (q_dict : PySem.W.subIn K (.type "dict") (.ref C) = some false)
    (iCA : PySem.W.isClsIn K CA = true)
    (tCA : PySem.W.typeIn K (.ref CA) = some (.type "type"))
    (sCA : PySem.W.subIn K (.ref CU) (.ref CA) = some true)
    (sNT : PySem.W.subIn K (.ref CN) (.ref CT) = some false)
    (sUT : PySem.W.subIn K (.ref CU) (.ref CT) = some false)
    (sUN : PySem.W.subIn K (.ref CU) (.ref CN) = some false) :
    LawAtS2 l w K 10 63 "_law_script" mg fa h := by
  have e := hfa.symm.trans (PySem.W.mg_of X G a43)
  cases e
  have F0 := fun_mk (st := s_is_number) l0 c0 k0
  have b0 := F0.binds (ps := ["value"]) fun _ _ _ _ _ _ us hl => match us, hl with | [_], _ => rfl
  have F1 := fun_mk (st := s_is_whole) l1 c1 k1
  have b1 := F1.binds (ps := ["value", "low", "high"]) fun _ _ _ _ _ _ us hl => match us, hl with | [_, _, _], _ => rfl
  have F2 := fun_mk (st := s_is_place) l2 c2 k2
  have b2 := F2.binds (ps := ["value"]) fun _ _ _ _ _ _ us hl => match us, hl with | [_], _ => rfl
  have F3 := fun_mk (st := s_is_letter) l3 c3 k3
  have b3 := F3.binds (ps := ["value"]) fun _ _ _ _ _ _ us hl => match us, hl with | [_], _ => rfl
  have F4 := fun_mk (st := s_is_target) l4 c4 k4
  have b4 := F4.binds (ps := ["value"]) fun _ _ _ _ _ _ us hl => match us, hl with | [_], _ => rfl
  have F5 := fun_mk (st := s_is_tuple_of) l5 c5 k5
  have b5 := F5.binds (ps := ["value", "many"]) fun _ _ _ _ _ _ us hl => match us, hl with | [_, _], _ => rfl
  have F6 := fun_mk (st := s_comparison_in) l6 c6 k6
  have b6 := F6.binds (ps := ["words"]) fun _ _ _ _ _ _ us hl => match us, hl with | [_], _ => rfl
  have F7 := fun_mk (st := s_need_known) l7 c7 k7
  have b7 := F7.binds (ps := ["letters", "names"]) fun _ _ _ _ _ _ us hl => match us, hl with | [_, _], _ => rfl
  have F8 := fun_mk (st := s_test_tree) l8 c8 k8
  have b8 := F8.binds (ps := ["test"]) fun _ _ _ _ _ _ us hl => match us, hl with | [_], _ => rfl
  have F9 := fun_mk (st := s_test_or_none) l9 c9 k9
  have b9 := F9.binds (ps := ["value"]) fun _ _ _ _ _ _ us hl => match us, hl with | [_], _ => rfl
  have F10 := fun_mk (st := s_test_in) l10 c10 k10
  have b10 := F10.binds (ps := ["words"]) fun _ _ _ _ _ _ us hl => match us, hl with | [_], _ => rfl
  have F11 := fun_mk (st := s_letters_tested) l11 c11 k11
  have b11 := F11.binds (ps := ["tree"]) fun _ _ _ _ _ _ us hl => match us, hl with | [_], _ => rfl
  have F12 := fun_mk (st := s_place_told) l12 c12 k12
  have b12 := F12.binds (ps := ["places", "word"]) fun _ _ _ _ _ _ us hl => match us, hl with | [_, _], _ => rfl
  have F13 := fun_mk (st := s_does_hold) l13 c13 k13
  have b13 := F13.binds (ps := ["test", "places"]) fun _ _ _ _ _ _ us hl => match us, hl with | [_, _], _ => rfl
  have F14 := fun_mk (st := s_init) l14 c14 k14
  have b14 := F14.binds (ps := ["self", "names", "cells"]) fun _ _ _ _ _ _ us hl => match us, hl with | [_, _, _], _ => rfl
  have F15 := fun_mk (st := s_eq) l15 c15 k15
  have b15 := F15.binds (ps := ["self", "other"]) fun _ _ _ _ _ _ us hl => match us, hl with | [_, _], _ => rfl
  have F16 := fun_mk (st := s_take) l16 c16 k16
  have b16 := F16.binds (ps := ["self", "names", "cells"]) fun _ _ _ _ _ _ us hl => match us, hl with | [_, _, _], _ => rfl
  have F17 := fun_mk (st := s_are_store_names) l17 c17 k17
  have b17 := F17.binds (ps := ["value"]) fun _ _ _ _ _ _ us hl => match us, hl with | [_], _ => rfl
  have F18 := fun_mk (st := s_wrong_cell) l18 c18 k18
  have b18 := F18.binds (ps := ["cells"]) fun _ _ _ _ _ _ us hl => match us, hl with | [_], _ => rfl
  have F19 := fun_mk (st := s_store_text) l19 c19 k19
  have b19 := F19.binds (ps := ["names", "cells"]) fun _ _ _ _ _ _ us hl => match us, hl with | [_, _], _ => rfl
  have F20 := fun_mk (st := s_need_store) l20 c20 k20
  have b20 := F20.binds (ps := ["value"]) fun _ _ _ _ _ _ us hl => match us, hl with | [_], _ => rfl
  have F21 := fun_mk (st := s_holds) l21 c21 k21
  have b21 := F21.binds (ps := ["test", "store"]) fun _ _ _ _ _ _ us hl => match us, hl with | [_, _], _ => rfl
  have F22 := fun_mk (st := s_law_well) l22 c22 k22
  have b22 := F22.binds (ps := ["_law_script", "_law_turn"]) fun _ _ _ _ _ _ us hl => match us, hl with | [_, _], _ => rfl
  have F23 := fun_mk (st := s_law_take) l23 c23 k23
  have b23 := F23.binds (ps := ["_law_well_here", "_law_limit"]) fun _ _ _ _ _ _ us hl => match us, hl with | [_, _], _ => rfl
  have F24 := fun_mk (st := s_law_pick) l24 c24 k24
  have b24 := F24.binds (ps := ["_law_well_here", "_law_some"]) fun _ _ _ _ _ _ us hl => match us, hl with | [_, _], _ => rfl
  have F25 := fun_mk (st := s_law_drawn) l25 c25 k25
  have b25 := F25.binds (ps := ["_law_well_here", "_law_signs", "_law_limit"]) fun _ _ _ _ _ _ us hl => match us, hl with | [_, _, _], _ => rfl
  have F26 := fun_mk (st := s_law_store) l26 c26 k26
  have b26 := F26.binds (ps := ["_law_mine"]) fun _ _ _ _ _ _ us hl => match us, hl with | [_], _ => rfl
  have F27 := fun_mk (st := s_law_shown) l27 c27 k27
  have b27 := F27.binds (ps := ["_law_mine"]) fun _ _ _ _ _ _ us hl => match us, hl with | [_], _ => rfl
  have F28 := fun_mk (st := s_law_is_so) l28 c28 k28
  have b28 := F28.binds (ps := ["_law_homes", "_law_quiz_here"]) fun _ _ _ _ _ _ us hl => match us, hl with | [_, _], _ => rfl
  have F29 := fun_mk (st := s_law_quiz) l29 c29 k29
  have b29 := F29.binds (ps := ["_law_well_here", "_law_signs"]) fun _ _ _ _ _ _ us hl => match us, hl with | [_, _], _ => rfl
  have F30 := fun_mk (st := s_law_quiz_said) l30 c30 k30
  have b30 := F30.binds (ps := ["_law_quiz_here"]) fun _ _ _ _ _ _ us hl => match us, hl with | [_], _ => rfl
  have F31 := fun_mk (st := s_law_ahead_word) l31 c31 k31
  have b31 := F31.binds (ps := ["_law_reader"]) fun _ _ _ _ _ _ us hl => match us, hl with | [_], _ => rfl
  have F32 := fun_mk (st := s_law_next_word) l32 c32 k32
  have b32 := F32.binds (ps := ["_law_reader"]) fun _ _ _ _ _ _ us hl => match us, hl with | [_], _ => rfl
  have F33 := fun_mk (st := s_law_is_sign) l33 c33 k33
  have b33 := F33.binds (ps := ["_law_token"]) fun _ _ _ _ _ _ us hl => match us, hl with | [_], _ => rfl
  have F34 := fun_mk (st := s_law_is_goal) l34 c34 k34
  have b34 := F34.binds (ps := ["_law_token"]) fun _ _ _ _ _ _ us hl => match us, hl with | [_], _ => rfl
  have F35 := fun_mk (st := s_law_read_quiz) l35 c35 k35
  have b35 := F35.binds (ps := ["_law_reader"]) fun _ _ _ _ _ _ us hl => match us, hl with | [_], _ => rfl
  have F36 := fun_mk (st := s_law_bent) l36 c36 k36
  have b36 := F36.binds (ps := ["_law_well_here", "_law_said"]) fun _ _ _ _ _ _ us hl => match us, hl with | [_, _], _ => rfl
  have F37 := fun_mk (st := s_law_odd) l37 c37 k37
  have b37 := F37.binds (ps := ["_law_well_here"]) fun _ _ _ _ _ _ us hl => match us, hl with | [_], _ => rfl
  have F38 := fun_mk (st := s_law_lacking) l38 c38 k38
  have b38 := F38.binds (ps := ["_law_homes", "_law_some"]) fun _ _ _ _ _ _ us hl => match us, hl with | [_, _], _ => rfl
  have F39 := fun_mk (st := s_law_told) l39 c39 k39
  have b39 := F39.binds (ps := ["_law_first", "_law_second", "_law_is_named"]) fun _ _ _ _ _ _ us hl => match us, hl with | [_, _, _], _ => rfl
  have F40 := fun_mk (st := s_law_quiz_read) l40 c40 k40
  have b40 := F40.binds (ps := ["_law_said"]) fun _ _ _ _ _ _ us hl => match us, hl with | [_], _ => rfl
  have F41 := fun_mk (st := s_law_due) l41 c41 k41
  have b41 := F41.binds (ps := ["_law_mine", "_law_quiz_here"]) fun _ _ _ _ _ _ us hl => match us, hl with | [_, _], _ => rfl
  have F42 := fun_mk (st := s_law_right) l42 c42 k42
  have b42 := F42.binds (ps := ["_law_well_here"]) fun _ _ _ _ _ _ us hl => match us, hl with | [_], _ => rfl
  have F43 := fun_mk (st := s_law) l43 c43 k43
  have b43 := F43.binds (ps := ["_law_script"]) fun _ _ _ _ _ _ us hl => match us, hl with | [_], _ => rfl
  have FIE0 := fun_mk (st := s_err_InvalidTest) lIE0 cIE0 kIE0
  have bIE0 := FIE0.binds (ps := ["self", "given"]) fun _ _ _ _ _ _ us hl => match us, hl with | [_, _], _ => rfl
  have FIE1 := fun_mk (st := s_err_NotAStore) lIE1 cIE1 kIE1
  have bIE1 := FIE1.binds (ps := ["self", "given"]) fun _ _ _ _ _ _ us hl => match us, hl with | [_, _], _ => rfl
  have FIE2 := fun_mk (st := s_err_UnknownName) lIE2 cIE2 kIE2
  have bIE2 := FIE2.binds (ps := ["self", "given"]) fun _ _ _ _ _ _ us hl => match us, hl with | [_, _], _ => rfl
  have T : Txt K mg C CT CN CU CA := {
    b_ValueError := PySem.W.mg_none_of X G z_ValueError
    b_isinstance := PySem.W.mg_none_of X G z_isinstance
    b_int := PySem.W.mg_none_of X G z_int
    b_bool := PySem.W.mg_none_of X G z_bool
    b_str := PySem.W.mg_none_of X G z_str
    b_len := PySem.W.mg_none_of X G z_len
    b_tuple := PySem.W.mg_none_of X G z_tuple
    b_dict := PySem.W.mg_none_of X G z_dict
    b_list := PySem.W.mg_none_of X G z_list
    b_enumerate := PySem.W.mg_none_of X G z_enumerate
    b_range := PySem.W.mg_none_of X G z_range
    b_divmod := PySem.W.mg_none_of X G z_divmod
    b_abs := PySem.W.mg_none_of X G z_abs
    b_sorted := PySem.W.mg_none_of X G z_sorted
    b_repr := PySem.W.mg_none_of X G z_repr
    b_all := PySem.W.mg_none_of X G z_all
    b_any := PySem.W.mg_none_of X G z_any
    b_max := PySem.W.mg_none_of X G z_max
    b_min := PySem.W.mg_none_of X G z_min
    c_LETTERS := ⟨_, PySem.W.mg_of X G g_LETTERS⟩
    c_END := ⟨_, PySem.W.mg_of X G g_END⟩
    c_LAST_PLACE := ⟨_, PySem.W.mg_of X G g_LAST_PLACE⟩
    c_MOST_COMPARISONS := ⟨_, PySem.W.mg_of X G g_MOST_COMPARISONS⟩
    c_MOST_NAMES := ⟨_, PySem.W.mg_of X G g_MOST_NAMES⟩
    c_MOST_CELLS := ⟨_, PySem.W.mg_of X G g_MOST_CELLS⟩
    mgC := PySem.W.mg_of X G aC
    mgCT := PySem.W.mg_of X G aCT
    mgCN := PySem.W.mg_of X G aCN
    mgCU := PySem.W.mg_of X G aCU
    mgCA := PySem.W.mg_of X G aCA
    x_InvalidTest := ⟨PySem.W.mg_of X G aCT, ⟨⟨_, _, _, _, _, _, _, _, _, _, _, _, _, _, _, xLE0, rfl⟩, saE0, eCE0, tCE0, kCE0⟩, ⟨gaE0, ggE0, eCE0, hCE0⟩, nfE0, PySem.W.exm_ref eCE0 hCE0 tCE0 sCE0, ⟨fIE0, _, FIE0, iIE0, tIE0, bIE0⟩⟩
    x_NotAStore := ⟨PySem.W.mg_of X G aCN, ⟨⟨_, _, _, _, _, _, _, _, _, _, _, _, _, _, _, xLE1, rfl⟩, saE1, eCE1, tCE1, kCE1⟩, ⟨gaE1, ggE1, eCE1, hCE1⟩, nfE1, PySem.W.exm_ref eCE1 hCE1 tCE1 sCE1, ⟨fIE1, _, FIE1, iIE1, tIE1, bIE1⟩⟩
    x_UnknownName := ⟨PySem.W.mg_of X G aCU, ⟨⟨_, _, _, _, _, _, _, _, _, _, _, _, _, _, _, xLE2, rfl⟩, saE2, eCE2, tCE2, kCE2⟩, ⟨gaE2, ggE2, eCE2, hCE2⟩, nfE2, PySem.W.exm_ref eCE2 hCE2 tCE2 sCE2, ⟨fIE2, _, FIE2, iIE2, tIE2, bIE2⟩⟩
    cl := ⟨pg, hd, po, sa⟩
    n_names := n_names
    n_cells := n_cells
    n_letters := n_letters
    n_text := n_text
    n_places := n_places
    n_arrows := n_arrows
    n_led_to := n_led_to
    isC := isC
    isG := isG
    isT := isT
    isM := isM
    k_self := kit_self
    k_str := kit_not icl tcl s_str
    k_int := kit_not icl tcl s_int
    k_tup := kit_not icl tcl s_tuple
    f_str := f_str
    f_int := f_int
    f_tup := f_tuple
    k_non := kit_not icl tcl q_non
    k_bool := kit_not icl tcl q_bool
    k_list := kit_not icl tcl q_list
    k_dict := kit_not icl tcl q_dict
    i_UnknownName := ⟨iCE2, ⟨gaE2, ggE2, eCE2, hCE2⟩, isCE2, isG, isT, isME2⟩
    k_UA := kit_sub (b := true) iCA tCA sCA
    e_NT := PySem.W.exm_ref eCE0 hCE0 tCE0 sNT
    e_UT := PySem.W.exm_ref eCE0 hCE0 tCE0 sUT
    e_UN := PySem.W.exm_ref eCE1 hCE1 tCE1 sUN
    d_is_number := ⟨_, _, F0, PySem.W.mg_of X G a0, b0⟩
    d_is_whole := ⟨_, _, F1, PySem.W.mg_of X G a1, b1⟩
    d_is_place := ⟨_, _, F2, PySem.W.mg_of X G a2, b2⟩
    d_is_letter := ⟨_, _, F3, PySem.W.mg_of X G a3, b3⟩
    d_is_target := ⟨_, _, F4, PySem.W.mg_of X G a4, b4⟩
    d_is_tuple_of := ⟨_, _, F5, PySem.W.mg_of X G a5, b5⟩
    d_comparison_in := ⟨_, _, F6, PySem.W.mg_of X G a6, b6⟩
    d_need_known := ⟨_, _, F7, PySem.W.mg_of X G a7, b7⟩
    d_test_tree := ⟨_, _, F8, PySem.W.mg_of X G a8, b8⟩
    d_test_or_none := ⟨_, _, F9, PySem.W.mg_of X G a9, b9⟩
    d__test_in := ⟨_, _, F10, PySem.W.mg_of X G a10, b10⟩
    d_letters_tested := ⟨_, _, F11, PySem.W.mg_of X G a11, b11⟩
    d_place_told := ⟨_, _, F12, PySem.W.mg_of X G a12, b12⟩
    d_does_hold := ⟨_, _, F13, PySem.W.mg_of X G a13, b13⟩
    d_init := ⟨_, _, F14, ⟨mk, a14, i14, kc⟩, b14⟩
    d_eq := ⟨_, _, F15, ⟨a15, i15, neq, isM, b15⟩⟩
    d_take := ⟨_, _, F16, ⟨a16, i16, k16⟩, b16⟩
    d__are_store_names := ⟨_, _, F17, PySem.W.mg_of X G a17, b17⟩
    d__wrong_cell := ⟨_, _, F18, PySem.W.mg_of X G a18, b18⟩
    d__store_text := ⟨_, _, F19, PySem.W.mg_of X G a19, b19⟩
    d_need_store := ⟨_, _, F20, PySem.W.mg_of X G a20, b20⟩
    d_holds := ⟨_, _, F21, PySem.W.mg_of X G a21, b21⟩
    d__law_well := ⟨_, _, F22, PySem.W.mg_of X G a22, b22⟩
    d__law_take := ⟨_, _, F23, PySem.W.mg_of X G a23, b23⟩
    d__law_pick := ⟨_, _, F24, PySem.W.mg_of X G a24, b24⟩
    d__law_drawn := ⟨_, _, F25, PySem.W.mg_of X G a25, b25⟩
    d__law_store := ⟨_, _, F26, PySem.W.mg_of X G a26, b26⟩
    d__law_shown := ⟨_, _, F27, PySem.W.mg_of X G a27, b27⟩
    d__law_is_so := ⟨_, _, F28, PySem.W.mg_of X G a28, b28⟩
    d__law_quiz := ⟨_, _, F29, PySem.W.mg_of X G a29, b29⟩
    d__law_quiz_said := ⟨_, _, F30, PySem.W.mg_of X G a30, b30⟩
    d__law_ahead_word := ⟨_, _, F31, PySem.W.mg_of X G a31, b31⟩
    d__law_next_word := ⟨_, _, F32, PySem.W.mg_of X G a32, b32⟩
    d__law_is_sign := ⟨_, _, F33, PySem.W.mg_of X G a33, b33⟩
    d__law_is_goal := ⟨_, _, F34, PySem.W.mg_of X G a34, b34⟩
    d__law_read_quiz := ⟨_, _, F35, PySem.W.mg_of X G a35, b35⟩
    d__law_bent := ⟨_, _, F36, PySem.W.mg_of X G a36, b36⟩
    d__law_odd := ⟨_, _, F37, PySem.W.mg_of X G a37, b37⟩
    d__law_lacking := ⟨_, _, F38, PySem.W.mg_of X G a38, b38⟩
    d__law_told := ⟨_, _, F39, PySem.W.mg_of X G a39, b39⟩
    d__law_quiz_read := ⟨_, _, F40, PySem.W.mg_of X G a40, b40⟩
    d__law_due := ⟨_, _, F41, PySem.W.mg_of X G a41, b41⟩
    d__law_right := ⟨_, _, F42, PySem.W.mg_of X G a42, b42⟩
    d_law := ⟨_, _, F43, PySem.W.mg_of X G a43, b43⟩
  }
  refine ⟨PySem.W.fnOf "law" "law" (defArgs s_law) (defBody s_law) (defScope s_law) .none kV43 dc43 pm43 an43 cd43 ct43, [], (sp_law K), ?_, ?_, ?_, fun s v => .of_eq rfl, ?_, fun base _ _ SB TB => ?_⟩
  · exact fun p hp => by cases hp
  · exact fun p hp => by cases hp
  · exact fun p hp => by cases hp
  · exact fun H a ns hl _ hS => ⟨a, ns, rfl, hS, hl, fun _ => rfl⟩
  have G__law_take : Pr l.prog w K mg base "_law_take" s_law_take 1 ["_law_well_here", "_law_limit"] sp_law_take := ok_law_take T 
  have G__law_pick : Pr l.prog w K mg base "_law_pick" s_law_pick 2 ["_law_well_here", "_law_some"] (p_pick K) := ok_law_pick T G__law_take
  have G__law_drawn : Pr l.prog w K mg base "_law_drawn" s_law_drawn 3 ["_law_well_here", "_law_signs", "_law_limit"] b_drawn := ok_law_drawn T G__law_take G__law_pick
  have G_is_tuple_of : Pr l.prog w K mg base "is_tuple_of" s_is_tuple_of 1 ["value", "many"] (sp_is_tuple_of K) := ok_is_tuple_of T 
  have G_is_number : Pr l.prog w K mg base "is_number" s_is_number 1 ["value"] sp_is_number := ok_is_number T 
  have G_is_whole : Pr l.prog w K mg base "is_whole" s_is_whole 2 ["value", "low", "high"] sp_is_whole := ok_is_whole T G_is_number
  have G_is_place : Pr l.prog w K mg base "is_place" s_is_place 3 ["value"] sp_is_place := ok_is_place T G_is_whole
  have G__wrong_cell : Pr l.prog w K mg base "_wrong_cell" s_wrong_cell 4 ["cells"] (sp_wrong_cell K) := ok_wrong_cell T G_is_tuple_of G_is_place
  have G__store_text : Pr l.prog w K mg base "_store_text" s_store_text 1 ["names", "cells"] (sp_store_text K) := ok_store_text T 
  have G_take : PrM l.prog w K mg base C "take" "Store.take" s_take 2 ["self", "names", "cells"] (sp_take K C) := ok_take T G__store_text
  have G_is_letter : Pr l.prog w K mg base "is_letter" s_is_letter 1 ["value"] p_is_letter := ok_is_letter T 
  have G__are_store_names : Pr l.prog w K mg base "_are_store_names" s_are_store_names 4 ["value"] (sp_are_store_names K) := ok_are_store_names T G_is_tuple_of G_is_letter G_is_place
  have G_init : PrI l.prog w K mg base C "Store.__init__" s_init 5 ["self", "names", "cells"] (sp_init K C) := ok_init T G__wrong_cell G_take G__are_store_names
  have G__law_store : Pr l.prog w K mg base "_law_store" s_law_store 7 ["_law_mine"] (q_made K C) := ok_law_store T G_init
  have G__law_odd : Pr l.prog w K mg base "_law_odd" s_law_odd 3 ["_law_well_here"] (b_odd K) := ok_law_odd T G__law_pick
  have G__law_quiz : Pr l.prog w K mg base "_law_quiz" s_law_quiz 3 ["_law_well_here", "_law_signs"] (p_quiz K) := ok_law_quiz T G__law_take G__law_pick
  have G__law_quiz_said : Pr l.prog w K mg base "_law_quiz_said" s_law_quiz_said 1 ["_law_quiz_here"] (p_quiz_said K) := ok_law_quiz_said T 
  have G__law_bent : Pr l.prog w K mg base "_law_bent" s_law_bent 3 ["_law_well_here", "_law_said"] p_bent := ok_law_bent T G__law_take G__law_pick
  have G__law_ahead_word : Pr l.prog w K mg base "_law_ahead_word" s_law_ahead_word 1 ["_law_reader"] (p_ahead K) := ok_law_ahead_word T 
  have G__law_next_word : Pr l.prog w K mg base "_law_next_word" s_law_next_word 2 ["_law_reader"] (p_next K) := ok_law_next_word T G__law_ahead_word
  have G__law_is_sign : Pr l.prog w K mg base "_law_is_sign" s_law_is_sign 1 ["_law_token"] p_is_letter := ok_law_is_sign T 
  have G__law_is_goal : Pr l.prog w K mg base "_law_is_goal" s_law_is_goal 2 ["_law_token"] p_is_target := ok_law_is_goal T G__law_is_sign
  have G__law_read_quiz : Pr l.prog w K mg base "_law_read_quiz" s_law_read_quiz 3 ["_law_reader"] (p_read_quiz K) := ok_law_read_quiz T G__law_ahead_word G__law_next_word G__law_is_sign G__law_is_goal
  have G__law_quiz_read : Pr l.prog w K mg base "_law_quiz_read" s_law_quiz_read 4 ["_law_said"] (p_quiz_read K) := ok_law_quiz_read T G__law_read_quiz
  have G__law_lacking : Pr l.prog w K mg base "_law_lacking" s_law_lacking 1 ["_law_homes", "_law_some"] b_lacking := ok_law_lacking T 
  have G__law_is_so : Pr l.prog w K mg base "_law_is_so" s_law_is_so 1 ["_law_homes", "_law_quiz_here"] (b_so K) := ok_law_is_so T 
  have G__law_due : Pr l.prog w K mg base "_law_due" s_law_due 2 ["_law_mine", "_law_quiz_here"] (b_due K) := ok_law_due T G__law_lacking G__law_is_so
  have G__law_shown : Pr l.prog w K mg base "_law_shown" s_law_shown 1 ["_law_mine"] q_text := ok_law_shown T 
  have G_is_target : Pr l.prog w K mg base "is_target" s_is_target 2 ["value"] p_is_target := ok_is_target T G_is_letter
  have G_comparison_in : Pr l.prog w K mg base "comparison_in" s_comparison_in 3 ["words"] (p_comparison_in K) := ok_comparison_in T G_is_letter G_is_target
  have G__test_in : Pr l.prog w K mg base "_test_in" s_test_in 4 ["words"] (p_test_in K) := ok_test_in T G_comparison_in
  have G_test_or_none : Pr l.prog w K mg base "test_or_none" s_test_or_none 5 ["value"] (p_test_or_none K) := ok_test_or_none T G__test_in
  have G_test_tree : PrX l.prog w K mg base "test_tree" s_test_tree 6 ["test"] (p_test_tree K CT) := ok_test_tree T G_test_or_none
  have G_need_store : PrX l.prog w K mg base "need_store" s_need_store 3 ["value"] (b_need K C CN) := ok_need_store T 
  have G_need_known : PrX l.prog w K mg base "need_known" s_need_known 3 ["letters", "names"] (b_known CU) := ok_need_known T 
  have G_place_told : Pr l.prog w K mg base "place_told" s_place_told 1 ["places", "word"] b_told := ok_place_told T 
  have G_does_hold : Pr l.prog w K mg base "does_hold" s_does_hold 2 ["test", "places"] (b_hold K) := ok_does_hold T G_place_told
  have G_letters_tested : Pr l.prog w K mg base "letters_tested" s_letters_tested 1 ["tree"] (a_tested K) := ok_letters_tested T 
  have G_holds : PrX l.prog w K mg base "holds" s_holds 7 ["test", "store"] (b_holds K C CT CN CU) := ok_holds T G_test_tree G_need_store G_need_known G_does_hold G_letters_tested
  have G__law_told : Pr l.prog w K mg base "_law_told" s_law_told 8 ["_law_first", "_law_second", "_law_is_named"] (b_asked K C) := ok_law_told T G_holds
  have G_eq : PrE l.prog w K mg base C "Store.__eq__" s_eq 1 (sp_eq K C) := ok_eq T 
  have G__law_right : PrG l.prog w K mg base "_law_right" s_law_right 9 ["_law_well_here"] sp_law_right := ok_law_right T SB G__law_pick G__law_drawn G__law_store G__law_odd G__law_quiz G__law_quiz_said G__law_bent G__law_quiz_read G__law_due G__law_shown G__law_told G_eq
  have G__law_well : Pr l.prog w K mg base "_law_well" s_law_well 1 ["_law_script", "_law_turn"] (sp_law_jug K) := ok_law_well T 
  have G_law : PrG l.prog w K mg base "law" s_law 10 ["_law_script"] (sp_law K) := ok_law T G__law_right G__law_well
  obtain ⟨f, fd, F, gl, bd, R⟩ := G_law
  have e1 := gl.symm.trans (PySem.W.mg_of X G a43)
  cases e1
  obtain ⟨x1, x2, x3, x4, x5, x6, x7, x8, x9, e2, lk, _⟩ := F.ex
  rw [l43] at lk
  injection lk with lk
  injection lk with _ _ l3 _
  injection l3 with l4
  first | rw [← l4] at R | rw [l4] at R | rw [e2, ← l4] at R
  exact R
theorem walk {l : PySem.W.OpenLaw} {q : Program} {loose : List Str} {XP : (Str → Option Value) → Heap → Prop} {YP : World → Heap → Prop} {d : DefRec} {K : Params → PySem.W.Frag} (hn : l.most = some 63) (hdf : d.params.defaults = [])
    (himp : PyProof.Rows.importsNone q = true) (hrec : (([] : List Str).all fun nm => (PyProof.Rows.recsOf q).any fun e => e.name == nm) = true) (hY : ∀ (w : World) (h : Heap), YP w h → (K w.params).In h)
    (F : ∀ (w : World) (mg : Str → Option Value) (fa : Addr) (h : Heap), (K w.params).In h → h.Ns mainGlobals mg → mg d.name = some (.ref fa) → (∀ nm ∈ ([] : List Str), TabOf mg h nm) → LawAtS2 l w (K w.params) 10 63 "_law_script" mg fa h) :
    PySem.W.WalkO q loose XP YP l.row.toRowW d [] (fun f vs => PySem.call f vs) :=
  walkGS (n := 63) (k := 10) (x := "_law_script") hn (by decide) hdf ⟨rfl, by decide, by decide⟩ hY _ himp hrec F
end K1
open PySem PySem.W PyProof.Rows
set_option maxRecDepth 100000 in
set_option maxHeartbeats 0 in
theorem PySem.Challenge.cw_arrowcells_k40_tests_on_stores_holds : PySem.Challenge.rw_arrowcells_k40_tests_on_stores.Holds := by
  w_on; o_law; k_head; (case hw => w_witness2)
  k_fill
  refine K1.walk (l := PySem.Challenge.rw_arrowcells_k40_tests_on_stores) rfl rfl (by decide +kernel) (by decide +kernel) (fun w h Y => by first | exact PySem.W.kIn_of Y | exact PySem.W.km_in_of Y) ?F
  case F =>
    intro w mg fa h KX G hmg TO
    refine' K1.all_mk KX G hmg TO ?aC ?aCT ?aCN ?aCU ?aCA ?a0 ?l0 ?c0 ?k0 ?a1 ?l1 ?c1 ?k1 ?a2 ?l2 ?c2 ?k2 ?a3 ?l3 ?c3 ?k3 ?a4 ?l4 ?c4 ?k4 ?a5 ?l5 ?c5 ?k5 ?a6 ?l6 ?c6 ?k6 ?a7 ?l7 ?c7 ?k7 ?a8 ?l8 ?c8 ?k8 ?a9 ?l9 ?c9 ?k9 ?a10 ?l10 ?c10 ?k10 ?a11 ?l11 ?c11 ?k11 ?a12 ?l12 ?c12 ?k12 ?a13 ?l13 ?c13 ?k13 ?a14 ?i14 ?l14 ?c14 ?k14 ?a15 ?i15 ?l15 ?c15 ?k15 ?a16 ?i16 ?l16 ?c16 ?k16 ?a17 ?l17 ?c17 ?k17 ?a18 ?l18 ?c18 ?k18 ?a19 ?l19 ?c19 ?k19 ?a20 ?l20 ?c20 ?k20 ?a21 ?l21 ?c21 ?k21 ?a22 ?l22 ?c22 ?k22 ?a23 ?l23 ?c23 ?k23 ?a24 ?l24 ?c24 ?k24 ?a25 ?l25 ?c25 ?k25 ?a26 ?l26 ?c26 ?k26 ?a27 ?l27 ?c27 ?k27 ?a28 ?l28 ?c28 ?k28 ?a29 ?l29 ?c29 ?k29 ?a30 ?l30 ?c30 ?k30 ?a31 ?l31 ?c31 ?k31 ?a32 ?l32 ?c32 ?k32 ?a33 ?l33 ?c33 ?k33 ?a34 ?l34 ?c34 ?k34 ?a35 ?l35 ?c35 ?k35 ?a36 ?l36 ?c36 ?k36 ?a37 ?l37 ?c37 ?k37 ?a38 ?l38 ?c38 ?k38 ?a39 ?l39 ?c39 ?k39 ?a40 ?l40 ?c40 ?k40 ?a41 ?l41 ?c41 ?k41 ?a42 ?l42 ?c42 ?k42 ?a43 ?l43 ?c43 ?k43 ?pg ?hd ?po ?sa ?mk ?kc ?n_names ?n_cells ?n_letters ?n_text ?n_places ?n_arrows ?n_led_to ?isC ?isG ?isT ?isM ?neq ?icl ?tcl ?s_str ?f_str ?s_int ?f_int ?s_tuple ?f_tuple ?xLE0 ?saE0 ?gaE0 ?ggE0 ?nfE0 ?iIE0 ?tIE0 ?lIE0 ?cIE0 ?kIE0 ?kCE0 ?eCE0 ?tCE0 ?hCE0 ?sCE0 ?xLE1 ?saE1 ?gaE1 ?ggE1 ?nfE1 ?iIE1 ?tIE1 ?lIE1 ?cIE1 ?kIE1 ?kCE1 ?eCE1 ?tCE1 ?hCE1 ?sCE1 ?xLE2 ?saE2 ?gaE2 ?ggE2 ?nfE2 ?iIE2 ?tIE2 ?lIE2 ?cIE2 ?kIE2 ?kCE2 ?eCE2 ?tCE2 ?hCE2 ?sCE2 ?iCE2 ?isCE2 ?isME2 ?z_ValueError ?z_isinstance ?z_int ?z_bool ?z_str ?z_len ?z_tuple ?z_dict ?z_list ?z_enumerate ?z_range ?z_divmod ?z_abs ?z_sorted ?z_repr ?z_all ?z_any ?z_max ?z_min ?g_LETTERS ?g_END ?g_LAST_PLACE ?g_MOST_COMPARISONS ?g_MOST_NAMES ?g_MOST_CELLS ?q_non ?q_bool ?q_list ?q_dict ?iCA ?tCA ?sCA ?sNT ?sUT ?sUN
    (case aC => k_is)
    (case aCT => k_is)
    (case aCN => k_is)
    (case aCU => k_is)
    (case aCA => k_is)
    (case a0 => k_is)
    (case l0 => k_is)
    (case c0 => k_is)
    (case k0 => k_is)
    (case a1 => k_is)
    (case l1 => k_is)
    (case c1 => k_is)
    (case k1 => k_is)
    (case a2 => k_is)
    (case l2 => k_is)
    (case c2 => k_is)
    (case k2 => k_is)
    (case a3 => k_is)
    (case l3 => k_is)
    (case c3 => k_is)
    (case k3 => k_is)
    (case a4 => k_is)
    (case l4 => k_is)
    (case c4 => k_is)
    (case k4 => k_is)
    (case a5 => k_is)
    (case l5 => k_is)
    (case c5 => k_is)
    (case k5 => k_is)
    (case a6 => k_is)
    (case l6 => k_is)
    (case c6 => k_is)
    (case k6 => k_is)
    (case a7 => k_is)
    (case l7 => k_is)
    (case c7 => k_is)
    (case k7 => k_is)
    (case a8 => k_is)
    (case l8 => k_is)
    (case c8 => k_is)
    (case k8 => k_is)
    (case a9 => k_is)
    (case l9 => k_is)
    (case c9 => k_is)
    (case k9 => k_is)
    (case a10 => k_is)
    (case l10 => k_is)
    (case c10 => k_is)
    (case k10 => k_is)
    (case a11 => k_is)
    (case l11 => k_is)
    (case c11 => k_is)
    (case k11 => k_is)
    (case a12 => k_is)
    (case l12 => k_is)
    (case c12 => k_is)
    (case k12 => k_is)
    (case a13 => k_is)
    (case l13 => k_is)
    (case c13 => k_is)
    (case k13 => k_is)
    (case a14 => k_is)
    (case i14 => k_is)
    (case l14 => k_is)
    (case c14 => k_is)
    (case k14 => k_is)
    (case a15 => k_is)
    (case i15 => k_is)
    (case l15 => k_is)
    (case c15 => k_is)
    (case k15 => k_is)
    (case a16 => k_is)
    (case i16 => k_is)
    (case l16 => k_is)
    (case c16 => k_is)
    (case k16 => k_is)
    (case a17 => k_is)
    (case l17 => k_is)
    (case c17 => k_is)
    (case k17 => k_is)
    (case a18 => k_is)
    (case l18 => k_is)
    (case c18 => k_is)
    (case k18 => k_is)
    (case a19 => k_is)
    (case l19 => k_is)
    (case c19 => k_is)
    (case k19 => k_is)
    (case a20 => k_is)
    (case l20 => k_is)
    (case c20 => k_is)
    (case k20 => k_is)
    (case a21 => k_is)
    (case l21 => k_is)
    (case c21 => k_is)
    (case k21 => k_is)
    (case a22 => k_is)
    (case l22 => k_is)
    (case c22 => k_is)
    (case k22 => k_is)
    (case a23 => k_is)
    (case l23 => k_is)
    (case c23 => k_is)
    (case k23 => k_is)
    (case a24 => k_is)
    (case l24 => k_is)
    (case c24 => k_is)
    (case k24 => k_is)
    (case a25 => k_is)
    (case l25 => k_is)
    (case c25 => k_is)
    (case k25 => k_is)
    (case a26 => k_is)
    (case l26 => k_is)
    (case c26 => k_is)
    (case k26 => k_is)
    (case a27 => k_is)
    (case l27 => k_is)
    (case c27 => k_is)
    (case k27 => k_is)
    (case a28 => k_is)
    (case l28 => k_is)
    (case c28 => k_is)
    (case k28 => k_is)
    (case a29 => k_is)
    (case l29 => k_is)
    (case c29 => k_is)
    (case k29 => k_is)
    (case a30 => k_is)
    (case l30 => k_is)
    (case c30 => k_is)
    (case k30 => k_is)
    (case a31 => k_is)
    (case l31 => k_is)
    (case c31 => k_is)
    (case k31 => k_is)
    (case a32 => k_is)
    (case l32 => k_is)
    (case c32 => k_is)
    (case k32 => k_is)
    (case a33 => k_is)
    (case l33 => k_is)
    (case c33 => k_is)
    (case k33 => k_is)
    (case a34 => k_is)
    (case l34 => k_is)
    (case c34 => k_is)
    (case k34 => k_is)
    (case a35 => k_is)
    (case l35 => k_is)
    (case c35 => k_is)
    (case k35 => k_is)
    (case a36 => k_is)
    (case l36 => k_is)
    (case c36 => k_is)
    (case k36 => k_is)
    (case a37 => k_is)
    (case l37 => k_is)
    (case c37 => k_is)
    (case k37 => k_is)
    (case a38 => k_is)
    (case l38 => k_is)
    (case c38 => k_is)
    (case k38 => k_is)
    (case a39 => k_is)
    (case l39 => k_is)
    (case c39 => k_is)
    (case k39 => k_is)
    (case a40 => k_is)
    (case l40 => k_is)
    (case c40 => k_is)
    (case k40 => k_is)
    (case a41 => k_is)
    (case l41 => k_is)
    (case c41 => k_is)
    (case k41 => k_is)
    (case a42 => k_is)
    (case l42 => k_is)
    (case c42 => k_is)
    (case k42 => k_is)
    (case a43 => k_is)
    (case l43 => k_is)
    (case c43 => k_is)
    (case k43 => k_is)
    (case pg => k_is)
    (case hd => k_is)
    (case po => k_is)
    (case sa => k_is)
    (case mk => k_is)
    (case kc => k_is)
    (case n_names => k_is)
    (case n_cells => k_is)
    (case n_letters => k_is)
    (case n_text => k_is)
    (case n_places => k_is)
    (case n_arrows => k_is)
    (case n_led_to => k_is)
    (case isC => k_is)
    (case isG => k_is)
    (case isT => k_is)
    (case isM => k_is)
    (case neq => k_is)
    (case icl => k_is)
    (case tcl => k_is)
    (case s_str => k_is)
    (case f_str => k_is)
    (case s_int => k_is)
    (case f_int => k_is)
    (case s_tuple => k_is)
    (case f_tuple => k_is)
    (case xLE0 => k_is)
    (case saE0 => k_is)
    (case gaE0 => k_is)
    (case ggE0 => k_is)
    (case nfE0 => k_is)
    (case iIE0 => k_is)
    (case tIE0 => k_is)
    (case lIE0 => k_is)
    (case cIE0 => k_is)
    (case kIE0 => k_is)
    (case kCE0 => k_is)
    (case eCE0 => k_is)
    (case tCE0 => k_is)
    (case hCE0 => k_is)
    (case sCE0 => k_is)
    (case xLE1 => k_is)
    (case saE1 => k_is)
    (case gaE1 => k_is)
    (case ggE1 => k_is)
    (case nfE1 => k_is)
    (case iIE1 => k_is)
    (case tIE1 => k_is)
    (case lIE1 => k_is)
    (case cIE1 => k_is)
    (case kIE1 => k_is)
    (case kCE1 => k_is)
    (case eCE1 => k_is)
    (case tCE1 => k_is)
    (case hCE1 => k_is)
    (case sCE1 => k_is)
    (case xLE2 => k_is)
    (case saE2 => k_is)
    (case gaE2 => k_is)
    (case ggE2 => k_is)
    (case nfE2 => k_is)
    (case iIE2 => k_is)
    (case tIE2 => k_is)
    (case lIE2 => k_is)
    (case cIE2 => k_is)
    (case kIE2 => k_is)
    (case kCE2 => k_is)
    (case eCE2 => k_is)
    (case tCE2 => k_is)
    (case hCE2 => k_is)
    (case sCE2 => k_is)
    (case iCE2 => k_is)
    (case isCE2 => k_is)
    (case isME2 => k_is)
    (case z_ValueError => k_is)
    (case z_isinstance => k_is)
    (case z_int => k_is)
    (case z_bool => k_is)
    (case z_str => k_is)
    (case z_len => k_is)
    (case z_tuple => k_is)
    (case z_dict => k_is)
    (case z_list => k_is)
    (case z_enumerate => k_is)
    (case z_range => k_is)
    (case z_divmod => k_is)
    (case z_abs => k_is)
    (case z_sorted => k_is)
    (case z_repr => k_is)
    (case z_all => k_is)
    (case z_any => k_is)
    (case z_max => k_is)
    (case z_min => k_is)
    (case g_LETTERS => k_is)
    (case g_END => k_is)
    (case g_LAST_PLACE => k_is)
    (case g_MOST_COMPARISONS => k_is)
    (case g_MOST_NAMES => k_is)
    (case g_MOST_CELLS => k_is)
    (case q_non => k_is)
    (case q_bool => k_is)
    (case q_list => k_is)
    (case q_dict => k_is)
    (case iCA => k_is)
    (case tCA => k_is)
    (case sCA => k_is)
    (case sNT => k_is)
    (case sUT => k_is)
    (case sUN => k_is)
