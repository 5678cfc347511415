import PyProof.Rows.All
import Wide.All
import OpenK.AllK
import Wide.FinOn
import PyProof.ReprRoads
import KE.KDictPairs
import KE.GoesMore
import HandS.Base
import HandS.Call
import HandS.List
import HandS.Comp
import HandS.Ends
import HandS.Dict
import HandS.Iter
import HandS.Text
import HandS.Words
import HandS.WordsList
import HandS.WordsDict
import HandS.FStr
import HandS.IsInst
import HandS.TupAny
import HandS.DictComp
import HandS.Defaults
import HandS.MakeKwOnly
import HandS.OwnEq
import KE.DatumOrd
import KE.KMathG
import OpenK.KMeth
import HandS.WideBits
import HandS.Gcd
import HandS.Deep
import KE.KExcIs
import HandS.Lambda
import HandS.ExcInit
import HandS.ExcField
import HandS.ExcOwn
import HandS.TryMany
import HandS.ExcIs
import HandS.WordsExc
import PyProof.CallFns
import HandS.SortRule
import HandS.SortInts
import HandS.SortKw
import HandS.Keys
import HandS.More
import HandS.SetFor
import HandS.Strs
import HandS.Flow
import HandS.Style
import HandS.Wide
import HandS.EndTab
import PyProof.FactsAll.dict
import HandS.ListItems
import KE.KDictList
import PySem.Challenge.RW_arrowcells_k79_whole_arrows_and_lost_rin
set_option Elab.async false
set_option linter.all false
set_option maxRecDepth 100000
set_option maxHeartbeats 16000000
/-! Own rules over the hand layer: tuples without a dict of their own, dict(tuple), enumerate(tuple), repr, keywords. -/
namespace Z
open PySem PySem.Spec PyProof.Rows L2

/-! ### tuples whose object is known to have no dict -/
def PObj (o : Obj) : Prop := o.cls = .type "tuple" ∧ o.dict = none ∧ ∃ (its : Array Value) (n : Nat), o.data = .seq its n
def PT (H : Hp) (a : Addr) (xs : List V) : Prop := ∃ o : Obj, H a = some (.frz o (.tup xs)) ∧ PObj o
def newT (H : Hp) (xs : List V) (Q : VK) : Prop := ∀ (p : Addr) (o : Obj), H p = none → PObj o → Q (.ref p) (upd H p (.frz o (.tup xs)))
theorem PT.sq {K : PySem.W.Frag} {H : Hp} {a : Addr} {xs : List V} (h : PT H a xs) : SqT K H a xs := by
  obtain ⟨o, e, _⟩ := h
  exact .inl (.inr ⟨o, e⟩)
theorem PT.new {H : Hp} {p : Addr} {o : Obj} {xs : List V} (ho : PObj o) : PT (upd H p (.frz o (.tup xs))) p xs := ⟨o, upd_same, ho⟩
theorem PT.same {H H' : Hp} {a : Addr} {xs : List V} (e : Same H H') (h : PT H a xs) : PT H' a xs := by
  obtain ⟨o, q, ho⟩ := h
  exact ⟨o, e _ _ q, ho⟩
section
variable {X : Cx} {pins : List (Addr × Obj)} {σ : L2.St} {H : Hp} {s : Shared}
theorem lay_tup {xs : List V} {its : List Value} {Q : VK} {t : Nat} (I : Inv X pins σ H s) (r : Vals xs its) (hz : xs.length ≤ sizeLine) (q : newT H xs Q) :
    EP X pins σ Q (.ref s.heap.objs.size) { s with heap := s.heap.push { cls := .type "tuple", data := .seq its.toArray }, toks := t } := by
  have hn := I.hok.fresh (Nat.le_refl _)
  have hp : PObj { cls := .type "tuple", data := .seq its.toArray } := ⟨rfl, rfl, _, _, rfl⟩
  refine ⟨.ref s.heap.objs.size, _, I.laid (t' := t) (o := .frz { cls := .type "tuple", data := .seq its.toArray } (.tup xs)) (fun b u e => Heap.get?_push_of_some _ e) (Nat.le_refl _) ?_, rfl, q _ _ hn hp⟩
  exact ⟨Heap.get?_push_size _ rfl, hz, its, r, _, Heap.get?_push_size _ rfl, rfl, _, rfl⟩
end
section
variable {X : Cx} {es : List Expr} {t : TA} {pos : Pos}
/-- (a, b): a tuple known to be plain -/
def tTupP (t : TA) : TE := fun σ H Q => t σ H fun xs H1 => xs.length ≤ sizeLine ∧ newT H1 xs Q
theorem pe_tupP {x1} (h : PA X es t) : PE X (.Tuple es x1 pos) (tTupP t) := by
  constructor
  intro pins s σ H Q I hq
  refine wpAny_Tuple_spliced (thn (h.run pos pins s σ H _ I hq) fun us s1 hv => ?_)
  obtain ⟨xs, H1, I1, r, z, q⟩ := hv
  exact ⟨by rw [← r.length]; exact z, lay_tup (t := s1.toks) I1 r z q⟩
/-- tuple(list) -/
def rTupP (K : PySem.W.Frag) : List V → Hp → VK → Prop := fun xs H Q => ∃ p ys, xs = [.ref p] ∧ SqL K H p ys ∧ newT H ys Q
theorem call_tupP : CallR X (.type "tuple") (rTupP X.K) := by
  intro pins s σ H xs us Q I r h
  obtain ⟨p, ys, rfl, hq, q⟩ := h
  obtain ⟨u, rfl, rx⟩ := vals1 r
  cases rx
  obtain ⟨its, r', pl, hz⟩ := I.list hq
  have hlen := r'.length
  refine call_tuple_list pl.isList (fun h' kp => ?_) (by rw [List.size_toArray]; omega)
  exact lay_tup (s := { s with heap := h' }) (t := s.toks) (I.kept (t' := s.toks) kp) r' hz q
/-- t + u -/
def rCatP (K : PySem.W.Frag) : R2 := fun x y H Q => ∃ a b xs ys, x = .ref a ∧ y = .ref b ∧ SqT K H a xs ∧ SqT K H b ys ∧ xs.length + ys.length ≤ sizeLine ∧
  (xs = [] → Q (.ref b) H) ∧ (xs ≠ [] → ys = [] → Q (.ref a) H) ∧ (xs ≠ [] → ys ≠ [] → newT H (xs ++ ys) Q)
theorem op_catP : OpR X (binaryOp .Add) (rCatP X.K) := by
  intro pins s σ H x y v u Q I rx ry h
  obtain ⟨a, b, xs, ys, ex, ey, ha, hb, hz, q0, q1, q2⟩ := h
  by_cases hx : xs = []
  · exact op_catA pins s σ H x y v u Q I rx ry ⟨a, b, xs, ys, ex, ey, ha, hb, hz, q0, q1, fun z => absurd hx z⟩
  · subst ex ey
    cases rx
    cases ry
    obtain ⟨its, r1, p1, _⟩ := I.tuple ha
    obtain ⟨its2, r2, p2, _⟩ := I.tuple hb
    have n1 : its ≠ [] := fun z => hx (r1.nil_iff.mp z)
    refine HT.cat_tup p1 p2 n1 (fun z => ?_) (fun z => ?_) ?_
    · exact ⟨.ref a, H, I, rfl, q1 hx (r2.nil_iff.mp z)⟩
    · have := lay_tup (t := s.toks) I (r1.append r2) (by rw [List.length_append]; exact hz) (q2 hx fun w => z (r2.nil_iff.mpr w))
      exact this
    · rw [← r1.length, ← r2.length]
      exact hz
/-- t[lo:hi] -/
def rSlP (K : PySem.W.Frag) : V → Option Int → Option Int → Hp → VK → Prop := fun x lo hi H Q => ∃ a xs, x = .ref a ∧ SqT K H a xs ∧
  (HT.sIx xs.length 0 lo = 0 ∧ HT.sIx xs.length xs.length hi = xs.length → Q (.ref a) H) ∧ (¬ (HT.sIx xs.length 0 lo = 0 ∧ HT.sIx xs.length xs.length hi = xs.length) → newT H (cutV xs lo hi) Q)
theorem sl_tupP : SlR X (rSlP X.K) := by
  intro pins s σ H x v vl vu lo hi sl Q I rx hs pl pu h
  obtain ⟨a, xs, ex, hx, q1, q2⟩ := h
  by_cases hw : HT.sIx xs.length 0 lo = 0 ∧ HT.sIx xs.length xs.length hi = xs.length
  · exact sl_tupA pins s σ H x v vl vu lo hi sl Q I rx hs pl pu ⟨a, xs, ex, hx, q1, fun z => absurd hw z⟩
  · subst ex
    cases rx
    obtain ⟨its, r, ht, hz⟩ := I.tuple hx
    have hlen : its.toArray.size = xs.length := (List.size_toArray ..).trans r.length.symm
    refine ⟨"tuple", _, PyProof.Rows.slot_tuple_getitem.lookup, ht.typeIs, HT.getItem_tuple_cut ht hs pl pu ?_ ?_ ?_⟩
    · rw [hlen]; exact hw
    · rw [hlen]
      have rr := (r.drop (HT.sIx xs.length 0 lo)).take (HT.sIx xs.length xs.length hi - HT.sIx xs.length 0 lo)
      exact lay_tup (xs := cutV xs lo hi) (t := s.toks) I rr (Nat.le_trans (cutV_length xs lo hi) hz) (q2 hw)
    · rw [hlen]; exact hz
end
end Z
namespace Z
open PySem PySem.Spec PyProof.Rows L2
/-! ### dict(t), t a tuple of pairs -/
section
variable {X : Cx} {pins : List (Addr × Obj)} {σ : L2.St} {H : Hp} {s : Shared}
theorem key_is {k : Key} {u : Value} (r : RelV (kV k) u) : keyIs k u = true := by
  cases k with
  | inl i => obtain ⟨t, rfl⟩ := (show ∃ t, u = Value.int i t from r); exact keyIs_int i t
  | inr x => obtain ⟨t, rfl⟩ := (show ∃ t, u = Value.str x t from r); exact keyIs_str x t
theorem pairs2 (I : Inv X pins σ H s) : ∀ {ps : List Addr} {kvs : List (Key × V)}, Paired (fun p kv => SqT X.K H p [kV kv.1, kv.2]) ps kvs →
    ∃ (ws : List (Value × Value)) (vs : List (Key × Value)), KV kvs vs ∧ ws.length = ps.length ∧ vs.length = ps.length ∧
      ∀ (j : Nat) (a b : Value), ws[j]? = some (a, b) → (∃ T, ps[j]? = some T ∧ s.heap.IsTuple T #[a, b]) ∧ ∃ k, vs[j]? = some (k, b) ∧ keyIs k a = true
  | _, _, .nil => ⟨[], [], .nil, rfl, rfl, fun j a b e => by simp at e⟩
  | _, _, .cons (a := p) (b := kv) h t => by
    obtain ⟨ws, vs, r, l1, l2, hp⟩ := pairs2 I t
    obtain ⟨its, rv, ht, _⟩ := I.tuple h
    obtain ⟨u, y, ei, ru, ry⟩ := vals2 rv
    subst ei
    refine ⟨(u, y) :: ws, (kv.1, y) :: vs, .cons ⟨rfl, ry⟩ r, by simp [l1], by simp [l2], fun j a b e => ?_⟩
    cases j with
    | zero =>
      have e' : (u, y) = (a, b) := Option.some.inj e
      cases e'
      exact ⟨⟨p, rfl, ht⟩, kv.1, rfl, key_is ru⟩
    | succ j => simpa using hp j a b (by simpa using e)
end
section
variable {X : Cx}
def rDictT (K : PySem.W.Frag) : List V → Hp → VK → Prop := fun xs H Q => ∃ (a : Addr) (ps : List Addr) (kvs : List (Key × V)), xs = [.ref a] ∧ PT H a (ps.map V.ref) ∧ Paired (fun p kv => SqT K H p [kV kv.1, kv.2]) ps kvs ∧
  ∀ p, H p = none → Q (.ref p) (upd H p (.dK (mergeK [] kvs)))
theorem call_dictT (hcalm : X.calm = true) : CallR X (.type "dict") (rDictT X.K) := by
  intro pins s σ H xs us Q I r q
  obtain ⟨a, ps, kvs, ex, hq, hp, q⟩ := q
  subst ex
  obtain ⟨u, eu, rx⟩ := vals1 r
  subst eu
  cases rx
  obtain ⟨its, rv, _, hz⟩ := I.tuple (hq.sq (K := X.K))
  have ei := refs_at rv
  subst ei
  rw [List.length_map] at hz
  obtain ⟨ws, vs, rel, l1, l2, hpr⟩ := pairs2 I hp
  obtain ⟨o, ho, hc, hd, its2, n, hdat⟩ := hq
  obtain ⟨hget, _, its3, rv3, o3, ho3, hc3, n3, hd3⟩ := (show ObjOk X.prog X.w H s.heap a (.frz o (.tup (ps.map V.ref))) from I.hok a _ ho)
  rw [hget] at ho3
  cases ho3
  have e3 := refs_at rv3
  subst e3
  have pl : PlainSeq "tuple" s.heap a (ps.map Value.ref).toArray := ⟨o, n3, hget, hc, hd, hd3⟩
  have pi : PairItems s.heap (ps.map Value.ref).toArray (fun j => ps.getD j 0) ws := by
    refine ⟨by simp [l1], fun j k v e => ?_⟩
    obtain ⟨⟨T, e1, e2⟩, _⟩ := hpr j k v e
    have e4 : ps.getD j 0 = T := by rw [List.getD_eq_getElem?_getD, e1]; rfl
    refine ⟨?_, .inl ?_⟩
    · simp [e1]
    · show s.heap.IsTuple (ps.getD j 0) #[k, v]
      rw [e4]; exact e2
  have hv : PairsHave (mixKind X.prog X.w) ws.length (PairRel ws) vs := by
    refine ⟨by rw [l1, l2], fun i key v e => ?_⟩
    obtain ⟨_, k, e1, e2⟩ := hpr i key v e
    exact ⟨k, e1, e2⟩
  refine PySem.call_dict_pairs (PairArg.tuple a (ps.map Value.ref).toArray (fun j => ps.getD j 0) ws) (I.ok.hd hcalm) ⟨pl, pi⟩ hv (by rw [l1]; exact hz) fun h' tk hd' k => ?_
  have hm : (s.heap.objs.size == sysModules) = false := beq_eq_false_iff_ne.mpr (Nat.ne_of_gt I.big)
  have hlen : (mergeK [] kvs).length ≤ sizeLine := by
    refine Nat.le_trans (length_mergeK kvs []) ?_
    rw [List.length_nil, Nat.zero_add, rel.length, l2]
    exact hz
  refine ⟨.ref s.heap.objs.size, upd H s.heap.objs.size (.dK (mergeK [] kvs)), ?_, rfl, q _ (I.hok.fresh (Nat.le_refl _))⟩
  refine I.laid (t' := tk) (fun b u e => k b u (by simp) e) (Nat.le_refl _) ?_
  exact ⟨hlen, hm, merged [] vs, KV.merge rel .nil, hd'⟩
end

/-! ### enumerate(t), t a tuple -/
open PySem.Builtin in
theorem meets_enum1 {v : Value} {o : Obj} {H : Heap → Prop} (B : Begins v o H) :
    Meets (Builtin.«enumerate.__new__» ⟨[.type "enumerate", v], []⟩) (fun _ R s => H s.heap ∧
      R (.ok (.ret (.ref (s.heap.push o).objs.size)))
        { s with heap := (s.heap.push o).push { cls := .type "enumerate", data := .fields #[.none, .bool false, .ref s.heap.objs.size, rawInt 0, .none, .none] } }) := by
  refine .of_wp fun prog w A R s h => ?_
  obtain ⟨hp, g, d, tk, os⟩ := s
  obtain ⟨h1, h⟩ := h
  have subE := sub_enumerate
  have q1 : ∀ {A' : Around} {E Q : Value → Shared → Prop}, Q (.ref hp.objs.size) ⟨hp.push o, g, d, tk, os⟩ → wpAny (model prog w) A' (pyIter v) Q E ⟨hp, g, d, tk, os⟩ := fun q => B.iter prog w _ _ ⟨hp, g, d, tk, os⟩ _ h1 q
  wp_walk using q1
  refine wpAny_stack_any fun st => wpAny_pure ?_
  split
  · rename_i c _ _ _ _ _
    cases (c == Value.type "enumerate") <;> (wp_walk using q1; exact ⟨_, rfl, h⟩)
  · wp_walk using q1
    exact ⟨_, rfl, h⟩
theorem call_enum_tuple {prog : Program} {w : World} {A : Around} {E : Value → Shared → Prop} {s : Shared} {t : Addr} {items : Array Value} {Q : Value → Shared → Prop} (hL : s.heap.IsTuple t items)
    (h : ∀ h', IsEnum h' (s.heap.objs.size + 1) s.heap.objs.size 0 .none → h'.IsTupleIter s.heap.objs.size t 0 → h'.objs.size = s.heap.objs.size + 2 →
      (∀ b o, s.heap.get? b = some o → h'.get? b = some o) → Q (.ref (s.heap.objs.size + 1)) { s with heap := h' }) :
    wpAny (model prog w) A (call (.type "enumerate") [.ref t]) Q E s := by
  refine callType_new F.called_enumerate (by decide) (F.typeCall_enumerate_1 _) (F.newCall_enumerate_1 _) (fun obj => F.args_object_init_2 obj _) F.entry_enumerate_new
    (meets_enum1 (begins_tuple t items)) ⟨hL, ?_⟩
  have hz : (s.heap.push { cls := .type "tuple_iterator", data := .fields #[.ref t, .int 0 0] }).objs.size = s.heap.objs.size + 1 := Heap.size_push ..
  show _ ∧ _
  rw [hz]
  have he : IsEnum ((s.heap.push { cls := .type "tuple_iterator", data := .fields #[.ref t, .int 0 0] }).push
      { cls := .type "enumerate", data := .fields #[.none, .bool false, .ref s.heap.objs.size, rawInt 0, .none, .none] }) (s.heap.objs.size + 1) s.heap.objs.size 0 .none := by
    have q := Heap.get?_push_size (s.heap.push { cls := .type "tuple_iterator", data := .fields #[.ref t, .int 0 0] })
      (o := { cls := .type "enumerate", data := .fields #[.none, .bool false, .ref s.heap.objs.size, rawInt 0, .none, .none] }) rfl
    rw [hz] at q
    exact q
  exact ⟨⟨_, he, rfl⟩, h _ he ⟨_, Heap.get?_push_of_some _ (Heap.get?_push_size _ rfl), rfl, rfl⟩ (by rw [Heap.size_push, hz]) fun b o x => Heap.get?_push_of_some _ (Heap.get?_push_of_some _ x)⟩
section
/-- the tuple at a, each item in a new pair with its place -/
def IteT (K : PySem.W.Frag) (a : Addr) : It :=
  ⟨fun i H => ∃ (xs : List V) (x : V), SqT K H a xs ∧ xs[i]? = some x,
   fun i H v H' => ∃ T x, v = .ref T ∧ H T = none ∧ H' = upd H T (.tup [.int (i : Nat), x]) ∧ ∀ xs, SqT K H a xs → xs[i]? = some x,
   fun i H => ∃ xs : List V, SqT K H a xs ∧ xs.length = i⟩
theorem turn_enumT {P : Program} {w : World} {K : PySem.W.Frag} {elts : List Expr} {kk : Nat} {tpos : Pos} (a e it : Addr) :
    Turn P w K (.Tuple elts kk tpos) (IteT K a) [e, it] e (fun i h => (∃ old, IsEnum h e it ((i : Nat) : Int) old) ∧ h.IsTupleIter it a i ∧ e ≠ it ∧ a ≠ it ∧ a ≠ e) := by
  refine ⟨by simp, fun i h st b hb => ?_, fun i h h' st k => ?_, ?_, ?_, ?_⟩
  · obtain ⟨⟨old, he⟩, ⟨o, ho, hc, hd⟩, _⟩ := st
    rcases (by simpa using hb : b = e ∨ b = it) with z | z
    · subst z; exact ⟨_, he, fun v q => nomatch q⟩
    · subst z; exact ⟨o, ho, fun v q => by rw [hd] at q; cases q⟩
  · obtain ⟨⟨old, he⟩, hi, hne⟩ := st
    exact ⟨⟨old, k e (by simp) _ he⟩, hi.at fun o q => k it (by simp) o q, hne⟩
  · intro X hP hw hK hc i pins s σ H E I hf st hg
    subst hP hw hK
    obtain ⟨⟨old, he⟩, hit, hne, hai, hae⟩ := st
    obtain ⟨xs, x, hq, hx⟩ := hg
    obtain ⟨its, rv, p, hz⟩ := I.tuple hq
    obtain ⟨u, hu, ru⟩ := rv.get hx
    have hel : e < s.heap.objs.size := Heap.lt_size he
    have hil : it < s.heap.objs.size := by obtain ⟨_, q, _⟩ := hit; exact Heap.lt_size q
    have D := Draws.tuple (prog := X.prog) (w := X.w) (A := X.A.in1) (I.ok.hd hc) it a hai its.toArray
    have hlt : i < its.toArray.size := by
      have := (List.getElem?_eq_some_iff.mp hu).1
      simpa using this
    refine wpAny_pyNext_enum_itemD D he ⟨hit, p⟩ hlt hne (by simp [hne, Ne.symm hae]) fun x' h' tk hP ho hst hT hsz hk => ?_
    have ex : x' = u := by
      have q : its.toArray[i]? = some x' := hP
      have q2 : its.toArray[i]? = some u := by simpa using hu
      rw [q2] at q
      exact (Option.some.inj q).symm
    subst ex
    refine ⟨_, rfl, wpAny_letOwnedTupleGo_enum (s := { s with heap := h', toks := tk + 1 }) ho fun h'' he' sb => ?_⟩
    have hT2 : h''.get? s.heap.objs.size = some { cls := .type "tuple", data := .seq #[.int i tk, x'] } := (sb.2 _ (Nat.ne_of_gt hel)).trans hT
    have new : ObjOk X.prog X.w (upd H s.heap.objs.size (.tup [.int (i : Nat), x])) h'' s.heap.objs.size (.tup [.int (i : Nat), x]) := by
      refine ⟨by show 2 ≤ sizeLine; decide, [.int i tk, x'], .cons ⟨_, rfl⟩ (.cons ru .nil), ?_⟩
      exact ⟨_, hT2, rfl, _, rfl⟩
    have I1 : Inv X pins σ (upd H s.heap.objs.size (.tup [.int (i : Nat), x])) { s with heap := h'', toks := tk + 1 } := by
      refine I.turnedNew (ch := [e, it]) (fun b ob hb q => ?_) hf (Nat.le_refl _) new
      have nb : b ≠ e := fun z => hb (by simp [z])
      exact (sb.2 b nb).trans (hk b ob nb (fun z => hb (by simp [z])) q)
    refine ⟨.ref s.heap.objs.size, _, I1, rfl, ⟨_, x, rfl, I.hok.fresh (Nat.le_refl _), rfl, fun ys hy => by rw [I.tuple_inj hy hq]; exact hx⟩, ⟨⟨x', ?_⟩, hst.1.at fun o q => (sb.2 it (Ne.symm hne)).trans q, hne, hai, hae⟩, fun b hb => ?_⟩
    · have e1 : ((i + 1 : Nat) : Int) = (i : Int) + 1 := by omega
      rw [e1]
      exact he'
    · have hb' : b < s.heap.objs.size := by
        rcases (by simpa using hb : b = e ∨ b = it) with z | z
        · exact z ▸ hel
        · exact z ▸ hil
      rw [upd_ne (Nat.ne_of_lt hb')]
      exact (hf b hb).1
  · intro X hP hw hK hc i pins s σ H E I hf st hg
    subst hP hw hK
    obtain ⟨⟨old, he⟩, hit, hne, hai, hae⟩ := st
    obtain ⟨xs, hq, hx⟩ := hg
    obtain ⟨its, rv, p, hz⟩ := I.tuple hq
    obtain ⟨f0, f1, f2, f3, f4, f5⟩ := hf it (by simp)
    have hl := rv.length
    have D := Draws.tuple (prog := X.prog) (w := X.w) (A := X.A.in1) (I.ok.hd hc) it a hai its.toArray
    have ei : its.toArray.size = i := by rw [List.size_toArray, ← hl]; exact hx
    exact wpAny_pyNext_enum_endD D he ⟨by rw [ei]; exact hit, p⟩ fun h' eb => ⟨rfl, I.turned (t' := s.toks) (fun b o hb q => eb b o hb q) f0 f1 f3 f4 f5⟩
  · intro A i s Q E st h
    obtain ⟨⟨_, he⟩, _⟩ := st
    exact wpAny_pyIter_enum he h
def iEnumT (K : PySem.W.Frag) (ta : TA) : TI := fun σ H R => ta σ H fun vs H1 => ∃ a xs, vs = [.ref a] ∧ SqT K H1 a xs ∧ R (IteT K a) H1
theorem pi_enumT {X : Cx} {e : Expr} {ta : TA} {p pos tpos : Pos} {elts : List Expr} {kk : Nat} (hg : Gl X "enumerate") (hm : X.mg "enumerate" = none) (ha : PA X [e] ta)
    (hs : starEach [e] X.env = [(false, eval e X.env)] := by rfl) : PI X (.Tuple elts kk tpos) (.Call (.Name "enumerate" p) [e] [] pos) (iEnumT X.K ta) := by
  constructor
  intro pins s σ H R I h
  refine Call_ (ld_blt I hg hm boot_enumerate (PyProof.Rows.callWith_type1 (thn (ha.run pos pins s σ H _ I h) fun us s1 hv => ?_) hs rfl))
  obtain ⟨vs, H1, I1, r1, a, xs, ex, hq, q⟩ := hv
  subst ex
  obtain ⟨u, eu, rx⟩ := vals1 r1
  subst eu
  cases rx
  obtain ⟨its, rv, p', hz⟩ := I1.tuple hq
  have hal : a < s1.heap.objs.size := p'.lt
  refine call_enum_tuple (items := its.toArray) p' fun h' he hit hsz hk => wpAny_pyIter_enum he ?_
  have I2 : Inv X pins σ H1 { s1 with heap := h' } := I1.kept (t' := s1.toks) hk
  have na : a ≠ s1.heap.objs.size := Nat.ne_of_lt hal
  have na2 : a ≠ s1.heap.objs.size + 1 := Nat.ne_of_lt (Nat.lt_succ_of_lt hal)
  refine ⟨s1.heap.objs.size + 1, [s1.heap.objs.size + 1, s1.heap.objs.size], _, _, H1, rfl, I2, turn_enumT a (s1.heap.objs.size + 1) s1.heap.objs.size, ⟨⟨.none, he⟩, hit, Nat.succ_ne_self _, na, na2⟩, fun b hb => ?_, q⟩
  have hle : s1.heap.objs.size ≤ b := by
    rcases (by simpa using hb : b = s1.heap.objs.size + 1 ∨ b = s1.heap.objs.size) with z | z
    · exact z ▸ Nat.le_succ _
    · exact z ▸ Nat.le_refl _
  exact I1.fpOk hle (I1.hok.fresh hle)
end
end Z
namespace Z
open PySem PySem.Spec PyProof.Rows L2
/-! ### defs that are called while no repr runs -/
structure FnG (P : Program) (w : World) (K : PySem.W.Frag) (mg : Str → Option Value) (base : Heap) (k : Nat) (f : Addr) (fd : FuncData) (ps : List Str) (sp : Sp) : Prop where
  len : ∀ vs H Q E, sp vs H Q E → vs.length = ps.length
  run : ∀ (A : Around) (outer : List Env) (s : Shared) (H : Hp) (args : Args) (us : List Value) (vs : List V) (Q : VK) (E : XK), Room k A → A.guards = some [] →
    Env0 P w K mg base A outer s H → BindsTo s fd args (ps.zip us) → Vals vs us → sp vs H Q E → codeAny (model P w) A (.call (.ref f) args) (CR CX0 outer P w H s Q E) s
theorem FnG.of {P : Program} {w : World} {K : PySem.W.Frag} {mg : Str → Option Value} {base : Heap} {k : Nat} {f : Addr} {fd : FuncData} {ps : List Str} {sp : Sp}
    (F : FnOk P w K mg base CX0 k f fd ps sp) : FnG P w K mg base k f fd ps sp :=
  ⟨F.len, fun A outer s H args us vs Q E hr _ => F.run A outer s H args us vs Q E hr⟩
section
variable {P : Program} {w : World} {K : PySem.W.Frag} {mg : Str → Option Value} {base : Heap}
theorem okG {x qual : Str} {st : Stmt} {f : Addr} {fd : FuncData} {N ps : List Str} {k : Nat} {sp : Sp} (F : Fun K x qual st f fd) (S : FnScope N ps (defScope st)) (len : ∀ vs H Q E, sp vs H Q E → vs.length = ps.length)
    (hbody : ∀ (cdv : Value) (A : Around) (outer : List Env) (s : Shared) (H : Hp) (vs : List V) (Q : VK) (E : XK), Room k (A.deeper (envOfC qual (defScope st) s.heap.objs.size f cdv)) →
      (A.deeper (envOfC qual (defScope st) s.heap.objs.size f cdv)).guards = some [] → sp vs H Q E →
      ∃ t, PSs (cxOf CX0 P w K mg base N qual (defScope st) f cdv A outer s H E).nox (defBody st) t ∧ t { nx := fun _ H' => Q .non H', rt := Q } (start N vs) H) : FnG P w K mg base (k + 1) f fd ps sp := by
  obtain ⟨oc, od, kV, doc, pm, an, cdv, ct, osl, rfl, lk, hcd⟩ := F.ex
  refine ⟨len, fun A outer s H args us vs Q E hr hgd e0 hb r hsp => ?_⟩
  have keepB : ∀ b o, base.get? b = some o → s.heap.get? b = some o := fun b o e => (e0.bs b o e).1
  have KX : K.In s.heap := e0.mod.kin.keeps keepB
  have lim : s.heap.NoLimit := e0.mod.nolimit.keeps keepB
  refine codeAny_call_function hr.depth (KX _ _ lk) rfl S.co S.gen rfl (PySem.W.codeRec_of KX hcd) (hb _ _ _ _ ?_)
  refine wpAny_newFunctionEnv_cells S.kind (fun y hy => ?_) fun env he s1 x => ?_
  · rcases S.par y.1 (List.of_mem_zip (a := y.1) (b := y.2) hy).1 with q | q
    · exact .inl q
    · exact .inr ⟨q, PySem.W.cellsFrom_some _ _ _ (.inl q)⟩
  subst he
  refine ⟨lim.keeps x.toInCall.keep, codeAny_func ?_⟩
  obtain ⟨t, ht, hq⟩ := hbody cdv A outer s H vs Q E (hr.deeper _) (by simpa [Around.deeper] using hgd) hsp
  have I0 := inv_start (CX := CX0) (E := E) (cd := cdv) (qual := qual) (f := f) (N := N) S hr.hd e0 (len _ _ _ _ hsp) r x
  refine wpAny_mono (ht.nox.run [] s1 (start N vs) H _ I0 hq) (fun fl s' hs => ?_) fun e s' hs => hs
  have fin : ∀ {σ' : L2.St} {H' : Hp} {v : V} {u : Value}, Inv (cxOf CX0 P w K mg base N qual (defScope st) f cdv A outer s H E) [] σ' H' s' → RelV v u → Q v H' → CE outer P w H s Q u s' :=
    fun J rv q => ⟨_, _, J.os, J.bare, J.base, J.hok, rv, q⟩
  match fl, hs with
  | .ret u, ⟨v, σ', H', J, rv, q⟩ => exact fin J rv q
  | .next, ⟨σ', H', J, q⟩ => exact fin (v := V.non) (u := Value.none) J rfl q
  | .brk, ⟨_, _, _, q⟩ => exact q.elim
  | .cont, ⟨_, _, _, q⟩ => exact q.elim
end
section
variable {X : Cx} {k : Nat} {f : Addr} {fd : FuncData} {ps : List Str} {sp : Sp} {E : XK} {x : Str} {p pos : Pos} {e : Expr} {es : List Expr} {t : TA}
theorem run_fnG {pins : List (Addr × Obj)} {σ : L2.St} {H : Hp} {s : Shared} {Q : VK} {us : List Value} {vs : List V} (F : FnG X.prog X.w X.K X.mg X.base k f fd ps sp) (hr : Room k X.A) (hgd : X.A.guards = some []) (hb : Binds X.K fd ps [])
    (I : Inv X pins σ H s) (r : Vals vs us) (h : sp vs H Q E) : wpAny (model X.prog X.w) X.A (call (.ref f) us) (EP X pins σ Q) X.xe s := by
  have hl : (us ++ []).length = ps.length := by rw [List.append_nil, ← r.length]; exact F.len _ _ _ _ h
  have hb' := hb s us I.kIn hl
  rw [List.append_nil] at hb'
  refine wpAny_call (codeAny_mono (F.run X.A X.stack s H ⟨us, []⟩ us vs Q E hr hgd I.env0 hb' r h) fun r s' hq => ?_)
  match r, hq with
  | .error e, hq => exact False.elim hq
  | .ok (.ret u), hq => exact I.after hq
  | .ok .next, hq => exact False.elim hq
  | .ok .brk, hq => exact False.elim hq
  | .ok .cont, hq => exact False.elim hq
/-- f(e, ..) -/
def tCallG (sp : Sp) (E : XK) (t : TA) : TE := fun σ H Q => t σ H fun vs H1 => sp vs H1 Q E
theorem pe_callG (F : FnG X.prog X.w X.K X.mg X.base k f fd ps sp) (hr : Room k X.A) (hgd : X.A.guards = some []) (hg : Gl X x) (hm : X.mg x = some (.ref f)) (hk : PySem.W.keepIn X.K (.ref f) = true) (hb : Binds X.K fd ps [])
    (ha : PA X (e :: es) t) (hdb : (x == ("__debug__" : Str)) = false := by decide) (he : starEach (e :: es) X.env = (false, eval e X.env) :: starEach es X.env := by rfl) (hpl : (backTo pos (starEach es X.env)).any (·.1) = false := by rfl) :
    PE X (.Call (.Name x p) (e :: es) [] pos) (tCallG sp E0 t) := by
  constructor
  intro pins s σ H Q I h
  refine wpAny_Call_Name_kw (ld_glob I hg hm ?_ hdb)
  refine PySem.W.callWith_K (h₀ := X.base) I.ok.mod.kin hk (thn (ha.run pos pins s σ H _ I h) fun us s1 hv => ?_) he hpl
  obtain ⟨vs, H1, I1, r, q⟩ := hv
  exact ⟨I1.kIn, run_fnG F hr hgd hb I1 r q⟩
/-! ### repr of a list or a tuple -/
def rRepr (K : PySem.W.Frag) : List V → Hp → VK → Prop := fun xs H Q => ∃ (a : Addr) (d : PyData), xs = [.ref a] ∧ Dp K H (.ref a) d ∧ d.showable = true ∧ d.hasDict = false ∧ d.depth ≤ 60 ∧ d.shown.length ≤ sizeLine ∧ Q (.str d.shown) H
theorem call_repr (hgd : X.A.guards = some []) (hu : X.A.units + 64 < cLine) : CallR X (.builtin "repr") (rRepr X.K) := by
  intro pins s σ H xs us Q I r h
  obtain ⟨a, d, ex, hd, sh, nd, dep, hz, q⟩ := h
  subst ex
  obtain ⟨u, eu, rx⟩ := vals1 r
  subst eu
  obtain ⟨as, rd⟩ := Dp.reads I d _ _ hd rx
  cases rx
  refine repr_of_reads' rd sh (fun z => by rw [nd] at z; cases z) hgd (by omega) (fun _ _ e => e) (fun h' t tk hk => ?_) hz
  exact ⟨.str d.shown, H, I.kept (t' := tk) hk, ⟨t, rfl⟩, q⟩
end
end Z
namespace Z
open PySem PySem.Spec PyProof.Rows L2
open PySem.W (Frag findIn isFn mroIn notFirst InstAt Looks looks_findIn looks_mroIn looks_subIn ifBound_K)
section
variable {prog : Program} {w : World} {A : Around} {E : Value → Shared → Prop} {s : Shared} {K : Frag} {x C L f : Addr} {h₀ : Heap} {m : Str → Option Value} {ox : Obj} {od : Option Obj} {b tb : Value}
theorem ne_builtin {Q : Fin → Shared → Prop} (hu : A.units < cLine) (X : K.In s.heap) (I : InstAt s.heap x ox C od) (hs : findIn K (.ref C) "__eq__" = some (some (.ref f))) (hf : isFn K (.ref f) = true)
    (h : wpAny (model prog w) A (call (.ref f) [.ref x, b]) (fun v s' => ∃ c, v = .bool c ∧ Q (.done (.ret (.bool (!c)))) s') E s) :
    wpAny (model prog w) A (Builtin.«object.__ne__» ⟨[.ref x, b], []⟩) Q E s := by
  unfold Builtin.«object.__ne__»
  refine wpAny_bind (wpAny_pure ?_)
  refine wpAny_bind (wpAny_cRoomFor hu ?_)
  refine wpAny_bind (m := callSpecialIfBound? (.ref x) (Str.ofString "__eq__") [b]) (ifBound_K X I hs hf (wpAny_mono h (fun r s' hr => ?_) fun _ _ y => y))
  obtain ⟨c, rfl, hq⟩ := hr
  exact wpAny_bind (wpAny_truthy_bool (wpAny_pure hq))
theorem isObj {M : Model} {h : Heap} (X : K.In h) (I : InstAt h x ox C od) (hm : mroIn K C (.type "object") = some true) : Looks M h (isInstance (.ref x) (.type "object")) true := by
  exact (I.type).andThen (looks_mroIn X hm)
theorem try_ne {Q : Option Value → Shared → Prop} (hu : A.units + 1 < cLine) (X : K.In s.heap) (I : InstAt s.heap x ox C od) (hs : findIn K (.ref C) "__eq__" = some (some (.ref f))) (hf : isFn K (.ref f) = true)
    (hne : findIn K (.ref C) "__ne__" = some (some (.builtin "object.__ne__"))) (hm : mroIn K C (.type "object") = some true)
    (h : wpAny (model prog w) A.in1 (call (.ref f) [.ref x, b]) (fun v s' => ∃ c, v = .bool c ∧ Q (some (.bool (!c))) s') E s) :
    wpAny (model prog w) A (tryCompare (.ref x) "__ne__" b) Q E s := by
  have FN : Slot "object" "__ne__" "object.__ne__" := PySem.F.cmp_object.ne
  have goal : wpAny (model prog w) A (call (.builtin "object.__ne__") [.ref x, b]) (fun v s' => ∃ c, v = .bool c ∧ Q (some v) s') E s := by
    refine wpAny_call (codeAny_call_builtin FN.plain PySem.F.cmpEntry_ne (PySem.W.check_slot PySem.F.cmpKind_ne PySem.F.cmpSplit_ne (isObj X I hm) (PySem.F.cmpArgs_ne _ _) ?_))
    refine ne_builtin (A := A.in1) hu X I hs hf (wpAny_mono h (fun v s' hv => ?_) fun _ _ e => e)
    obtain ⟨c, rfl, hq⟩ := hv
    exact ⟨c, rfl, !c, rfl, hq⟩
  have fin : wpAny (model prog w) A (call (.builtin "object.__ne__") ([.ref x] ++ [b]) >>= fun v => pure (some v)) (fun r s' => ∃ c, r = some (.bool c) ∧ Q r s') E s := by
    refine wpAny_bind (wpAny_mono goal (fun v s' hv => ?_) fun _ _ e => e)
    obtain ⟨c, rfl, hq⟩ := hv
    exact wpAny_pure ⟨c, rfl, hq⟩
  have key : wpAny (model prog w) A (callSpecialIfBound? (.ref x) "__ne__" [b]) (fun r s' => ∃ c, r = some (.bool c) ∧ Q r s') E s := by
    simp only [callSpecialIfBound?, bindSpecialIfBound?]
    refine wpAny_holding (wpAny_bind (wpAny_bind (wpAny_bind (I.type.here ((looks_findIn X hne).here ?_)))))
    simp only [FN.bind]
    refine wpAny_bind (wpAny_askSetting (wpAny_ite ?_))
    split
    · exact wpAny_bind (wpAny_pure (wpAny_pure fin))
    · exact wpAny_tryCatch (wpAny_bind (wpAny_pure (wpAny_pure fin)))
  unfold tryCompare
  refine wpAny_bind (wpAny_mono key (fun r s' hr => ?_) fun _ _ e => e)
  obtain ⟨c, rfl, hq⟩ := hr
  exact wpAny_pure hq
theorem rich_ne {Q : Value → Shared → Prop} (hu : A.units + 1 < cLine) (X : K.In s.heap) (I : InstAt s.heap x ox C od) (hb : Looks (model prog w) s.heap (typeOf b) tb) (hn : notFirst K C tb = true)
    (hs : findIn K (.ref C) "__eq__" = some (some (.ref f))) (hf : isFn K (.ref f) = true) (hne : findIn K (.ref C) "__ne__" = some (some (.builtin "object.__ne__"))) (hm : mroIn K C (.type "object") = some true)
    (h : wpAny (model prog w) A.in1 (call (.ref f) [.ref x, b]) (fun v s' => ∃ c, v = .bool c ∧ Q (.bool (!c)) s') E s) : wpAny (model prog w) A (richCompare .NotEq (.ref x) b) Q E s := by
  have one : wpAny (model prog w) A (tryCompare (.ref x) "__ne__" b) (fun r s' => ∃ v, r = some v ∧ Q v s') E s := by
    refine try_ne hu X I hs hf hne hm (wpAny_mono h (fun v s' hv => ?_) fun _ _ e => e)
    obtain ⟨c, rfl, hq⟩ := hv
    exact ⟨c, rfl, _, rfl, hq⟩
  unfold richCompare
  simp only [oneThing_ref, cmpInfo_NotEq]
  refine wpAny_holding (wpAny_bind (wpAny_cRoomFor (by omega) ?_))
  refine wpAny_bind (I.type.here (wpAny_bind (hb.here ?_)))
  by_cases q : (Value.ref C != tb) = true
  · rw [if_pos q]
    have e : PySem.W.subIn K tb (.ref C) = some false := by
      rcases Bool.or_eq_true_iff.mp hn with e | e
      · rw [eq_of_beq e] at q; simp at q
      · exact eq_of_beq e
    refine wpAny_bind ((looks_subIn X e).here ?_)
    simp only [Bool.false_eq_true, if_false]
    refine wpAny_bind (wpAny_mono one (fun r s' z => ?_) fun _ _ e => e)
    obtain ⟨v, rfl, hq⟩ := z
    exact wpAny_pure hq
  · rw [if_neg q]
    refine wpAny_bind (wpAny_pure ?_)
    simp only [Bool.false_eq_true, if_false]
    refine wpAny_bind (wpAny_mono one (fun r s' z => ?_) fun _ _ e => e)
    obtain ⟨v, rfl, hq⟩ := z
    exact wpAny_pure hq
end
/-! ### == and != of an own class with an __eq__ of its own -/
/-- the class's facts -/
structure OwnEq (K : Frag) (C f : Addr) (fd : FuncData) : Prop where
  eq : findIn K (.ref C) "__eq__" = some (some (.ref f))
  fn : isFn K (.ref f) = true
  ne : findIn K (.ref C) "__ne__" = some (some (.builtin "object.__ne__"))
  top : mroIn K C (.type "object") = some true
  bd : Binds K fd ["self", "other"] []
/-- the right side's type, as the comparison asks it -/
inductive RightOf (K : Frag) (C : Addr) (H : Hp) : V → Prop where
  | int (i : Int) (h : notFirst K C (.type "int") = true) : RightOf K C H (.int i)
  | str (x : Str) (h : notFirst K C (.type "str") = true) : RightOf K C H (.str x)
  | tup {a : Addr} {xs : List V} (e : SqT K H a xs) (h : notFirst K C (.type "tuple") = true) : RightOf K C H (.ref a)
  | ins {a dx : Addr} {fs : List (Str × V)} (e : H a = some (.ins C dx fs)) : RightOf K C H (.ref a)
section
variable {X : Cx} {k : Nat} {C f : Addr} {fd : FuncData} {sp : Sp}
theorem RightOf.look {pins : List (Addr × Obj)} {σ : L2.St} {H : Hp} {s : Shared} {v : V} {u : Value} (I : Inv X pins σ H s) (r : RightOf X.K C H v) (ru : RelV v u) :
    ∃ tb, Looks (model X.prog X.w) s.heap (typeOf u) tb ∧ notFirst X.K C tb = true := by
  cases r with
  | int i h => obtain ⟨t, rfl⟩ := (show ∃ t, u = Value.int i t from ru); exact ⟨_, Looks.of_pure rfl, h⟩
  | str x h => obtain ⟨t, rfl⟩ := (show ∃ t, u = Value.str x t from ru); exact ⟨_, Looks.of_pure rfl, h⟩
  | @tup a xs e h =>
    cases (show u = Value.ref a from ru)
    obtain ⟨its, _, ⟨o, ho, hc, _⟩, _⟩ := I.tuple e
    exact ⟨.type "tuple", fun A Q E s' kp q => wpAny_typeOf ⟨o, kp _ _ ho, hc⟩ q, h⟩
  | @ins a dx fs e =>
    cases (show u = Value.ref a from ru)
    obtain ⟨mA, J, _⟩ := ins_get I.hok e
    obtain ⟨od, J, _⟩ := J.look
    exact ⟨.ref C, J.type, by simp [notFirst]⟩
/-- what stands for the comparison's wish: a bool comes -/
def rOwnC (C : Addr) (sp : Sp) (g : Bool → Bool) (K : Frag) : R2 := fun x y H Q => ∃ a dx fs, x = .ref a ∧ H a = some (.ins C dx fs) ∧ RightOf K C H y ∧ sp [x, y] H (fun v H' => ∃ c, v = .bl c ∧ Q (.bl (g c)) H') E0
theorem op_ownEq (F : FnOk X.prog X.w X.K X.mg X.base CX0 k f fd ["self", "other"] sp) (O : OwnEq X.K C f fd) (hr : Room k X.A) : OpR X (compareOp .Eq) (rOwnC C sp id X.K) := by
  intro pins s σ H x y v u Q I rx ry h
  obtain ⟨a, dx, fs, rfl, ha, hy, hsp⟩ := h
  cases rx
  obtain ⟨mA, J, _⟩ := ins_get I.hok ha
  obtain ⟨od, J, _⟩ := J.look
  obtain ⟨tb, hb, hn⟩ := hy.look I ry
  obtain ⟨m, hF⟩ := I.fr
  show wpAny (model X.prog X.w) X.A (richCompare .Eq (.ref a) u) (EP X pins σ Q) X.xe s
  refine PySem.W.cmp_K (op := .Eq) hr.units0 hF I.ok.mod.kin J hb hn O.eq O.fn ?_
  refine wpAny_mono (run_fn (dvs := []) (ds := []) (Q := fun v H' => ∃ c, v = .bl c ∧ Q (.bl (id c)) H') (vs := [.ref a, y]) (us := [.ref a, u]) F hr O.bd .nil pass0 I (.cons rfl (.cons ry .nil)) (by simpa using hsp)) (fun v s' hv => ?_) fun _ _ e => e
  obtain ⟨z, H', I', rz, c, rfl, q⟩ := hv
  cases (show v = Value.bool c from rz)
  exact ⟨.bl c, H', I', rfl, q⟩
theorem run_fn_in1 {pins : List (Addr × Obj)} {σ : L2.St} {H : Hp} {s : Shared} {Q : VK} {us : List Value} {vs : List V} {ps : List Str} (F : FnOk X.prog X.w X.K X.mg X.base CX0 k f fd ps sp) (hr : Room (k + 1) X.A) (hb : Binds X.K fd ps [])
    (I : Inv X pins σ H s) (r : Vals vs us) (h : sp vs H Q E0) : wpAny (model X.prog X.w) X.A.in1 (call (.ref f) us) (EP X pins σ Q) X.xe s := by
  have hl : (us ++ []).length = ps.length := by rw [List.append_nil, ← r.length]; exact F.len _ _ _ _ h
  have hb' := hb s us I.kIn hl
  rw [List.append_nil] at hb'
  refine wpAny_call (codeAny_mono (F.run X.A.in1 X.stack s H ⟨us, []⟩ us vs Q E0 hr.in1 I.env0.in1 hb' r h) fun r s' hq => ?_)
  match r, hq with
  | .error e, hq => exact False.elim hq
  | .ok (.ret u), hq => exact I.after hq
  | .ok .next, hq => exact False.elim hq
  | .ok .brk, hq => exact False.elim hq
  | .ok .cont, hq => exact False.elim hq
theorem op_ownNe (F : FnOk X.prog X.w X.K X.mg X.base CX0 k f fd ["self", "other"] sp) (O : OwnEq X.K C f fd) (hr : Room (k + 1) X.A) : OpR X (compareOp .NotEq) (rOwnC C sp (fun c => !c) X.K) := by
  intro pins s σ H x y v u Q I rx ry h
  obtain ⟨a, dx, fs, rfl, ha, hy, hsp⟩ := h
  cases rx
  obtain ⟨mA, J, _⟩ := ins_get I.hok ha
  obtain ⟨od, J, _⟩ := J.look
  obtain ⟨tb, hb, hn⟩ := hy.look I ry
  show wpAny (model X.prog X.w) X.A (richCompare .NotEq (.ref a) u) (EP X pins σ Q) X.xe s
  refine rich_ne (by have := hr.un; omega) I.kIn J hb hn O.eq O.fn O.ne O.top ?_
  refine wpAny_mono (run_fn_in1 (Q := fun v H' => ∃ c, v = .bl c ∧ Q (.bl (!c)) H') (vs := [.ref a, y]) (us := [.ref a, u]) F hr O.bd I (.cons rfl (.cons ry .nil)) hsp) (fun v s' hv => ?_) fun _ _ e => e
  obtain ⟨z, H', I', rz, c, rfl, q⟩ := hv
  cases (show v = Value.bool c from rz)
  exact ⟨c, rfl, .bl (!c), H', I', rfl, q⟩
end
/-! ### calls by keywords alone -/
theorem kbn_of {K : Frag} {fd : FuncData} {ps ks : List Str} {n : Nat} (g : {α : Type} → List α → List α → List α) (hrel : ∀ {vs zs : List V} {us ws : List Value}, Vals vs us → Vals zs ws → Vals (g vs zs) (g us ws))
    (h : ∀ us ws : List Value, us.length = n → ws.length = ks.length → bindArgs fd ⟨us, ks.zip ws⟩ = pure (ps.zip (g us ws))) : KBn K fd ps n ks (fun us ws => g us ws) (fun vs zs => g vs zs) :=
  ⟨fun _ us ws _ h1 h2 => .of_eq (h us ws h1 h2), hrel⟩
section
variable {X : Cx} {CX : CXT} {k n : Nat} {f C : Addr} {fd : FuncData} {ps ks : List Str} {sp : Sp} {E : XK} {x m : Str} {p pos apos : Pos} {o : Expr} {kws : List Keyword} {ta : TE} {tk : TA} {g : List Value → List Value → List Value} {gV : List V → List V → List V}
/-- f(k = v, ..) -/
theorem pe_callN0 (F : FnOk X.prog X.w X.K X.mg X.base CX k f fd ps sp) (hr : Room k X.A) (hg : Gl X x) (hm : X.mg x = some (.ref f)) (hk : PySem.W.keepIn X.K (.ref f) = true) (hb : KBn X.K fd ps 0 ks g gV) (hx : Passes CX X E) (hkw : PK X kws tk)
    (hall : (backToKw pos (keywordEach kws X.env)).all (·.1.isSome) = true := by rfl) (hks : (backToKw pos (keywordEach kws X.env)).filterMap (·.1) = ks := by rfl)
    (hdb : (x == ("__debug__" : Str)) = false := by decide) (hpl : ((backTo pos (starEach [] X.env)).any (·.1) || (backToKw pos (keywordEach kws X.env)).any (·.1.isNone)) = false := by rfl) :
    PE X (.Call (.Name x p) [] kws pos) (tCallN 0 ks.length sp gV E tNil tk) := by
  constructor
  intro pins s σ H Q I h
  refine wpAny_Call_Name_kw (ld_glob I hg hm ?_ hdb)
  refine PySem.W.callWith_KW0 (h₀ := X.base) I.ok.mod.kin hk hall (thn (hkw.run pos pins s σ H _ I h) fun ws s2 hv => ?_) hpl
  obtain ⟨zs, H2, I2, rz, l1, l2, q2⟩ := hv
  refine ⟨I2.kIn, ?_⟩
  rw [hks]
  exact run_fnN (us := []) (vs := []) F hr hb hx I2 .nil rz rfl l2 q2
/-- o.m(k = v, ..) -/
def tMethN (C : Addr) (m : Str) (n : Nat) (sp : Sp) (gV : List V → List V → List V) (E : XK) (ta : TE) (tk : TA) : TE := fun σ H Q => ta σ H fun x H1 => ∃ a dx fs, x = .ref a ∧ H1 a = some (.ins C dx fs) ∧ fs.lookup m = none ∧
  tk σ H1 fun zs H2 => zs.length = n ∧ sp (gV [x] zs) H2 Q E
theorem pe_methN0 {pl : Sem Bool} (he : PE X o ta) (c : Cls X.K C) (hm : Meth X.K C m f) (F : FnOk X.prog X.w X.K X.mg X.base CX k f fd ps sp) (hr : Room k X.A) (hb : KBn X.K fd ps 1 ks g gV) (hx : Passes CX X E) (hkw : PK X kws tk)
    (hall : (backToKw pos (keywordEach kws X.env)).all (·.1.isSome) = true := by rfl) (hks : (backToKw pos (keywordEach kws X.env)).filterMap (·.1) = ks := by rfl)
    (hpl : ((backTo pos (starEach [] X.env)).any (·.1) || (backToKw pos (keywordEach kws X.env)).any (·.1.isNone)) = false := by rfl)
    (ht : eval (.Call (.Attribute o m apos) [] kws pos) X.env = (do
      let ov ← eval o X.env
      standAt apos.atName
      let (f, first) ← holding [ov] (getMethod ov m pl)
      callWith pos f first (backTo pos (starEach [] X.env)) (backToKw pos (keywordEach kws X.env))) := by rfl) :
    PE X (.Call (.Attribute o m apos) [] kws pos) (tMethN C m ks.length sp gV E ta tk) := by
  constructor
  intro pins s σ H Q I h
  refine PySem.W.methodCall_KW (pl := pl) (thn (he.run pins s σ H _ I h) fun u s1 hv => ?_) ht
  obtain ⟨x, H1, I1, rx, a, dx, fs, ex, ea, l, q⟩ := hv
  subst ex
  obtain rfl : u = Value.ref a := rx
  refine getmeth_ok I1 ea c hm l ?_
  refine PySem.W.callWith_KW0 (first := [.ref a]) (h₀ := X.base) I1.ok.mod.kin hm.kp hall (thn (hkw.run pos pins s1 σ H1 _ I1 q) fun ws s2 hv => ?_) hpl
  obtain ⟨zs, H2, I2, rz, l2, q2⟩ := hv
  refine ⟨I2.kIn, ?_⟩
  rw [hks]
  exact run_fnN (n := 1) (us := [.ref a]) (vs := [.ref a]) F hr hb hx I2 (.cons rfl .nil) rz rfl (by simpa using l2) q2
end
end Z
namespace Z
open PySem PySem.Spec PyProof.Rows L2
/-! ### the law's end, for a law that is called while no repr runs -/
theorem law_callG {P : Program} {w : World} {K : PySem.W.Frag} {mg mb : Str → Option Value} {k : Nat} {fa a : Addr} {fd : FuncData} {x : Str} {sp : Sp} {s₁ : Shared} {vs : List Value} {ns : List Int}
    (KX : K.In s₁.heap) (hns : s₁.heap.Ns mainGlobals mg) (hb : s₁.heap.Ns builtinsNs mb) (hbb : ∀ x : Str, x ≠ "__name__" → mb x = bootBuiltins x) (hlim : s₁.heap.NoLimit) (hg : s₁.gens = #[])
    (ha : s₁.heap.get? a = some { cls := .type "list", data := .seq vs.toArray }) (hi : IntsAre vs ns) (hl : ns.length ≤ sizeLine) (hr : Room k callerA)
    (F : ∀ base : Heap, K.In base → base.Ns mainGlobals mg → FnG P w K mg base k fa fd [x] sp) (hbind : ∀ (s : Shared) (u : Value), BindsTo s fd ⟨[u], []⟩ [(x, u)])
    (hsp : ∀ H : Hp, Only H → SqL K H a (ns.map V.int) → sp [.ref a] H (fun v _ => v = .bl true) fun _ _ _ => False) :
    codeAny (model P w) callerA (.call (.ref fa) ⟨[.ref a], []⟩) (fun r s' => r = .ok (.ret (.bool true)) ∧ OldK s₁.heap s'.heap ∧ s'.os = s₁.os ∧ AllBare s'.gens) s₁ := by
  have rv := vals_ints hi
  have lenV := hi.length
  suffices core : ∀ H : Hp, Only H → SqL K H a (ns.map V.int) → HOk P w H s₁.heap → (∀ b, H b ≠ none → b = a) → (H a ≠ none → K.lookup a = none) →
      codeAny (model P w) callerA (.call (.ref fa) ⟨[.ref a], []⟩) (fun r s' => r = .ok (.ret (.bool true)) ∧ OldK s₁.heap s'.heap ∧ s'.os = s₁.os ∧ AllBare s'.gens) s₁ by
    cases hk : K.lookup a with
    | some o =>
      have e := KX a o hk
      rw [ha] at e
      cases e
      have none0 : ∀ (b : Addr) (u : HO), (fun _ => none : Hp) b = some u → False := fun b u z => by cases (show (none : Option HO) = some u from z)
      refine core (fun _ => none) (fun _ => .inl rfl) (.inr ⟨_, vs.toArray, _, hk, rfl, rfl, rfl, ?_, by simpa using rv⟩) (fun b u z => (none0 b u z).elim) (fun b z => absurd rfl z) fun z => absurd rfl z
      rw [List.size_toArray, lenV]
      exact hl
    | none =>
      let sc : HO := .frz { cls := .type "list", data := .seq vs.toArray } (.lst (ns.map V.int))
      refine core (fun b => if b = a then some sc else none) (fun b => ?_) (.inl (.inr ⟨{ cls := .type "list", data := .seq vs.toArray }, if_pos rfl⟩)) (fun b u z => ?_) (fun b z => ?_) fun _ => hk
      · by_cases e : b = a
        · exact .inr ⟨_, _, if_pos e⟩
        · exact .inl (if_neg e)
      · by_cases e : b = a
        · subst e
          have z' : some sc = some u := (if_pos rfl).symm.trans z
          cases z'
          exact ⟨ha, by rw [List.length_map]; exact hl, vs, _, rv, ha⟩
        · cases (if_neg e).symm.trans z
      · by_cases e : b = a
        · exact e
        · exact absurd (if_neg e) z
  intro H hO hS hok hA hK
  have isA : ∀ {b : Addr}, H b ≠ none → s₁.heap.get? b = some { cls := .type "list", data := .seq vs.toArray } := fun {b} z => by rw [hA b z]; exact ha
  have noD : ∀ {b : Addr} {o : Obj} {es : Array DictEntry} {ep : Nat}, s₁.heap.get? b = some o → o.data = .dict es ep → H b = none := fun {b o es ep} e d => by
    by_cases z : H b = none
    · exact z
    · rw [isA z] at e
      cases e
      cases (show Data.seq vs.toArray _ = Data.dict es ep from d)
  have nsK : ∀ {b : Addr} {m : Str → Option Value}, s₁.heap.Ns b m → (hidT s₁.heap H).Ns b m := fun n => by
    obtain ⟨o, es, ep, e, d, r⟩ := n
    exact ⟨o, es, ep, hidT_get e (noD e d), d, r⟩
  have hKb : K.In (hidT s₁.heap H) := fun b o e => hidT_get (KX b o e) (by
    by_cases z : H b = none
    · exact z
    · have eb := hA b z
      subst eb
      rw [hK z] at e
      cases e)
  have hM : Mod K mg (hidT s₁.heap H) := ⟨hKb, nsK hns, ⟨mb, nsK hb, hbb⟩, let ⟨mc, h1, h2⟩ := hlim; ⟨mc, nsK h1, h2⟩⟩
  have nil0 : ∀ b : Addr, b ∉ ([] : List Addr) := fun b => by simp
  have e0 : Env0 P w K mg (hidT s₁.heap H) callerA [] s₁ H := ⟨rfl, hM, fun b o e => of_hidT e, Nat.le_of_eq (hidT_size _ _), trivial, fun b hb => absurd hb (nil0 b), hok, .of_eq hg⟩
  refine codeAny_mono ((F _ hKb (nsK hns)).run callerA [] s₁ H ⟨[.ref a], []⟩ [.ref a] [.ref a] _ _ hr rfl e0 (hbind s₁ (.ref a)) (.cons rfl .nil) (hsp H hO hS)) fun r s' h => ?_
  match r, h with
  | .error e, h => exact False.elim h
  | .ok .next, h => exact False.elim h
  | .ok .brk, h => exact False.elim h
  | .ok .cont, h => exact False.elim h
  | .ok (.ret u), h =>
    obtain ⟨v, H', os, bare, un, hok', r', q⟩ := h
    cases (show v = .bl true from q)
    cases (show u = Value.bool true from r')
    refine ⟨rfl, OldK.of_keep fun b o e => ?_, os, bare⟩
    by_cases z : H b = none
    · exact un.keep b o e z (nil0 b) (by simp)
    · rcases hO b with y | ⟨ob, xs, y⟩
      · exact absurd y z
      · obtain ⟨e1, _⟩ := hok b _ y
        obtain ⟨e2, _⟩ := hok' b _ (un.frzs b ob _ y)
        rw [e] at e1
        cases e1
        exact e2
/-- the goal that k_head leaves, from the law's promise -/
theorem walkG {l : PySem.W.OpenLaw} {n k : Nat} {q : Program} {loose : List Str} {XP : (Str → Option Value) → Heap → Prop} {YP : World → Heap → Prop} {d : DefRec} {K : Params → PySem.W.Frag} {sp : World → Sp} {x : Str}
    (hn : l.most = some n) (hn2 : n ≤ sizeLine) (hdf : d.params.defaults = []) (hr : Room k callerA) (hY : ∀ (w : World) (h : Heap), YP w h → (K w.params).In h)
    (F : ∀ (w : World) (mg : Str → Option Value) (fa : Addr) (h : Heap), (K w.params).In h → h.Ns mainGlobals mg → mg d.name = some (.ref fa) →
      ∃ fd : FuncData, (∀ (s : Shared) (u : Value), BindsTo s fd ⟨[u], []⟩ [(x, u)]) ∧ ∀ base : Heap, (K w.params).In base → base.Ns mainGlobals mg → FnG l.prog w (K w.params) mg base k fa fd [x] (sp w))
    (hsp : ∀ (w : World) (H : Hp) (a : Addr) (ns : List Int), ns.length ≤ n → Only H → SqL (K w.params) H a (ns.map V.int) → sp w [.ref a] H (fun v _ => v = .bl true) fun _ _ _ => False) :
    PySem.W.WalkO q loose XP YP l.row.toRowW d [] (fun f vs => PySem.call f vs) := by
  refine Att.attach_call hn hdf fun w s₀ s₁ mg mb fa o pm cd doc a vs ns G Y ho hd hcd hmg hobj hints hlen hg => ?_
  have KX := hY w _ Y
  obtain ⟨fd, hb, hF⟩ := F w mg fa _ KX G.T.g hmg
  exact law_callG KX G.T.g G.T.b G.T.builtins G.T.nolimit hg hobj hints (Nat.le_trans hlen hn2) hr hF hb fun H hO hS => hsp w H a ns hlen hO hS
end Z
namespace Z
open PySem PySem.Spec PyProof.Rows L2
/-! ### name = {k: v for ..}: a local is set to a dict comprehension -/
def InBlk (X : Cx) (scope : Scope) (p : Cx → Prop) : Prop := ∀ s H C cl fp, p (X.blk s H scope (compEnvC scope cl C X.env) fp)
theorem sw_dict {k v : Expr} {cs : List Comprehension} {scope : Scope} {pos py : Pos} {y : Str} {l : Nat} {env : Env} (hk : env.scope.kind = .function) (hy : env.scope.names.lookup y = some .local)
    (hl : (py.line == pos.line) = true) (ha : (scope.names.any fun q => q.1 == y && (q.2 == .local || q.2 == .cell)) = false) : swapsWith (.DictComp k v cs scope pos) (some (.Name y py)) l env = pure true := by
  have e1 : env.kindOf y = some .local := hy
  have e2 : env.blockKind = .function := by
    unfold Env.blockKind
    rw [hk]
    rfl
  unfold swapsWith
  simp only [e1, e2, ha, hl, Expr.pos]
  rfl
theorem ps_setDc {X : Cx} {i : Nat} {y : Str} {py pos sp : Pos} {k v tg iter : Expr} {ifs : List Expr} {scope : Scope} {own : List (Str × Nat)} {wi : TI} {g : TG} {tt : TT} {tk tv : TE} (hc : X.calm = true) (hN : X.N.Nodup)
    (hy : X.N[i]? = some y) (yl : X.env.scope.names.lookup y = some .local) (sw : swapsWith (.DictComp k v [⟨tg, iter, ifs, 0⟩] scope pos) (some (.Name y py)) sp.line X.env = pure true) (hi : PI X tg iter wi)
    (ok : BlkOk X.N X.env.scope scope own) (bg : InBlk X scope fun Y => PG Y tg g) (bt : InBlk X scope fun Y => PTs Y ifs tt) (bk : InBlk X scope fun Y => PE Y k tk) (bv : InBlk X scope fun Y => PE Y v tv)
    (hs : ∀ x, foldedSetIterable iter X.env x = pure x := by intro _; rfl) : PS X (.Assign [.Name y py] (.DictComp k v [⟨tg, iter, ifs, 0⟩] scope pos) sp) (tAsg (tDc wi g tt tk tv (own.map (·.2))) (gName i)) := by
  constructor
  intro pins s σ H D I h
  rw [exec_Assign_Name_used _ _ _ _ sw]
  refine wpAny_bind (wpAny_standAt (wpAny_bind ?_))
  have q0 : tDc wi g tt tk tv (own.map (·.2)) σ H (fun z Hz => gName i z σ Hz D.nx) := h
  show wpAny _ X.A (do
    let _ ← comprehension (.DictComp k v [⟨tg, iter, ifs, 0⟩] scope pos) scope X.env (firstIterPos [⟨tg, iter, ifs, 0⟩] pos) newDict false (eval iter X.env) (some (assign (.Name y py) X.env))) _ _ s
  have core := dc_core (Qf := fun _ z => SP X pins D .next z) hc hN I hi ok bg bt bk bv hs q0 (use := some (assign (.Name y py) X.env)) (pos := pos) (pos' := firstIterPos [⟨tg, iter, ifs, 0⟩] pos)
  refine wpAny_bind (thn (core fun L C s' m H' J q hn f => ?_) fun _ _ z => wpAny_pure (wpAny_pure z))
  show wpAny _ _ (assign (.Name y py) X.env (.ref L)) _ _ _
  refine wpAny_assign_Name (store_ok2 (v := V.ref L) J hN hy (.inl yl) rfl (fun s2 J2 hb => ?_) (.inr yl))
  obtain ⟨a, sb, ha⟩ := hb
  obtain ⟨f0, f1, f2, f3, f4, f5⟩ := f
  have nC : C ≠ a := by
    rcases ha with z | z
    · rw [z]
      exact f1
    · exact fun e => f4 y a z e.symm
  exact ⟨m, hn.sameBut sb nC, fun h3 sb3 => ⟨_, H', J2.turned (t' := s2.toks) (fun b o hb e => (sb3.2 b hb).trans e) f0 f1 f3 f4 f5, q⟩⟩
end Z
namespace Z
open PySem PySem.Spec PyProof.Rows L2 PySem.W
/-! ### bits of whole numbers that are not below 0 -/
def blN (b : Nat) : Nat := if b = 0 then 0 else b.log2 + 1
section
variable {X : Cx}
theorem OpR.imp' {op : Value → Value → Sem Value} {r r' : R2} (h : OpR X op r) (k : ∀ x y H Q, r' x y H Q → r x y H Q) : OpR X op r' :=
  fun pins s σ H x y v u Q I rx ry q => h pins s σ H x y v u Q I rx ry (k x y H Q q)
theorem blN_lt (b : Nat) : b < 2 ^ blN b := by
  unfold blN
  split
  · omega
  · exact Nat.lt_log2_self
def rNN (g : Nat → Nat → Nat) : R2 := fun x y H Q => ∃ a b : Nat, x = .int (a : Int) ∧ y = .int (b : Int) ∧ Q (.int ((g a b : Nat) : Int)) H
theorem bitAnd_nat (a b : Nat) : Builtin.bitAnd (a : Int) (b : Int) = ((a &&& b : Nat) : Int) := by
  rw [bitAnd_pp (by omega) (by omega), Int.toNat_natCast, Int.toNat_natCast]
theorem op_andNN : OpR X (binaryOp .BitAnd) (rNN fun a b => a &&& b) := OpR.imp' op_and fun x y H Q ⟨a, b, h1, h2, q⟩ => ⟨a, b, h1, h2, by have e := bitAnd_nat a b; show Q (.int (Builtin.bitAnd (a : Int) (b : Int))) H; rw [e]; exact q⟩
theorem op_orNN : OpR X (binaryOp .BitOr) (rNN fun a b => a ||| b) := OpR.imp' op_or fun x y H Q ⟨a, b, h1, h2, q⟩ => ⟨a, b, h1, h2, by
  show Q (.int (Builtin.bitOr (a : Int) (b : Int))) H
  rw [Bits.bitOr_pp (by omega) (by omega), Int.toNat_natCast, Int.toNat_natCast]; exact q⟩
theorem op_xorNN : OpR X (binaryOp .BitXor) (rNN fun a b => a ^^^ b) := OpR.imp' op_xor fun x y H Q ⟨a, b, h1, h2, q⟩ => ⟨a, b, h1, h2, by
  show Q (.int (Builtin.bitXor (a : Int) (b : Int))) H
  rw [Bits.bitXor_pp (by omega) (by omega), Int.toNat_natCast, Int.toNat_natCast]; exact q⟩
theorem op_shrNN : OpR X (binaryOp .RShift) (rNN fun a b => a >>> b) := OpR.imp' op_shr fun x y H Q ⟨a, b, h1, h2, q⟩ => ⟨a, b, h1, h2, by omega, by
  show Q (.int ((a : Int) / 2 ^ (b : Int).toNat)) H
  rw [Int.toNat_natCast]
  have e : ((a : Int) / 2 ^ b) = ((a >>> b : Nat) : Int) := by rw [Nat.shiftRight_eq_div_pow]; simp
  rw [e]; exact q⟩
theorem op_shlNN : OpR X (binaryOp .LShift) (fun x y H Q => ∃ a b : Nat, x = .int (a : Int) ∧ y = .int (b : Int) ∧ (∃ n, a < 2 ^ n ∧ n + b ≤ 100000000) ∧ Q (.int ((a <<< b : Nat) : Int)) H) :=
  OpR.imp' op_shlW fun x y H Q ⟨a, b, h1, h2, ⟨n, hn, hs⟩, q⟩ => ⟨a, b, h1, h2, shl_ok (n := n) (by simpa using hn) (by omega), by
    show Q (.int ((a : Int) * 2 ^ (b : Int).toNat)) H
    rw [Int.toNat_natCast]
    have e : ((a : Int) * 2 ^ b) = ((a <<< b : Nat) : Int) := by rw [Nat.shiftLeft_eq]; simp
    rw [e]; exact q⟩
/-- a whole number as a truth value -/
theorem intBits_nat (a : Nat) : Builtin.Int.intBits (a : Int) = blN a := by
  unfold Builtin.Int.intBits blN
  simp
def tBitsN (to : TE) : TE := fun σ H Q => to σ H fun x H1 => ∃ a : Nat, x = .int (a : Int) ∧ Q (.int ((blN a : Nat) : Int)) H1
end
section
variable {X : Cx}
def tInt (t : TE) : TT := fun σ H Q => t σ H fun x H1 => ∃ i : Int, x = .int i ∧ Q (i != 0) H1
theorem pt_int {e : Expr} {t : TE} (h : PE X e t) (he : ∀ whole, isTrue e X.env whole = (do let v ← whole; standAt e.pos; holding [v] (truthy v)) := by intro _; rfl) : L2.PT X e (tInt t) := by
  refine ⟨fun pins s σ H Q I hw => ?_⟩
  refine isTrue_plain (thn (h.run pins s σ H _ I hw) fun v s1 hv => ?_) (he _)
  obtain ⟨x, H1, I1, r1, i, rfl, q⟩ := hv
  exact tru_ok pins s1 σ H1 (.int i) v Q I1 r1 ⟨_, rfl, q⟩
end
/-! ### math.lcm -/
section
variable {X : Cx}
def rLcm : List V → Hp → VK → Prop := fun vs H Q => ∃ a b : Nat, vs = [.int (a : Int), .int (b : Int)] ∧ a < 2 ^ 30 ∧ b < 2 ^ 30 ∧ Q (.int ((Nat.lcm a b : Nat) : Int)) H
theorem log2_lt {a n : Nat} (h : a < 2 ^ n) (hn : 0 < n) : a.log2 < n := by
  by_cases e : a = 0
  · subst e; simpa using hn
  · exact (Nat.log2_lt e).mpr h
theorem cr_lcm : CallR X (.builtin "math.lcm") rLcm := by
  intro pins s σ H vs us Q I r h
  obtain ⟨a, b, rfl, ha, hb, q⟩ := h
  obtain ⟨t, u, rfl⟩ := Vals.int2 r
  have le : Nat.lcm a b ≤ a * b := by
    unfold Nat.lcm
    exact Nat.div_le_self _ _
  have lt : a * b < 2 ^ 60 := by
    have := Nat.mul_le_mul (Nat.le_of_lt_succ (show a < (2 ^ 30 - 1) + 1 by omega)) (Nat.le_of_lt_succ (show b < (2 ^ 30 - 1) + 1 by omega))
    omega
  refine PySem.W.mg_lcm_v (c := ((Nat.lcm a b : Nat) : Int)) (by simp; omega) (by simp; omega) (by simp [Nat.lcm]) ?_ ⟨.int _, H, I.tok _, ⟨_, rfl⟩, q⟩
  rw [Int.natAbs_natCast, bitsLine_eq]
  have := log2_lt (a := Nat.lcm a b) (n := 60) (by omega) (by omega)
  omega
end
/-! ### min(t, default = ..), max(l, default = ..) -/
section
variable {X : Cx}
theorem hold_ints {h : Heap} : ∀ {ns : List Int} {its : List Value}, Vals (ns.map V.int) its → HoldAll h its ns
  | [], _, .nil => ⟨[], .nil⟩
  | n :: ns, _, .cons r t => by
    obtain ⟨u, rfl⟩ := (show ∃ t, _ = Value.int n t from r)
    obtain ⟨as, ra⟩ := hold_ints (h := h) t
    exact ⟨[] ++ as, .cons (.int n u) ra⟩
def headMin : List Int → V → V → Prop
  | [], d, v => v = d
  | n :: ns, _, v => v = .int (minOf n ns)
def headMax : List Int → V → V → Prop
  | [], d, v => v = d
  | n :: ns, _, v => v = .int (maxOf n ns)
theorem holds_int {h : Heap} {v : Value} {i : Int} (r : Holds h v i) : RelV (.int i) v := by
  obtain ⟨as, r⟩ := r
  cases r with
  | int i t => exact ⟨t, rfl⟩
/-- min(t, default = d), t a tuple of whole numbers -/
def tMinD (K : PySem.W.Frag) (ta tk : TA) : TE := fun σ H Q => ta σ H fun vs H1 => tk σ H1 fun zs H2 => ∃ (a : Addr) (ns : List Int) (d : V), vs = [.ref a] ∧ zs = [d] ∧ SqT K H2 a (ns.map V.int) ∧ ∀ v, headMin ns d v → Q v H2
theorem pe_minD {e : Expr} {kws : List Keyword} {ta tk : TA} {p pos : Pos} {k : Nat} (hcalm : X.calm = true) (hr : Room k X.A) (hg : Gl X "min") (hm : X.mg "min" = none) (ha : PA X [e] ta) (hkw : PK X kws tk)
    (he : backTo pos (starEach [e] X.env) = (false, eval e X.env) :: backTo pos (starEach [] X.env) := by rfl) (hpl : (backTo pos (starEach [e] X.env)).any (·.1) = false := by rfl)
    (hall : (backToKw pos (keywordEach kws X.env)).all (·.1.isSome) = true := by rfl) (hkn : (backToKw pos (keywordEach kws X.env)).any (·.1.isNone) = false := by rfl)
    (hks : (backToKw pos (keywordEach kws X.env)).filterMap (·.1) = [("default" : Str)] := by rfl) : PE X (.Call (.Name "min" p) [e] kws pos) (tMinD X.K ta tk) := by
  refine ⟨fun pins s σ H Q I h => ?_⟩
  refine wpAny_Call_Name_kw (ld_blt I hg hm (show bootBuiltins "min" = some (.builtin "min") by decide +kernel) ?_ (by decide) (by decide))
  refine callWith_kw (thn (ha.run pos pins s σ H _ I h) fun us s1 hv => ?_) he hpl hall hkn
  obtain ⟨vs, H1, I1, r1, q1⟩ := hv
  refine thn (hkw.run pos pins s1 σ H1 _ I1 q1) fun ws s2 hv2 => ?_
  obtain ⟨zs, H2, I2, r2, a, ns, d, ev, ez, ht, q⟩ := hv2
  subst ev ez
  obtain ⟨u, eu, rx⟩ := vals1 r1
  subst eu
  cases rx
  obtain ⟨z, ez, rz⟩ := vals1 r2
  subst ez
  rw [hks]
  obtain ⟨its, rv, ht', _⟩ := I2.tuple ht
  have hu := hr.un
  refine PySem.W.min_tuple_datum_default (xs := ns) (I2.ok.hd hcalm) ht' (by simpa using hold_ints rv) (by show X.A.units + 1 + 0 < cLine; omega) (fun e0 h' tk hk => ?_) fun y ys i v h' tk e1 hi hh hk => ?_
  · subst e0
    exact ⟨d, H2, I2.kept (t' := tk) hk, rz, q d rfl⟩
  · subst e1
    exact ⟨.int (minOf y ys), H2, I2.kept (t' := tk) hk, holds_int hh, q _ rfl⟩
def tMaxD (K : PySem.W.Frag) (ta tk : TA) : TE := fun σ H Q => ta σ H fun vs H1 => tk σ H1 fun zs H2 => ∃ (a : Addr) (ns : List Int) (d : V), vs = [.ref a] ∧ zs = [d] ∧ SqL K H2 a (ns.map V.int) ∧ ∀ v, headMax ns d v → Q v H2
theorem pe_maxD {e : Expr} {kws : List Keyword} {ta tk : TA} {p pos : Pos} {k : Nat} (hcalm : X.calm = true) (hr : Room k X.A) (hg : Gl X "max") (hm : X.mg "max" = none) (ha : PA X [e] ta) (hkw : PK X kws tk)
    (he : backTo pos (starEach [e] X.env) = (false, eval e X.env) :: backTo pos (starEach [] X.env) := by rfl) (hpl : (backTo pos (starEach [e] X.env)).any (·.1) = false := by rfl)
    (hall : (backToKw pos (keywordEach kws X.env)).all (·.1.isSome) = true := by rfl) (hkn : (backToKw pos (keywordEach kws X.env)).any (·.1.isNone) = false := by rfl)
    (hks : (backToKw pos (keywordEach kws X.env)).filterMap (·.1) = [("default" : Str)] := by rfl) : PE X (.Call (.Name "max" p) [e] kws pos) (tMaxD X.K ta tk) := by
  refine ⟨fun pins s σ H Q I h => ?_⟩
  refine wpAny_Call_Name_kw (ld_blt I hg hm (show bootBuiltins "max" = some (.builtin "max") by decide +kernel) ?_ (by decide) (by decide))
  refine callWith_kw (thn (ha.run pos pins s σ H _ I h) fun us s1 hv => ?_) he hpl hall hkn
  obtain ⟨vs, H1, I1, r1, q1⟩ := hv
  refine thn (hkw.run pos pins s1 σ H1 _ I1 q1) fun ws s2 hv2 => ?_
  obtain ⟨zs, H2, I2, r2, a, ns, d, ev, ez, ht, q⟩ := hv2
  subst ev ez
  obtain ⟨u, eu, rx⟩ := vals1 r1
  subst eu
  cases rx
  obtain ⟨z, ez, rz⟩ := vals1 r2
  subst ez
  rw [hks]
  obtain ⟨its, rv, ht', _⟩ := I2.list ht
  have hu := hr.un
  refine PySem.W.max_list_datum_default (xs := ns) (I2.ok.hd hcalm) ht'.isList (by simpa using hold_ints rv) (by show X.A.units + 1 + 0 < cLine; omega) (fun e0 h' tk hk => ?_) fun y ys i v h' tk e1 hi hh hk => ?_
  · subst e0
    exact ⟨d, H2, I2.kept (t' := tk) hk, rz, q d rfl⟩
  · subst e1
    exact ⟨.int (maxOf y ys), H2, I2.kept (t' := tk) hk, holds_int hh, q _ rfl⟩
end
/-! ### x in c, c an object with a __contains__ of its own -/
section
variable {X : Cx} {k : Nat} {C f : Addr} {fd : FuncData} {sp : Sp}
structure OwnIn (K : PySem.W.Frag) (C f : Addr) (fd : FuncData) (ps : List Str) : Prop where
  at_ : PySem.W.findIn K (.ref C) "__contains__" = some (some (.ref f))
  fn : PySem.W.isFn K (.ref f) = true
  bd : Binds K fd ps []
def rOwnIn (C : Addr) (sp : Sp) : R2 := fun x y H Q => ∃ a dx fs, y = .ref a ∧ H a = some (.ins C dx fs) ∧ sp [y, x] H (fun v H' => ∃ c, v = .bl c ∧ Q (.bl c) H') E0
theorem op_ownIn {ps : List Str} (F : FnOk X.prog X.w X.K X.mg X.base CX0 k f fd ps sp) (O : OwnIn X.K C f fd ps) (hr : Room k X.A) : OpR X (compareOp .In) (rOwnIn C sp) := by
  intro pins s σ H x y v u Q I rx ry h
  obtain ⟨a, dx, fs, rfl, ha, hsp⟩ := h
  cases ry
  obtain ⟨mA, J, _⟩ := ins_get I.hok ha
  obtain ⟨od, J, _⟩ := J.look
  obtain ⟨m, hF⟩ := I.fr
  refine PySem.W.in_K hF I.ok.mod.kin J O.at_ O.fn ?_
  refine wpAny_mono (run_fn (dvs := []) (ds := []) (Q := fun v H' => ∃ c, v = .bl c ∧ Q (.bl c) H') (vs := [.ref a, x]) (us := [.ref a, v]) F hr O.bd .nil pass0 I (.cons rfl (.cons rx .nil)) (by simpa using hsp)) (fun w s' hv => ?_) fun _ _ e => e
  obtain ⟨z, H', I', rz, c, rfl, q⟩ := hv
  cases (show w = Value.bool c from rz)
  exact wpAny_truthy_bool ⟨.bl c, H', I', rfl, q⟩
end
end Z
namespace Z
open PySem PySem.Spec PyProof.Rows L2 PySem.W
theorem and_rest : ∀ (n a b : Nat), a ≤ n → (a ^^^ (a &&& b)) + (a &&& b) = a
  | 0, a, b, h => by
    obtain rfl : a = 0 := by omega
    simp
  | n + 1, a, b, h => by
    by_cases e : a = 0
    · subst e; simp
    have ih := and_rest n (a / 2) (b / 2) (by omega)
    have d1 : (a &&& b) / 2 = (a / 2) &&& (b / 2) := Nat.and_div_two
    have d2 : (a ^^^ (a &&& b)) / 2 = (a / 2) ^^^ ((a &&& b) / 2) := Nat.xor_div_two
    have m1 : (a &&& b) % 2 = (a % 2) &&& (b % 2) := by have := @Nat.and_mod_two_pow a b 1; simpa using this
    have m2 : (a ^^^ (a &&& b)) % 2 = (a % 2) ^^^ ((a &&& b) % 2) := by have := @Nat.xor_mod_two_pow a (a &&& b) 1; simpa using this
    rw [d1] at d2
    rw [m1] at m2
    have ha := Nat.mod_two_eq_zero_or_one a
    have hb := Nat.mod_two_eq_zero_or_one b
    have key : (a ^^^ (a &&& b)) % 2 + (a &&& b) % 2 = a % 2 := by
      rw [m1, m2]
      rcases ha with ha | ha <;> rcases hb with hb | hb <;> rw [ha, hb] <;> rfl
    omega
section
variable {X : Cx}
theorem op_andInv : OpR X (binaryOp .BitAnd) (fun x y H Q => ∃ a b : Nat, x = .int (a : Int) ∧ y = .int (Builtin.bitNot (b : Int)) ∧ Q (.int ((a ^^^ (a &&& b) : Nat) : Int)) H) :=
  OpR.imp' op_and fun x y H Q ⟨a, b, h1, h2, q⟩ => ⟨_, _, h1, h2, by
    have nb : ¬ 0 ≤ Builtin.bitNot (b : Int) := by show ¬ 0 ≤ -(b : Int) - 1; omega
    have nn : Builtin.bitNot (Builtin.bitNot (b : Int)) = (b : Int) := by show -(-(b : Int) - 1) - 1 = _; omega
    show Q (.int (Builtin.bitAnd (a : Int) (Builtin.bitNot (b : Int)))) H
    rw [bitAnd_pn (by omega) nb, nn, Int.toNat_natCast, Int.toNat_natCast]
    have := and_rest a a b (Nat.le_refl _)
    rw [show (a : Int) - ((a &&& b : Nat) : Int) = ((a ^^^ (a &&& b) : Nat) : Int) by omega]
    exact q⟩
theorem op_isB : OpR X (compareOp .Is) (fun x y H Q => ∃ c d, x = .bl c ∧ y = .bl d ∧ Q (.bl (c == d)) H) := by
  intro pins s σ H x y v u Q I rx ry h
  obtain ⟨c, d, rfl, rfl, q⟩ := h
  cases rx
  cases ry
  exact is_bool ⟨.bl _, H, I, rfl, q⟩
end
end Z
namespace Z
open PySem PySem.Spec PyProof.Rows L2
/-! ### a weaker wish, behind arguments -/
def tMono (t : TA) : TA := fun σ H R => ∃ R' : List V → Hp → Prop, t σ H R' ∧ ∀ vs H', R' vs H' → R vs H'
theorem pa_mono {X : Cx} {es : List Expr} {t : TA} (h : PA X es t) : PA X es (tMono t) := ⟨fun pos pins s σ H R I hR => by
  obtain ⟨R', h1, h2⟩ := hR
  exact thn (h.run pos pins s σ H R' I h1) fun us s1 ⟨vs, H1, I1, r, q⟩ => ⟨vs, H1, I1, r, h2 _ _ q⟩⟩
/-! ### own errors with one field -/
/-- what __init__ promises: the field is set, in a new dict -/
def spErr (C : Addr) (f : Str) : Sp := fun vs H Q _ => ∃ (a : Addr) (v : V), vs = [.ref a, v] ∧ H a = some (exo a C none) ∧
  ∀ dx, H dx = none → dx ≠ a → Q .non (upd (upd H dx (exd dx [(f, v)])) a (exo a C (some dx)))
/-- the class as the top has left it; its __init__ at fI -/
structure ErrAt (K : PySem.W.Frag) (mg : Str → Option Value) (x q f : Str) (st : Stmt) (C : Addr) : Prop where
  gC : mg x = some (.ref C)
  ox : OexC K C
  xf : XfC K C
  no : PySem.W.findIn K (.ref C) f = some none
  te : PySem.W.exmOne K (.ref C) (.ref C) = some true
  fn : ∃ (fI : Addr) (fd : FuncData), Fun K "__init__" q st fI fd ∧ PySem.W.findIn K (.ref C) "__init__" = some (some (.ref fI)) ∧ PySem.W.typeIn K (.ref fI) = some (.type "function") ∧ Binds K fd ["self", f] []
/-- the same, with what its __init__ keeps -/
def PrErr (P : Program) (w : World) (K : PySem.W.Frag) (mg : Str → Option Value) (base : Heap) (x f : Str) (C : Addr) : Prop :=
  mg x = some (.ref C) ∧ OexC K C ∧ ∃ (fI : Addr) (fd : FuncData), PySem.W.findIn K (.ref C) "__init__" = some (some (.ref fI)) ∧ PySem.W.typeIn K (.ref fI) = some (.type "function") ∧ Binds K fd ["self", f] [] ∧ FnOk P w K mg base CX0 1 fI fd ["self", f] (spErr C f)
/-- an error of the class at C flies: its own dict, new, holds f = v; all else is as it was -/
def Bad (C : Addr) (f : Str) (v : V) (H : Hp) (E : XK) : Prop := ∀ d H', Same H H' → H d = none → H' d = some (.xd [(f, v)]) → E (.ref C) (some d) H'
theorem Bad.imp {C : Addr} {f : Str} {v : V} {H : Hp} {E E' : XK} (h : Bad C f v H E) (k : ∀ cls d H', E cls d H' → E' cls d H') : Bad C f v H E' := fun d H' s n e => k _ _ _ (h d H' s n e)
theorem Bad.later {C : Addr} {f : Str} {v : V} {H H1 : Hp} {E : XK} (s : Same H H1) (h : Bad C f v H E) : Bad C f v H1 E := fun d H' s1 n e => h d H' (fun b o q => s1 b o (s b o q)) (by
  cases q : H d with
  | none => rfl
  | some o => rw [s _ _ q] at n; cases n) e
def tErr (C : Addr) (f : Str) (ta : TA) : L2.St → Hp → XK → Prop := fun σ H Q => ta σ H fun vs H1 => ∃ v, vs = [v] ∧ Bad C f v H1 Q
section
variable {X : Cx} {C : Addr} {x f : Str} {e : Expr} {es : List Expr} {ta : TA} {p pos pos2 : Pos} {W : WX}
theorem pmk_err (E : PrErr X.prog X.w X.K X.mg X.base x f C) (hr : Room 2 X.A) (ha : PA X (e :: es) ta) (hg : Gl X x := by rfl)
    (hdb : (x == ("__debug__" : Str)) = false := by decide) (he : starEach (e :: es) X.env = (false, eval e X.env) :: starEach es X.env := by rfl) (hpl : (backTo pos (starEach es X.env)).any (·.1) = false := by rfl) :
    PMk X (.Call (.Name x p) (e :: es) [] pos) (tErr C f ta) := by
  obtain ⟨gC, ox, fI, fd, iC, tI, bd, F⟩ := E
  intro pins s σ H Q I h
  refine pmk_oex (k := 1) (dvs := []) (ds := []) ox iC tI F hr bd .nil pass0 hg gC (pa_mono ha) hdb he hpl pins s σ H Q I ⟨_, h, fun vs H1 hv => ?_⟩
  obtain ⟨v, rfl, hb⟩ := hv
  refine ⟨by show 1 ≤ 1000; decide, fun a ha => ⟨a, v, rfl, upd_same, fun dx hdx hne => ⟨rfl, dx, [(f, v)], upd_same, ?_, ?_, ?_⟩⟩⟩
  · rw [upd_ne hne, upd_same]
  · rw [upd_ne hne] at hdx
    exact hdx
  · rw [upd_ne hne] at hdx
    refine hb dx _ (fun b o q => ?_) hdx upd_same
    have n1 : b ≠ dx := ne_of_none q hdx
    have n2 : b ≠ a := ne_of_none q ha
    rw [upd_ne n1, del_ne n2, upd_ne n2, upd_ne n1, upd_ne n2]
    exact q
/-- raise C(e) -/
def tRaise (W : WX) (C : Addr) (f : Str) (ta : TA) : TS := fun _ σ H => tErr C f ta σ H fun cls d H' => W cls d σ H'
theorem ps_raiseE (hc : X.calm = true) (tk : Takes X W) (E : PrErr X.prog X.w X.K X.mg X.base x f C) (hr : Room 2 X.A) (ha : PA X (e :: es) ta) (hg : Gl X x := by rfl)
    (hdb : (x == ("__debug__" : Str)) = false := by decide) (he : starEach (e :: es) X.env = (false, eval e X.env) :: starEach es X.env := by rfl) (hpl : (backTo pos (starEach es X.env)).any (·.1) = false := by rfl) :
    PS X (.Raise (some (.Call (.Name x p) (e :: es) [] pos)) none pos2) (tRaise W C f ta) := ps_raise hc tk (pmk_err E hr ha hg hdb he hpl)
end
/-! ### try, several clauses, each with a name -/
/-- a clause: its class, the slot of its name, its suite -/
abbrev Clause := Value × Nat × (Addr → Value → Option Addr → TS)
def endsAs (D : Ends) (i : Nat) : Ends := { nx := fun σ' H' => D.nx (σ'.set i none) H', rt := D.rt, bk := fun σ' H' => D.bk (σ'.set i none) H', ct := fun σ' H' => D.ct (σ'.set i none) H' }
def wEach (K : PySem.W.Frag) (Wout : WX) (D : Ends) : List Clause → WX
  | [] => Wout
  | c :: r => fun cls d σ H => (PySem.W.exmOne K cls c.1 = some true ∧ ∀ a, H a = none → c.2.2 a cls d (endsAs D c.2.1) (σ.set c.2.1 (some (.ref a))) H) ∨ (PySem.W.exmOne K cls c.1 = some false ∧ wEach K Wout D r cls d σ H)
inductive Each (X : Cx) : List ExceptHandler → List Clause → Prop
  | nil : Each X [] []
  | cons {x n : Str} {c : Value} {i : Nat} {ts : Addr → Value → Option Addr → TS} {b₀ : Stmt} {suite : List Stmt} {np pos' : Pos} {hds : List ExceptHandler} {l : List Clause} (hi : X.N[i]? = some n) (hln : X.env.kindOf n = some .local) (hc : Names X x c)
      (hsu : ∀ (a : Addr) (oe : Obj) (cls : Value) (d : Option Addr) (pn : List (Addr × Obj)), Zc cls d oe → (∃ vs, oe.data = .fields vs) → PSs (X.suite a ((a, oe) :: pn)) (b₀ :: suite) (ts a cls d)) (r : Each X hds l) :
      Each X (.ExceptHandler (some (.Name x np)) (some n) (b₀ :: suite) pos' :: hds) ((c, i, ts) :: l)
section
variable {X : Cx} {pins : List (Addr × Obj)} {σ : L2.St} {H : Hp} {a : Addr} {cls : Value} {d : Option Addr} {B : Heap} {sI : Shared} {Wout : WX} {D : Ends}
/-- the exception, held by the frame that looks at it, is offered to the clauses -/
theorem offered (hs : X.stack = X.env :: X.outer) (hf : X.env.frame = some X.env.locals) (hN : X.N.Nodup) (tk : Takes X Wout) (nb : ∀ b o, sI.heap.get? b = some o → b ∉ frs X.stack → B.get? b = some o) (J : Inv X pins σ H sI) (na : H a = none) :
    ∀ {hds : List ExceptHandler} {l : List Clause} {s : Shared}, Each X hds l → HandSPX.FlyingZ B (X.env :: X.outer) a (Zc cls d) s.heap → sI.heap.UpToSlots s.heap → s.os = sI.os → AllBare s.gens → wEach X.K Wout D l cls d σ H →
      wpAny (model X.prog X.w) X.A (handleBy (.ref a) X.env hds) (SP X pins D) X.xe s := by
  intro hds l s hk
  induction hk with
  | nil =>
    intro fl up os ag w
    obtain ⟨_, _, _, oe, vs, T, oT, ts, he, hz, hd, h1, hr⟩ := id fl
    refine wpAny_handleBy_nil ?_
    unfold PySem.passOn
    refine wpAny_bind (wpAny_field he hd h1 ?_)
    rw [if_neg (by simp : ¬ ((Value.ref T == Value.none) = true))]
    have out : wpAny (model X.prog X.w) X.A (setFlight (.ref a) X.env.frame) (fun _ s2 => wpAny (model X.prog X.w) X.A (throw (.ref a) : Sem Flow) (SP X pins D) X.xe s2) X.xe s := by
      rw [hf]
      obtain ⟨hp, g, dr, t, o⟩ := s
      refine HandSPX.setFlight_upZ fl fun h4 hh up4 => wpAny_throw (tk _ _ ⟨a, B, sI, pins, σ, H, cls, d, rfl, J, nb, up.trans up4, .inr (.inr (by rw [hs]; exact hh)), na, os, ag, w⟩)
    first
      | exact wpAny_bind (wpAny_pure (wpAny_bind out))
      | exact wpAny_bind out
  | @cons x n c i ts b₀ suite np pos' hds2 l2 hi hln hc hsu r ih =>
    intro fl up os ag w
    obtain ⟨hp, g, dr, t, o⟩ := s
    have J0 : Inv X pins σ H ⟨hp, g, dr, t, o⟩ := J.landed nb fl.1 up os ag
    -- where the exception stands: no frame
    have apart : ∀ {h : Heap}, HandSPX.FlyingZ B (X.env :: X.outer) a (Zc cls d) h → a ≠ X.env.locals ∧ a ∉ X.fs := fun {h} f => by
      obtain ⟨oe, vs, he, _, hd⟩ := f.there
      have nf : a ∉ frs (X.env :: X.outer) := fun hm => by
        obtain ⟨_, o', e', hn⟩ := f.2.2.1.mem hm
        rw [he] at e'
        cases e'
        exact hn _ hd
      refine ⟨fun z => nf (List.mem_filterMap.mpr ⟨X.env, List.mem_cons_self, by rw [hf, z]⟩), fun hm => ?_⟩
      obtain ⟨e, he', q⟩ := List.mem_filterMap.mp hm
      exact nf (List.mem_filterMap.mpr ⟨e, List.mem_cons_of_mem _ he', q⟩)
    obtain ⟨oe, vs, he, hz, hd⟩ := fl.there
    obtain ⟨nL, nF⟩ := apart fl
    have S0 := J0.suite he hd na nL nF
    refine wpAny_handleBy_cons (codeAny_handlers_test ?_) (by intro q; cases q)
    have LT : PySem.W.Looks (model X.prog X.w) hp (typeOf (.ref a)) cls := fun _ _ _ _ k q => wpAny_typeOf_ref (k _ _ he) (by rw [hz.1]; exact q)
    have named : ∀ {Q : Value → Shared → Prop} {E : Value → Shared → Prop}, Q c ⟨hp, g, dr, t, o⟩ → wpAny (model X.prog X.w) (X.A.mark (some (.ref a))) (eval (.Name x np) X.env) Q E ⟨hp, g, dr, t, o⟩ := fun {Q E} q => by
      obtain ⟨hg, hdb, hm | ⟨hm, hv, hnn⟩⟩ := hc
      · exact ld_glob (X := X.suite a ((a, oe) :: (X.pn ++ pins))) S0 hg hm q hdb
      · exact ld_blt (X := X.suite a ((a, oe) :: (X.pn ++ pins))) S0 hg hm hv q hnn hdb
    rcases w with ⟨hb, hyes⟩ | ⟨hb, hno⟩
    · have LM := PySem.W.exm_one (M := model X.prog X.w) J0.kIn LT hb
      refine named (LM.here (codeAny_handlers_suite_as (HandSPX.lands_againZ fl fun h2 fl2 up2 => ?_)))
      have J2 : Inv X pins σ H ⟨h2, g, dr, t, o⟩ := J.landed nb fl2.1 (up.trans up2) os ag
      obtain ⟨oe2, vs2, he2, hz2, hd2⟩ := fl2.there
      have S2 := J2.suite he2 hd2 na nL nF
      refine store_ok (X := X.suite a ((a, oe2) :: (X.pn ++ pins))) (v := .ref a) S2 hN hi (.inl hln) rfl (fun s5 S5 => ?_) (.inr hln)
      refine wpAny_mono ((hsu a oe2 cls d (X.pn ++ pins) hz2 ⟨_, hd2⟩).run [] s5 _ H _ S5 (hyes a na)) (fun f s6 q6 => ?_) (fun _ _ z => z.elim)
      have gone : ∀ {σ6 : L2.St} {H6 : Hp} {Q : Shared → Prop}, Inv (X.suite a ((a, oe2) :: (X.pn ++ pins))) [] σ6 H6 s6 → (∀ s7, Inv X pins (σ6.set i none) H6 s7 → Q s7) →
          wpAny (model X.prog X.w) X.A (do bindName X.env n .none; unbindBehindTheSuite X.env n pos') (fun _ s7 => Q s7) X.xe s6 := fun S6 k => gone_ok (S6.unsuite J2.ok) hN hi hln k
      match f, q6 with
      | .next, ⟨_, _, S6, q⟩ => exact gone S6 fun s7 J7 => ⟨_, _, J7, q⟩
      | .brk, ⟨_, _, S6, q⟩ => exact gone S6 fun s7 J7 => ⟨_, _, J7, q⟩
      | .cont, ⟨_, _, S6, q⟩ => exact gone S6 fun s7 J7 => ⟨_, _, J7, q⟩
      | .ret u, ⟨_, _, _, S6, rv, q⟩ => exact gone S6 fun s7 J7 => ⟨_, _, _, J7, rv, q⟩
    · have LM := PySem.W.exm_one (M := model X.prog X.w) J0.kIn LT hb
      refine named (LM.here ?_)
      show wpAny _ X.A (handleBy (.ref a) X.env hds2) _ _ _
      exact ih fl up os ag hno
end
section
variable {X : Cx} {body : List Stmt} {h₀ : ExceptHandler} {hds : List ExceptHandler} {l : List Clause} {pos : Pos} {tb : WX → TS} {Wout : WX}
/-- try: body / except x as n: .. / except y as m: .. -/
theorem ps_try_each (hs : X.stack = X.env :: X.outer) (hf : X.env.frame = some X.env.locals) (hN : X.N.Nodup) (tk : Takes X Wout)
    (hb : ∀ (W : WX) (pn : List (Addr × Obj)) (xe : Value → Shared → Prop), Takes (X.tr pn xe) W → PassesOwn (model X.prog X.w) X.A X.env xe → PSs (X.tr pn xe) body (tb W))
    (hh : Each X (h₀ :: hds) l) : PS X (.Try body (h₀ :: hds) [] [] pos) (fun D σ H => tb (wEach X.K Wout D l) D σ H) := by
  refine ⟨fun pins s σ H D I h => ?_⟩
  have ok := I.ok
  have hfr : X.A.frames = some (X.env :: X.outer) := by rw [ok.frames, hs]
  have run := fun (xe : Value → Shared → Prop) (tk' : Takes (X.tr (X.pn ++ pins) xe) (wEach X.K Wout D l)) (po : PassesOwn (model X.prog X.w) X.A X.env xe) => (hb _ (X.pn ++ pins) xe tk' po).run [] s σ H D (I.toTry _) h
  refine wpAny_Try_except (wpAny_mono (run (fun e s₁ => wpAny (model X.prog X.w) X.A (noteFrame e X.env) (fun _ s₂ => wpAny (model X.prog X.w) X.A (setFlight e none) (fun _ s₃ => wpAny (model X.prog X.w) X.A (handleBy e X.env (h₀ :: hds)) (SP X pins D) X.xe s₃) X.xe s₂) X.xe s₁)
    (fun u s' air => ?_) PassesOwn.looking) (fun f s1 q => ?_) fun e s1 he => he)
  · obtain ⟨a, B, sI, pins', σ', H', cls, d, rfl, J', nb, up, sky, na, os, ag, w⟩ := air
    have sky' : Sky B (X.env :: X.outer) a (Zc cls d) X.env.locals s'.heap := by rw [← hs]; exact sky
    exact Sky.land Zc.steady hfr hf sky' fun h3 fl3 up3 => offered (s := { s' with heap := h3 }) hs hf hN tk nb (J'.ofTry ok) na hh fl3 (up.trans up3) os ag w
  · match f, q with
    | .next, ⟨σ', H', J', q⟩ => exact wpAny_execs_nil ⟨σ', H', J'.ofTry ok, q⟩
    | .brk, ⟨σ', H', J', q⟩ => exact ⟨σ', H', J'.ofTry ok, q⟩
    | .cont, ⟨σ', H', J', q⟩ => exact ⟨σ', H', J'.ofTry ok, q⟩
    | .ret u, ⟨v, σ', H', J', rv, q⟩ => exact ⟨v, σ', H', J'.ofTry ok, rv, q⟩
end
end Z
namespace Z
open PySem PySem.Spec PyProof.Rows L2
/-! ### repr of any value -/
def kD : Key → PyData
  | .inl i => .int i
  | .inr x => .str x
inductive Sh (K : PySem.W.Frag) (H : Hp) : V → PyData → Prop
  | of {v : V} {d : PyData} (h : Dp K H v d) (nd : d.hasDict = false) : Sh K H v d
  | emp {a : Addr} (h : H a = some (.dK [])) : Sh K H (.ref a) (.dict [])
  | one {a : Addr} {k : Key} {i : Int} (h : H a = some (.dK [(k, .int i)])) : Sh K H (.ref a) (.dict [(kD k, .int i)])
def rShow (K : PySem.W.Frag) : List V → Hp → VK → Prop := fun xs H Q => ∃ (v : V) (d : PyData), xs = [v] ∧ Sh K H v d ∧ d.showable = true ∧ d.depth ≤ 60 ∧ d.shown.length ≤ sizeLine ∧ Q (.str d.shown) H
section
variable {X : Cx}
theorem call_show (hgd : X.A.guards = some []) (hu : X.A.units + 64 < cLine) : CallR X (.builtin "repr") (rShow X.K) := by
  intro pins s σ H xs us Q I r h
  obtain ⟨v, d, ex, hd, sh, dp, hz, q⟩ := h
  subst ex
  obtain ⟨u, eu, rx⟩ := vals1 r
  subst eu
  have shown : ∀ {a : Addr} {as : List Addr}, Reads s.heap (.ref a) d as → (d.hasDict = true → sysModules ∉ as) → wpAny (model X.prog X.w) X.A (call (.builtin "repr") [.ref a]) (EP X pins σ Q) X.xe s := fun rd nm =>
    repr_of_reads' rd sh nm hgd (by omega) (fun _ _ e => e) (fun h' t tk hk => ⟨.str d.shown, H, I.kept (t' := tk) hk, ⟨t, rfl⟩, q⟩) hz
  have isDict : ∀ {a : Addr} {kvs : List (Key × V)}, H a = some (.dK kvs) → (a == sysModules) = false ∧ ∃ vs, KV kvs vs ∧ s.heap.DictOf (mixKind X.prog X.w) a vs := fun e => (dk_of I.hok e).2
  cases hd with
  | of h nd =>
    have hr : ∀ a, v = .ref a → ∃ as, Reads s.heap (.ref a) d as := fun a e => by
      subst e
      obtain ⟨as, r2⟩ := Dp.reads I d _ _ h rx
      cases rx
      exact ⟨as, r2⟩
    cases h with
    | non =>
      cases rx
      simp only [PyData.shown] at q
      exact PySem.P.repr_of_none ⟨.str _, H, I.tok _, ⟨_, rfl⟩, q⟩
    | bl b =>
      cases rx
      simp only [PyData.shown] at q
      exact PySem.P.repr_of_bool ⟨.str _, H, I.tok _, ⟨_, rfl⟩, q⟩
    | int i =>
      obtain ⟨t, rfl⟩ := rx
      simp only [PyData.shown] at q
      exact PySem.P.repr_of_int (by simpa [PyData.showable] using sh) ⟨.str _, H, I.tok _, ⟨_, rfl⟩, q⟩
    | str x =>
      obtain ⟨t, rfl⟩ := rx
      simp only [PyData.shown] at q hz
      exact PySem.P.repr_of_str ⟨.str _, H, I.tok _, ⟨_, rfl⟩, q⟩ hz
    | lst hs ha =>
      cases rx
      obtain ⟨as, r2⟩ := hr _ rfl
      exact shown r2 fun z => by rw [nd] at z; cases z
    | tup hs ha =>
      cases rx
      obtain ⟨as, r2⟩ := hr _ rfl
      exact shown r2 fun z => by rw [nd] at z; cases z
  | @emp a h =>
    cases rx
    obtain ⟨hne, vs, kv, o, es, ep, ho, hx, hdat, _, pr, _⟩ := isDict h
    cases kv
    have e0 : es.toList = [] := by
      cases he : es.toList with
      | nil => rfl
      | cons x l => rw [he] at pr; cases pr
    have rd : Reads s.heap (.ref a) (.dict []) (a :: [] ++ []) := Reads.dict ho hx.1 hdat (by rw [e0]; exact .nil) (by rw [e0]; exact .nil)
    exact shown rd fun _ hm => by
      simp at hm
      rw [hm] at hne
      simp at hne
  | @one a k i h =>
    cases rx
    obtain ⟨hne, vs, kv, o, es, ep, ho, hx, hdat, _, pr, _⟩ := isDict h
    cases kv with
    | cons h1 h2 =>
      cases h2
      obtain ⟨e1, rv⟩ := h1
      obtain ⟨t, rv⟩ := rv
      rename_i q' _
      obtain ⟨k', v'⟩ := q'
      dsimp only at e1 rv
      subst e1 rv
      generalize hl : es.toList = l at pr
      cases pr with
      | cons hk hv hr =>
        cases hr
        rename_i e
        have rk : Reads s.heap e.key (kD k) [] := by
          rcases keyIs_shape hk with ⟨j, u, rfl, e2⟩ | ⟨y, u, rfl, e2⟩
          · rw [e2]; exact .int j u
          · rw [e2]; exact .str y u
        have rv : Reads s.heap e.val (.int i) [] := by rw [hv]; exact .int i t
        have rd : Reads s.heap (.ref a) (.dict [(kD k, .int i)]) (a :: ([] ++ []) ++ ([] ++ [])) := Reads.dict ho hx.1 hdat (by rw [hl]; exact .cons rk .nil) (by rw [hl]; exact .cons rv .nil)
        exact shown rd fun _ hm => by
          simp at hm
          rw [hm] at hne
          simp at hne
end
/-! ### isinstance of the error that a suite holds -/
structure IsExc (K : PySem.W.Frag) (C : Addr) : Prop where
  ok : (PySem.W.clsIn K C).isSome = true
  xf : XfC K C
  ha : PySem.W.findIn K (.ref C) "__class__" = some (some (.builtin "object.__class__"))
  hn : PySem.W.specialIn K (.builtin "object.__class__") "__get__" = some (some (.builtin "getset_descriptor.__get__"))
  ht : PySem.W.takesIn K (.builtin "object.__class__") = some true
  hm : PySem.W.mroIn K C (.type "object") = some true
def rIsX (K : PySem.W.Frag) (D a : Addr) (cls : Value) (d : Option Addr) : List V → Hp → VK → Prop := fun xs H Q => ∃ (c : V) (cv : Value) (dd : Addr) (fs : List (Str × V)) (b : Bool), xs = [.ref a, c] ∧ (∀ u, RelV c u → u = cv) ∧ cls = .ref D ∧ d = some dd ∧ H dd = some (.xd fs) ∧ PySem.W.kitOne K (.ref D) cv = some b ∧ Q (.bl b) H
theorem call_isX {X : Cx} {a D : Addr} {cls : Value} {d : Option Addr} {oe : Obj} {pn : List (Addr × Obj)} (C : IsExc X.K D) (hz : Zc cls d oe) (hf : ∃ vs, oe.data = .fields vs) : CallR (X.suite a ((a, oe) :: pn)) (.builtin "isinstance") (rIsX X.K D a cls d) := by
  intro pins s σ H xs us Q I r h
  obtain ⟨c, cv, dd, fs, b, rfl, hcv, ec, ed, hx, e, q⟩ := h
  subst ec ed
  obtain ⟨hga, _⟩ := I.pin (a, oe) (List.mem_append_left _ List.mem_cons_self)
  obtain ⟨vs, hv⟩ := hf
  have ob : ObjOk X.prog X.w H s.heap dd (.xd fs) := I.hok dd _ hx
  obtain ⟨mA, hns, _⟩ := ob
  obtain ⟨od, ho, _⟩ := lookIn_ns hns
  have J : PySem.W.InstAt s.heap a oe D (some od) := ⟨hga, hz.1, by unfold PySem.W.notCls; rw [hv] <;> rfl, by rw [hz.2]; exact ho⟩
  match us, r with
  | [_, u], .cons rx (.cons rt .nil) =>
    cases rx
    obtain rfl := hcv _ rt
    exact PySem.W.kia_one (PySem.W.kitx_exc C.ok C.xf.ga C.xf.gg C.xf.exC C.ha C.hn C.ht C.hm) I.kIn J e (fun z => nomatch z) fun tk => ⟨.bl b, H, I.kept (t' := tk) fun _ _ z => z, rfl, q⟩
end Z
/-! sorted of a tuple of pairs of ints; sorted of a dict whose keys are texts. -/
namespace Z
open PySem PySem.Spec L2 PyProof.Rows
theorem refs_vals {α : Type} (f : α → Addr) : ∀ {L : List α} {its : List Value}, Vals (L.map fun z => V.ref (f z)) its → its = L.map fun z => Value.ref (f z)
  | [], _, .nil => rfl
  | z :: L, its, r => by
    cases r with
    | cons h t =>
      rename_i u us
      obtain rfl : u = Value.ref (f z) := h
      rw [refs_vals f t, List.map_cons]
/-- the pair of ints at a value's address -/
def kOf (h : Heap) : Value → Int × Int
  | .ref a => match h.get? a with
    | some o => match o.data with
      | .seq xs _ => match xs.toList with
        | [.int x _, .int y _] => (x, y)
        | _ => (0, 0)
      | _ => (0, 0)
    | none => (0, 0)
  | _ => (0, 0)
theorem kOf_of {h : Heap} {v : Value} {x y : Int} (p : Srt.IsPair h v x y) : kOf h v = (x, y) := by
  obtain ⟨a, o, t, u, n, rfl, ho, hc, hd⟩ := p
  show (match h.get? a with
    | some o => match o.data with
      | .seq xs _ => match xs.toList with
        | [.int x _, .int y _] => (x, y)
        | _ => (0, 0)
      | _ => (0, 0)
    | none => (0, 0)) = (x, y)
  rw [ho]
  show (match o.data with
      | .seq xs _ => match xs.toList with
        | [.int x _, .int y _] => (x, y)
        | _ => (0, 0)
      | _ => (0, 0)) = (x, y)
  rw [hd]
section
variable {X : Cx}
def rSortedTP (K : PySem.W.Frag) : List V → Hp → VK → Prop := fun vs H Q => ∃ (a : Addr) (L : List (Addr × (Int × Int))), vs = [V.ref a] ∧ SqT K H a (L.map fun z => V.ref z.1) ∧ (∀ z ∈ L, SqT K H z.1 [.int z.2.1, .int z.2.2]) ∧
  ∀ (L' : List (Addr × (Int × Int))) (p : Addr), L'.Perm L → L'.Pairwise (fun z w => SrtO.lexB w.2 z.2 = false) → H p = none → Q (.ref p) (upd H p (.lst (L'.map fun z => V.ref z.1)))
theorem cr_sortedTP : CallR X (.builtin "sorted") (rSortedTP X.K) := by
  intro pins s σ H vs us Q I r q
  obtain ⟨a, L, rfl, hs, hp, q⟩ := q
  obtain ⟨its, rv, ⟨o, ho, hc, n, hd⟩, hz⟩ := I.tuple hs
  obtain rfl := refs_vals _ rv
  rw [Vals.ref1 r]
  have hP : ∀ z ∈ L, Srt.IsPair s.heap (.ref z.1) z.2.1 z.2.2 := fun z m => by
    obtain ⟨js, rj, ⟨oz, h1, h2, n2, h3⟩, _⟩ := I.tuple (hp z m)
    obtain ⟨u1, u2, rfl, ri, rk⟩ := vals2 rj
    obtain ⟨t1, rfl⟩ := ri
    obtain ⟨t2, rfl⟩ := rk
    exact ⟨_, oz, t1, t2, n2, rfl, h1, h2, h3⟩
  have hk : ∀ z ∈ L, kOf s.heap (.ref z.1) = z.2 := fun z m => kOf_of (hP z m)
  have hz' : (L.map fun z => Value.ref z.1).length ≤ sizeLine := by
    rw [List.length_map] at hz ⊢
    exact hz
  refine
    Calls.call_function_entry PyProof.Rows.kind_sorted
      PyProof.Rows.plain_sorted PyProof.Rows.entry_sorted
      (PyProof.Rows.args_sorted1 _) ?_
  unfold Builtin.«sorted»
  refine wpAny_bind (m := checkCount "sorted" 1 1 _)
    (wpAny_pure ?_)
  refine wpAny_bind (wpAny_collect_seq a (.inr rfl) ho hc hd (fun h' kp => ?_) (by rw [List.size_toArray]; exact hz'))
  refine wpAny_bind (wpAny_newList ?_ hz')
  have oL : (h'.push (seqObj "list" (L.map fun z => Value.ref z.1).toArray 0)).get? h'.objs.size = some (seqObj "list" (L.map fun z => Value.ref z.1).toArray 0) := Heap.get?_push_size _ rfl
  have kp2 : ∀ b u, s.heap.get? b = some u → (h'.push (seqObj "list" (L.map fun z => Value.ref z.1).toArray 0)).get? b = some u := fun b u e => Heap.get?_push_of_some _ (kp b u e)
  have I1 : L2.Inv X pins σ H { s with heap := h', toks := s.toks } := I.kept kp
  show wpAny _ _ _ _ _ { s with heap := h'.push (seqObj "list" (L.map fun z => Value.ref z.1).toArray 0) }
  have pairs : ∀ v ∈ L.map (fun z => Value.ref z.1), Srt.IsPair (h'.push (seqObj "list" (L.map fun z => Value.ref z.1).toArray 0)) v (kOf s.heap v).1 (kOf s.heap v).2 := fun v m => by
    obtain ⟨z, mz, rfl⟩ := List.mem_map.mp m
    rw [hk z mz]
    exact (hP z mz).keeps fun b u e _ => kp2 b u e
  refine wpAny_bind (wpAny_holding (wpAny_call_entry PyProof.Rows.slot_list_sort ⟨_, oL, rfl⟩
    PyProof.Rows.entry_list_sort
    (SrtO.list_sort_ord (SrtO.swo_lex (kOf s.heap)) oL hz' (fun h2 => SrtO.pairs_sortableO (by omega) pairs fun u e c => ?_) fun out g1 g2 => ⟨_, rfl, ?_⟩)
    (PyProof.Rows.args_list_sort _)))
  · rw [oL] at e
    cases e
    exact absurd (Value.type.inj c) (by decide)
  obtain ⟨L', g3, g4⟩ := perm_lift (fun z : Addr × (Int × Int) => Value.ref z.1) g2.perm L rfl
  subst g4
  obtain ⟨ep, eo⟩ := PyProof.Rows.sortedHeap_at (vs := L.map fun z => Value.ref z.1) (out := (L'.map fun z => Value.ref z.1).toArray) oL
  have hl' : (L'.map fun z => V.ref z.1).length ≤ sizeLine := by
    rw [List.length_map, g3.length_eq]
    rw [List.length_map] at hz'
    exact hz'
  have rl : Vals (L'.map fun z => V.ref z.1) (L'.map fun z => Value.ref z.1) := vals_maps (fun z : Addr × (Int × Int) => V.ref z.1) (fun z => Value.ref z.1) L' fun z _ => rfl
  refine wpAny_pure ⟨_, rfl, .ref h'.objs.size, upd H h'.objs.size (.lst (L'.map fun z => V.ref z.1)), I1.laid (t' := s.toks) (fun b u e => ?_) (Nat.le_refl _)
    (show ObjOk X.prog X.w _ _ _ (.lst (L'.map fun z => V.ref z.1)) from ⟨hl', _, ep, rl, eo⟩), rfl, q L' _ g3 ?_ (I1.hok.fresh (Nat.le_refl _))⟩
  · have hb : b < h'.objs.size := Heap.lt_size e
    rw [PyProof.Rows.sortedHeap_old (Nat.ne_of_lt hb) (by
      rw [size_push']
      exact Nat.lt_succ_of_lt hb)]
    exact Heap.get?_push_of_some _ e
  · have g5 := List.pairwise_map.mp g1
    refine g5.imp_of_mem fun {z w} mz mw e => ?_
    dsimp only at e
    rw [hk w (g3.mem_iff.mp mw), hk z (g3.mem_iff.mp mz)] at e
    exact e
/-- sorted(d), d with fewer than 64 keys, all texts -/
def rSortedDS : List V → Hp → VK → Prop := fun xs H Q => ∃ (a : Addr) (kvs : List (Key × V)) (ks : List Str), xs = [.ref a] ∧ Rd H a (.dK kvs) ∧ kvs.map (·.1) = ks.map Sum.inr ∧ ks.length < 64 ∧
  ∀ (ys : List Str) (p : Addr), ys.Perm ks → sortedS ys = true → H p = none → Q (.ref p) (upd H p (.lst (ys.map V.str)))
theorem cr_sortedDS (hcalm : X.calm = true) : CallR X (.builtin "sorted") rSortedDS := by
  intro pins s σ H xs us Q I r q
  obtain ⟨a, kvs, ks, rfl, hd, hks, h64, q⟩ := q
  rw [Vals.ref1 r]
  obtain ⟨z, lo, vs, rel, dd⟩ := dk_rd I.hok hd
  obtain ⟨ep, hat⟩ := dd.dictAt
  have keys : vs.map (·.1) = ks.map Sum.inr := by rw [← hks]; exact rel.keys.symm
  have len : vs.length = ks.length := by simpa using congrArg List.length keys
  refine
    Calls.call_function_entry PyProof.Rows.kind_sorted
      PyProof.Rows.plain_sorted PyProof.Rows.entry_sorted
      (PyProof.Rows.args_sorted1 _) ?_
  unfold Builtin.«sorted»
  refine wpAny_bind (m := checkCount "sorted" 1 1 _)
    (wpAny_pure ?_)
  refine wpAny_bind (PySem.W.kdu_collect (A := X.A.in1)
    (PySem.W.kdl_dict (knd := mixKind X.prog X.w) (kvs := vs) (ep := ep) lo) (I.ok.hd hcalm) hat
    (by rw [len, sizeLine_eq]; omega) fun h' tk acc hk hacc => ?_)
  have al : acc.toList.length = ks.length := by rw [Array.length_toList, hacc.1, len]
  have rv : Vals (ks.map V.str) acc.toList := by
    have each : ∀ (j : Nat) (v : Value), acc.toList[j]? = some v → ∃ (x : Str) (t : Tok), ks[j]? = some x ∧ v = .str x t := fun j v e => by
      obtain ⟨k, x, e1, e2⟩ := hacc.2 j v (by rw [← Array.getElem?_toList]; exact e)
      have e3 : (ks.map (Sum.inr : Str → Key))[j]? = some k := by rw [← keys, List.getElem?_map, e1]; rfl
      rw [List.getElem?_map] at e3
      cases e4 : ks[j]? with
      | none => rw [e4] at e3; cases e3
      | some y =>
        rw [e4] at e3
        obtain rfl : Sum.inr y = k := Option.some.inj e3
        rcases keyIs_shape (show keyIs (Sum.inr y) v = true from e2) with ⟨i, t, ek, ev⟩ | ⟨w, t, ek, ev⟩
        · cases ek
        · cases ek
          exact ⟨y, t, rfl, ev⟩
    revert each al
    generalize acc.toList = vals
    intro al each
    clear hks h64 q keys len hacc
    induction ks generalizing vals with
    | nil =>
      cases vals with
      | nil => exact .nil
      | cons _ _ => cases al
    | cons k ks ih =>
      cases vals with
      | nil => cases al
      | cons v vals =>
        obtain ⟨x, t, e1, rfl⟩ := each 0 v rfl
        obtain rfl : k = x := Option.some.inj e1
        exact .cons ⟨t, rfl⟩ (ih vals (Nat.succ.inj al) fun j u e => each (j + 1) u e)
  have I1 : L2.Inv X pins σ H { s with heap := h', toks := tk } := I.kept hk
  have zl : (ks.map V.str).length ≤ sizeLine := by
    rw [List.length_map, sizeLine_eq]
    omega
  refine wpAny_bind (wpAny_newList ?_ (by rw [al, sizeLine_eq]; omega))
  have oL : (h'.push (seqObj "list" acc.toList.toArray 0)).get? h'.objs.size = some (seqObj "list" acc.toList.toArray 0) := Heap.get?_push_size _ rfl
  have hS := rv.strs
  show wpAny _ _ _ _ _ { s with heap := h'.push (seqObj "list" acc.toList.toArray 0), toks := tk }
  refine wpAny_bind (wpAny_holding (wpAny_call_entry slot_list_sort ⟨_, oL, rfl⟩ entry_list_sort
    (list_sort_treeK strKind_oneLt oL hS.keysOf (fun _ _ _ e => keyKind_strs (by
      rw [← e]
      exact hS)) (by rw [al]; exact h64) fun st' g1 g2 => ⟨_, rfl, ?_⟩)
    (args_list_sort _)))
  obtain ⟨ys, g3, g4, g5⟩ := sorted_out_str hS g1 g2
  obtain ⟨ep2, eo⟩ := sortedHeap_at (vs := acc.toList) (out := (arrOf st').map (·.2)) oL
  have yl : (ys.map V.str).length ≤ sizeLine := by
    rw [List.length_map, g4.length_eq, sizeLine_eq]
    omega
  refine wpAny_pure ⟨_, rfl, .ref h'.objs.size, upd H h'.objs.size (.lst (ys.map V.str)), I1.laid (t' := tk) (fun b u e => ?_) (Nat.le_refl _)
    (show ObjOk X.prog X.w _ _ _ (.lst (ys.map V.str)) from ⟨yl, ((arrOf st').map (·.2)).toList, ep2, vals_of_strs g3, by rw [Array.toArray_toList]; exact eo⟩), rfl, q ys _ g4 g5 (I1.hok.fresh (Nat.le_refl _))⟩
  have hb : b < h'.objs.size := Heap.lt_size e
  rw [sortedHeap_old (Nat.ne_of_lt hb) (by
    rw [size_push']
    exact Nat.lt_succ_of_lt hb)]
  exact Heap.get?_push_of_some _ e
end
end Z
/-! set(l) of a list of ints. -/
namespace Z
open PySem PySem.Spec L2 PyProof.Rows
abbrev freshSet (w : World) : Obj := Obj.mk (.type "set") none (.set #[] 0 (.fresh 0 0 (!w.params.followText "set-order"))) #[]
section
variable {P : Program} {w : World} {A : Around} {E : Value → Shared → Prop} {s : Shared}
/-- what set(l) leaves at the new set's address -/
def SetMade (w : World) (s : Shared) (ns : List Int) (Q : Value → Shared → Prop) : Prop := ∀ (h' : Heap) (tk c : Nat),
  SetR w h' s.heap.objs.size (fun j => decide (j ∈ ns)) c → c ≤ ns.length →
  (∀ b o, s.heap.get? b = some o → h'.get? b = some o) → Q (.ref s.heap.objs.size) { s with heap := h', toks := tk }
theorem set_of_list {l : Addr} {items : Array Value} (ns : List Int) {Q : Value → Shared → Prop} (hh : A.handled = none)
    (hl : s.heap.IsList l items) (hit : IntsAre items.toList ns) (hb : ns.length + 1 < scanBound) (h : SetMade w s ns Q) :
    wpAny (model P w) A (call (.type "set") [.ref l]) Q E s := by
  have size : items.size = ns.length := by
    rw [← Array.length_toList]
    exact IntsAre.length hit
  obtain ⟨cc, tt, hmro⟩ := F.called_set.mro
  have m1 := F.called_set.made
  have m2 := F.called_set.sub
  refine wpAny_call (codeAny_of_tree ?_)
  show wpAny _ _ (callAny (.type "set") _) _ _ _
  refine wpAny_pure ⟨Code.quiet_builtin _ (by decide +kernel),
    codeAny_builtin F.entry_type_call ?_⟩
  rw [Around.under_plain (weight_type_call_type "set" [.ref l] [])
    rfl]
  have m3 := F.called_set.notType
  have m4 := F.called_set.canCreate
  have m5 := F.typeCall_set_1 (.ref l)
  repeat
    (any_goals (first | assumption | wp_step))
  refine codeAny_mono (code_set_led1 (.ref l) (E := E)
    (Q₁ := fun obj s₁ => obj = .ref s.heap.objs.size ∧ s₁ = { s with heap := s.heap.push (freshSet w) }) ⟨rfl, rfl⟩)
    fun r s₁ hr => ?_
  cases r with
  | error e => exact hr
  | ok fl =>
    cases fl with
    | ret obj =>
      obtain ⟨rfl, rfl⟩ := hr
      have oS : (s.heap.push (freshSet w)).get? s.heap.objs.size = some (freshSet w) := Heap.get?_push_size _ rfl
      have tS : Shared.TypeIs { s with heap := s.heap.push (freshSet w) } (.ref s.heap.objs.size) "set" := ⟨_, oS, rfl⟩
      have i1 := F.called_set.init.lookup
      have i2 := F.called_set.init.bind (.ref s.heap.objs.size)
      repeat
        (any_goals (first | assumption | wp_step))
      refine codeAny_mono (codeAny_call_builtin
        (R := wants (fun r s₂ => r = .none ∧ ∃ h' tk c, s₂ = { s with heap := h', toks := tk } ∧
          SetR w h' s.heap.objs.size (fun j => decide (j ∈ ns)) c ∧ c ≤ ns.length ∧ ∀ b o, s.heap.get? b = some o → h'.get? b = some o) E)
        F.called_set.init.plain F.entry_set_init (check_set_init_1 tS ?_)) fun r₂ s₂ hr₂ => ?_
      · have lS : l < s.heap.objs.size := by
          obtain ⟨_, z, _⟩ := hl
          exact Heap.lt_size z
        obtain ⟨⟨ocls, odict, odata, oslots⟩, g1, g2, n2, g3⟩ := hl
        dsimp only at g2 g3
        subst g2
        subst g3
        have g4 : (s.heap.push (freshSet w)).get? l = some { cls := .type "list", dict := odict, data := .seq items n2, slots := oslots } := Heap.get?_push_of_some _ g1
        have b1 := F.sub_list_set
        have b2 := F.sub_list_frozenset
        have b3 : (Value.type "list" == Value.type "dict") = false := by decide
        have g5 : (s.heap.push (freshSet w)).IsList l items := ⟨_, g4, rfl, n2, rfl⟩
        unfold Builtin.«set.__init__» noKeywords Builtin.Frozenset.updateFrom
        generalize keep : pyIter = PI
        wp_walk
        subst keep
        refine wpAny_pyIter_list g5 ?_
        refine wpAny_bind (wpAny_runValue ?_)
        have h3 : A.in1.in1.in1.handled = none := by simp [hh]
        have e1 : (s.heap.push (freshSet w)).objs.size = s.heap.objs.size + 1 := Heap.size_push ..
        have ne1 : l ≠ (s.heap.push (freshSet w)).objs.size := by
          rw [e1]
          exact Nat.ne_of_lt (Nat.lt_succ_of_lt lS)
        have nf : s.heap.objs.size ∉ [(s.heap.push (freshSet w)).objs.size, l] := by
          rw [e1]
          simp only [List.mem_cons, List.not_mem_nil, or_false, not_or]
          exact ⟨Nat.ne_of_lt (Nat.lt_succ_self _), Nat.ne_of_gt lS⟩
        have each : ∀ (i : Nat) (v : Value), items[i]? = some v → ∃ k t, ns[i]? = some k ∧ v = .int k t := fun i v hv => by
          have hi : i < ns.length := by
            rw [← size]
            exact (Array.getElem?_eq_some_iff.mp hv).1
          obtain ⟨t, e⟩ := IntsAre.int_at hit i v (by rw [Array.getElem?_toList]; exact hv)
          refine ⟨ns[i], t, List.getElem?_eq_getElem hi, ?_⟩
          rw [e, List.getD_eq_getElem?_getD, List.getElem?_eq_getElem hi] <;> rfl
        refine set_update_ints ((Walks.list h3 _ l ne1 items).toS) s.heap.objs.size nf ns size hb each (items.size - 0) 0 _ (by omega) (Nat.zero_le _)
          ⟨⟨_, Heap.get?_push_size _ rfl, rfl, rfl⟩, g5.push _⟩ ?start ?done
        case start =>
          exact ⟨0, Nat.le_refl 0, setR_new_at (Heap.get?_push_of_some _ oS)⟩
        case done =>
          intro s' c' hm hc' hS'
          obtain ⟨h', gg, dd, tk', os'⟩ := s'
          obtain rfl : gg = s.gens := hm.gens
          obtain rfl : dd = s.drawn := hm.drawn
          obtain rfl : os' = s.os := hm.os
          show wpAny _ _ _ _ _ _
          refine wpAny_pure ?_
          show wpAny _ _ (ret Value.none) _ _ _
          refine wpAny_pure ⟨rfl, h', tk', c', rfl, hS', by rw [← size]; exact hc', fun b o e => ?_⟩
          have lt : b < s.heap.objs.size := Heap.lt_size e
          refine hm.heap b o ?_ (Heap.get?_push_of_some _ (Heap.get?_push_of_some _ e))
          rw [e1]
          simp only [List.mem_cons, List.not_mem_nil, or_false, not_or]
          exact ⟨Nat.ne_of_lt lt, Nat.ne_of_lt (Nat.lt_succ_of_lt lt)⟩
      · cases r₂ with
        | error e => exact hr₂
        | ok fl₂ =>
          cases fl₂ with
          | ret r =>
            obtain ⟨rfl, h', tk, c', rfl, hS', hc', hk'⟩ := hr₂
            repeat
              (any_goals (first | assumption | wp_step))
            exact h _ _ _ hS' hc' hk'
          | _ => exact hr₂.elim
    | _ => exact hr.elim
end
/-- set(l), l a list of fewer than 64 ints -/
def rSetL (K : PySem.W.Frag) (w : World) : List V → Hp → VK → Prop := fun xs H Q => ∃ (a : Addr) (ns : List Int), xs = [.ref a] ∧ SqL K H a (ns.map V.int) ∧ ns.length < 64 ∧
  ∀ p c, c ≤ ns.length → H p = none → Q (.ref p) (upd H p (SetO w p (fun j => decide (j ∈ ns)) c))
theorem cr_setL {X : Cx} (hc : X.calm = true) : CallR X (.type "set") (rSetL X.K X.w) := by
  intro pins s σ H xs us Q I r q
  obtain ⟨a, ns, rfl, hs, h64, q⟩ := q
  obtain ⟨its, rv, hl, hz⟩ := I.list hs
  rw [Vals.ref1 r]
  refine set_of_list ns (I.ok.hd hc) hl.isList (by simpa using rv.ints) (Nat.lt_trans (Nat.succ_lt_succ h64) (by decide)) fun h' tk c g1 g2 g3 => ?_
  have I1 : L2.Inv X pins σ (upd H s.heap.objs.size (SetO X.w s.heap.objs.size (fun j => decide (j ∈ ns)) c)) { s with heap := h', toks := tk } :=
    I.laid (t' := tk) g3 (Nat.le_refl _) (setO_new g1)
  exact ⟨.ref s.heap.objs.size, _, I1, rfl, q _ c g2 (I.hok.fresh (Nat.le_refl _))⟩
end Z
namespace K1
open PySem PySem.Spec L2 Z
def topS (i : Nat) : Stmt := PySem.Challenge.pw_arrowcells_k79_whole_arrows_and_lost_rin.main.body.getD i (.Pass ⟨0, 0, 0, 0⟩)
abbrev s_is_number : Stmt := topS 5
abbrev N_is_number : List Str := ["value"]
theorem sc_is_number : FnScope N_is_number ["value"] (defScope s_is_number) := ⟨rfl, rfl, rfl, by decide +kernel, rfl, by decide +kernel, by decide +kernel⟩
abbrev s_is_whole : Stmt := topS 6
abbrev N_is_whole : List Str := ["value", "low", "high"]
theorem sc_is_whole : FnScope N_is_whole ["value", "low", "high"] (defScope s_is_whole) := ⟨rfl, rfl, rfl, by decide +kernel, rfl, by decide +kernel, by decide +kernel⟩
abbrev s_is_place : Stmt := topS 7
abbrev N_is_place : List Str := ["value"]
theorem sc_is_place : FnScope N_is_place ["value"] (defScope s_is_place) := ⟨rfl, rfl, rfl, by decide +kernel, rfl, by decide +kernel, by decide +kernel⟩
abbrev s_is_letter : Stmt := topS 8
abbrev N_is_letter : List Str := ["value"]
theorem sc_is_letter : FnScope N_is_letter ["value"] (defScope s_is_letter) := ⟨rfl, rfl, rfl, by decide +kernel, rfl, by decide +kernel, by decide +kernel⟩
abbrev s_is_tuple_of : Stmt := topS 9
abbrev N_is_tuple_of : List Str := ["value", "many"]
theorem sc_is_tuple_of : FnScope N_is_tuple_of ["value", "many"] (defScope s_is_tuple_of) := ⟨rfl, rfl, rfl, by decide +kernel, rfl, by decide +kernel, by decide +kernel⟩
abbrev s_init : Stmt := inClass (topS 20) 0
abbrev N_init : List Str := ["self", "names", "cells", "wrong"]
theorem sc_init : FnScope N_init ["self", "names", "cells"] (defScope s_init) := ⟨rfl, rfl, rfl, by decide +kernel, rfl, by decide +kernel, by decide +kernel⟩
abbrev s_eq : Stmt := inClass (topS 20) 1
abbrev N_eq : List Str := ["self", "other"]
theorem sc_eq : FnScope N_eq ["self", "other"] (defScope s_eq) := ⟨rfl, rfl, rfl, by decide +kernel, rfl, by decide +kernel, by decide +kernel⟩
abbrev s_take : Stmt := inClass (topS 20) 2
abbrev N_take : List Str := ["self", "names", "cells", "letter", "_", "place"]
theorem sc_take : FnScope N_take ["self", "names", "cells"] (defScope s_take) := ⟨rfl, rfl, rfl, by decide +kernel, rfl, by decide +kernel, by decide +kernel⟩
abbrev s_are_store_names : Stmt := topS 21
abbrev N_are_store_names : List Str := ["value", "before", "pair"]
theorem sc_are_store_names : FnScope N_are_store_names ["value"] (defScope s_are_store_names) := ⟨rfl, rfl, rfl, by decide +kernel, rfl, by decide +kernel, by decide +kernel⟩
abbrev s_wrong_cell : Stmt := topS 22
abbrev N_wrong_cell : List Str := ["cells", "before", "index", "pair"]
theorem sc_wrong_cell : FnScope N_wrong_cell ["cells"] (defScope s_wrong_cell) := ⟨rfl, rfl, rfl, by decide +kernel, rfl, by decide +kernel, by decide +kernel⟩
abbrev s_store_text : Stmt := topS 23
abbrev N_store_text : List Str := ["names", "cells", "leads", "arrows", "letter", "place", "to"]
theorem sc_store_text : FnScope N_store_text ["names", "cells"] (defScope s_store_text) := ⟨rfl, rfl, rfl, by decide +kernel, rfl, by decide +kernel, by decide +kernel⟩
abbrev s_need_store : Stmt := topS 24
abbrev N_need_store : List Str := ["value"]
theorem sc_need_store : FnScope N_need_store ["value"] (defScope s_need_store) := ⟨rfl, rfl, rfl, by decide +kernel, rfl, by decide +kernel, by decide +kernel⟩
abbrev s_reached_from : Stmt := topS 26
abbrev N_reached_from : List Str := ["names", "arrows", "cells", "_", "start", "place"]
theorem sc_reached_from : FnScope N_reached_from ["names", "arrows"] (defScope s_reached_from) := ⟨rfl, rfl, rfl, by decide +kernel, rfl, by decide +kernel, by decide +kernel⟩
abbrev s_reached_cells : Stmt := topS 27
abbrev N_reached_cells : List Str := ["store"]
theorem sc_reached_cells : FnScope N_reached_cells ["store"] (defScope s_reached_cells) := ⟨rfl, rfl, rfl, by decide +kernel, rfl, by decide +kernel, by decide +kernel⟩
abbrev s_lost : Stmt := topS 28
abbrev N_lost : List Str := ["store", "cells", "place", "_"]
theorem sc_lost : FnScope N_lost ["store"] (defScope s_lost) := ⟨rfl, rfl, rfl, by decide +kernel, rfl, by decide +kernel, by decide +kernel⟩
abbrev s_led_to : Stmt := topS 30
abbrev N_led_to : List Str := ["places", "arrows", "found", "place"]
theorem sc_led_to : FnScope N_led_to ["places", "arrows"] (defScope s_led_to) := ⟨rfl, rfl, rfl, by decide +kernel, rfl, by decide +kernel, by decide +kernel⟩
abbrev s_arrows_into : Stmt := topS 31
abbrev N_arrows_into : List Str := ["store", "place"]
theorem sc_arrows_into : FnScope N_arrows_into ["store", "place"] (defScope s_arrows_into) := ⟨rfl, rfl, rfl, by decide +kernel, rfl, by decide +kernel, by decide +kernel⟩
abbrev s_unasked : Stmt := topS 32
abbrev N_unasked : List Str := ["store", "place", "_"]
theorem sc_unasked : FnScope N_unasked ["store"] (defScope s_unasked) := ⟨rfl, rfl, rfl, by decide +kernel, rfl, by decide +kernel, by decide +kernel⟩
abbrev s_lost_rings : Stmt := topS 33
abbrev N_lost_rings : List Str := ["store", "cells", "arrows", "rings", "passed", "first", "row", "place", "ring", "at", "cell"]
theorem sc_lost_rings : FnScope N_lost_rings ["store"] (defScope s_lost_rings) := ⟨rfl, rfl, rfl, by decide +kernel, rfl, by decide +kernel, by decide +kernel⟩
abbrev s_law_urn : Stmt := topS 35
abbrev N_law_urn : List Str := ["_law_script", "_law_turn", "_law_own", "_law_stir", "_law_cell"]
theorem sc_law_urn : FnScope N_law_urn ["_law_script", "_law_turn"] (defScope s_law_urn) := ⟨rfl, rfl, rfl, by decide +kernel, rfl, by decide +kernel, by decide +kernel⟩
abbrev s_law_take : Stmt := topS 36
abbrev N_law_take : List Str := ["_law_urn_here", "_law_size", "_law_digit", "_law_step"]
theorem sc_law_take : FnScope N_law_take ["_law_urn_here", "_law_size"] (defScope s_law_take) := ⟨rfl, rfl, rfl, by decide +kernel, rfl, by decide +kernel, by decide +kernel⟩
abbrev s_law_of : Stmt := topS 37
abbrev N_law_of : List Str := ["_law_urn_here", "_law_some"]
theorem sc_law_of : FnScope N_law_of ["_law_urn_here", "_law_some"] (defScope s_law_of) := ⟨rfl, rfl, rfl, by decide +kernel, rfl, by decide +kernel, by decide +kernel⟩
abbrev s_law_letters : Stmt := topS 38
abbrev N_law_letters : List Str := ["_law_urn_here", "_law_many", "_law_found", "_law_turn", "_law_spare", "_law_each"]
theorem sc_law_letters : FnScope N_law_letters ["_law_urn_here", "_law_many"] (defScope s_law_letters) := ⟨rfl, rfl, rfl, by decide +kernel, rfl, by decide +kernel, by decide +kernel⟩
abbrev s_law_places : Stmt := topS 39
abbrev N_law_places : List Str := ["_law_urn_here", "_law_many", "_law_wide", "_law_found", "_law_turn", "_law_at", "_law_lap"]
theorem sc_law_places : FnScope N_law_places ["_law_urn_here", "_law_many"] (defScope s_law_places) := ⟨rfl, rfl, rfl, by decide +kernel, rfl, by decide +kernel, by decide +kernel⟩
abbrev s_law_store : Stmt := topS 40
abbrev N_law_store : List Str := ["_law_urn_here", "_law_letters_here", "_law_most", "_law_some", "_law_spots", "_law_far", "_law_goals", "_law_names", "_law_cells", "_law_at", "_law_letter"]
theorem sc_law_store : FnScope N_law_store ["_law_urn_here", "_law_letters_here", "_law_most"] (defScope s_law_store) := ⟨rfl, rfl, rfl, by decide +kernel, rfl, by decide +kernel, by decide +kernel⟩
abbrev s_law_text : Stmt := topS 41
abbrev N_law_text : List Str := ["_law_store_here", "_law_names", "_law_cells", "_law_letter", "_law_at"]
theorem sc_law_text : FnScope N_law_text ["_law_store_here"] (defScope s_law_text) := ⟨rfl, rfl, rfl, by decide +kernel, rfl, by decide +kernel, by decide +kernel⟩
abbrev s_law_made : Stmt := topS 42
abbrev N_law_made : List Str := ["_law_store_here", "_law_names", "_law_letter", "_law_at"]
theorem sc_law_made : FnScope N_law_made ["_law_store_here"] (defScope s_law_made) := ⟨rfl, rfl, rfl, by decide +kernel, rfl, by decide +kernel, by decide +kernel⟩
abbrev s_law_way : Stmt := topS 43
abbrev N_law_way : List Str := ["_law_store_here", "_law_at", "_law_found", "_law_turn"]
theorem sc_law_way : FnScope N_law_way ["_law_store_here", "_law_at"] (defScope s_law_way) := ⟨rfl, rfl, rfl, by decide +kernel, rfl, by decide +kernel, by decide +kernel⟩
abbrev s_law_reached : Stmt := topS 44
abbrev N_law_reached : List Str := ["_law_store_here", "_law_found", "_law_letter", "_law_at"]
theorem sc_law_reached : FnScope N_law_reached ["_law_store_here"] (defScope s_law_reached) := ⟨rfl, rfl, rfl, by decide +kernel, rfl, by decide +kernel, by decide +kernel⟩
abbrev s_law_rings : Stmt := topS 45
abbrev N_law_rings : List Str := ["_law_store_here", "_law_come", "_law_found", "_law_at", "_law_cells", "_law_end"]
theorem sc_law_rings : FnScope N_law_rings ["_law_store_here"] (defScope s_law_rings) := ⟨rfl, rfl, rfl, by decide +kernel, rfl, by decide +kernel, by decide +kernel⟩
abbrev s_law_crowd : Stmt := topS 46
abbrev N_law_crowd : List Str := ["_law_urn_here", "_law_letters_here", "_law_most", "_law_store_here", "_law_letter"]
theorem sc_law_crowd : FnScope N_law_crowd ["_law_urn_here", "_law_letters_here", "_law_most"] (defScope s_law_crowd) := ⟨rfl, rfl, rfl, by decide +kernel, rfl, by decide +kernel, by decide +kernel⟩
abbrev s_law_right : Stmt := topS 47
abbrev N_law_right : List Str := ["_law_urn_here", "_law_store_here", "_law_mine", "_law_goals", "_law_at", "_law_shown", "_law_due", "_law_each"]
theorem sc_law_right : FnScope N_law_right ["_law_urn_here"] (defScope s_law_right) := ⟨rfl, rfl, rfl, by decide +kernel, rfl, by decide +kernel, by decide +kernel⟩
abbrev s_law : Stmt := topS 48
abbrev N_law : List Str := ["_law_script", "_law_turn"]
theorem sc_law : FnScope N_law ["_law_script"] (defScope s_law) := ⟨rfl, rfl, rfl, by decide +kernel, rfl, by decide +kernel, by decide +kernel⟩

def DefAt (K : PySem.W.Frag) (mg : Str → Option Value) (x : Str) (st : Stmt) (ps : List Str) : Prop := ∃ (f : Addr) (fd : FuncData), Fun K x x st f fd ∧ mg x = some (.ref f) ∧ Binds K fd ps []
def MethAt (K : PySem.W.Frag) (C : Addr) (m q : Str) (st : Stmt) (ps : List Str) : Prop := ∃ (f : Addr) (fd : FuncData), Fun K m q st f fd ∧ Meth K C m f ∧ Binds K fd ps []
def InitAt (K : PySem.W.Frag) (C : Addr) (q : Str) (st : Stmt) (ps : List Str) : Prop := ∃ (f : Addr) (fd : FuncData), Fun K "__init__" q st f fd ∧ Mk K C f ∧ Binds K fd ps []
def EqAt (K : PySem.W.Frag) (C : Addr) (q : Str) (st : Stmt) : Prop := ∃ (f : Addr) (fd : FuncData), Fun K "__eq__" q st f fd ∧ OwnEq K C f fd
def InAt (K : PySem.W.Frag) (C : Addr) (q : Str) (st : Stmt) (ps : List Str) : Prop := ∃ (f : Addr) (fd : FuncData), Fun K "__contains__" q st f fd ∧ OwnIn K C f fd ps
/-- a def whose code object is known -/
def DefAtC (K : PySem.W.Frag) (mg : Str → Option Value) (x : Str) (st : Stmt) (ps : List Str) (c : Addr) : Prop := ∃ (f : Addr) (fd : FuncData), Fun K x x st f fd ∧ mg x = some (.ref f) ∧ Binds K fd ps [] ∧ fd.code = .ref c
structure Txt (K : PySem.W.Frag) (mg : Str → Option Value) (C : Addr) : Prop where
  b_isinstance : mg "isinstance" = none
  b_int : mg "int" = none
  b_bool : mg "bool" = none
  b_str : mg "str" = none
  b_len : mg "len" = none
  b_tuple : mg "tuple" = none
  b_dict : mg "dict" = none
  b_list : mg "list" = none
  b_enumerate : mg "enumerate" = none
  b_range : mg "range" = none
  b_divmod : mg "divmod" = none
  b_abs : mg "abs" = none
  b_sorted : mg "sorted" = none
  b_repr : mg "repr" = none
  b_all : mg "all" = none
  b_max : mg "max" = none
  b_min : mg "min" = none
  b_sum : mg "sum" = none
  c_LETTERS : ∃ t, mg "LETTERS" = some (.str "abcdefghijklmnopqrstuvwxyz" t)
  c_END : ∃ t, mg "END" = some (.int 0 t)
  c_LAST_PLACE : ∃ t, mg "LAST_PLACE" = some (.int 999 t)
  c_MOST_NAMES : ∃ t, mg "MOST_NAMES" = some (.int 4 t)
  c_MOST_CELLS : ∃ t, mg "MOST_CELLS" = some (.int 500 t)
  mgC : mg "Store" = some (.ref C)
  cl : Cls K C
  n_names : NoAttr K C "names"
  n_cells : NoAttr K C "cells"
  n_letters : NoAttr K C "letters"
  n_text : NoAttr K C "text"
  n_places : NoAttr K C "places"
  n_arrows : NoAttr K C "arrows"
  n_led_to : NoAttr K C "led_to"
  isC : PySem.W.findIn K (.ref C) "__class__" = some (some (.builtin "object.__class__"))
  isG : PySem.W.specialIn K (.builtin "object.__class__") "__get__" = some (some (.builtin "getset_descriptor.__get__"))
  isT : PySem.W.takesIn K (.builtin "object.__class__") = some true
  isM : PySem.W.mroIn K C (.type "object") = some true
  k_self : PySem.W.kitOne K (.ref C) (.ref C) = some true
  k_str : PySem.W.kitOne K (.type "str") (.ref C) = some false
  k_int : PySem.W.kitOne K (.type "int") (.ref C) = some false
  k_tup : PySem.W.kitOne K (.type "tuple") (.ref C) = some false
  f_str : PySem.W.notFirst K C (.type "str") = true
  f_int : PySem.W.notFirst K C (.type "int") = true
  f_tup : PySem.W.notFirst K C (.type "tuple") = true
  d_is_number : DefAt K mg "is_number" s_is_number ["value"]
  d_is_whole : DefAt K mg "is_whole" s_is_whole ["value", "low", "high"]
  d_is_place : DefAt K mg "is_place" s_is_place ["value"]
  d_is_letter : DefAt K mg "is_letter" s_is_letter ["value"]
  d_is_tuple_of : DefAt K mg "is_tuple_of" s_is_tuple_of ["value", "many"]
  d_init : InitAt K C "Store.__init__" s_init ["self", "names", "cells"]
  d_eq : EqAt K C "Store.__eq__" s_eq
  d_take : MethAt K C "take" "Store.take" s_take ["self", "names", "cells"]
  d__are_store_names : DefAt K mg "_are_store_names" s_are_store_names ["value"]
  d__wrong_cell : DefAt K mg "_wrong_cell" s_wrong_cell ["cells"]
  d__store_text : DefAt K mg "_store_text" s_store_text ["names", "cells"]
  d_need_store : DefAt K mg "need_store" s_need_store ["value"]
  d_reached_from : DefAt K mg "reached_from" s_reached_from ["names", "arrows"]
  d_reached_cells : DefAt K mg "reached_cells" s_reached_cells ["store"]
  d_lost : DefAt K mg "lost" s_lost ["store"]
  d__led_to : DefAt K mg "_led_to" s_led_to ["places", "arrows"]
  d_arrows_into : DefAt K mg "arrows_into" s_arrows_into ["store", "place"]
  d_unasked : DefAt K mg "unasked" s_unasked ["store"]
  d_lost_rings : DefAt K mg "lost_rings" s_lost_rings ["store"]
  d__law_urn : DefAt K mg "_law_urn" s_law_urn ["_law_script", "_law_turn"]
  d__law_take : DefAt K mg "_law_take" s_law_take ["_law_urn_here", "_law_size"]
  d__law_of : DefAt K mg "_law_of" s_law_of ["_law_urn_here", "_law_some"]
  d__law_letters : DefAt K mg "_law_letters" s_law_letters ["_law_urn_here", "_law_many"]
  d__law_places : DefAt K mg "_law_places" s_law_places ["_law_urn_here", "_law_many"]
  d__law_store : DefAt K mg "_law_store" s_law_store ["_law_urn_here", "_law_letters_here", "_law_most"]
  d__law_text : DefAt K mg "_law_text" s_law_text ["_law_store_here"]
  d__law_made : DefAt K mg "_law_made" s_law_made ["_law_store_here"]
  d__law_way : DefAt K mg "_law_way" s_law_way ["_law_store_here", "_law_at"]
  d__law_reached : DefAt K mg "_law_reached" s_law_reached ["_law_store_here"]
  d__law_rings : DefAt K mg "_law_rings" s_law_rings ["_law_store_here"]
  d__law_crowd : DefAt K mg "_law_crowd" s_law_crowd ["_law_urn_here", "_law_letters_here", "_law_most"]
  d__law_right : DefAt K mg "_law_right" s_law_right ["_law_urn_here"]
  d_law : DefAt K mg "law" s_law ["_law_script"]

section
variable (P : Program) (w : World) (K : PySem.W.Frag) (mg : Str → Option Value) (base : Heap)
/-- what a def of the module promises -/
def Pr (x : Str) (st : Stmt) (k : Nat) (ps : List Str) (sp : Sp) : Prop := ∃ (f : Addr) (fd : FuncData), Fun K x x st f fd ∧ mg x = some (.ref f) ∧ Binds K fd ps [] ∧ FnOk P w K mg base CX0 k f fd ps sp
def PrG (x : Str) (st : Stmt) (k : Nat) (ps : List Str) (sp : Sp) : Prop := ∃ (f : Addr) (fd : FuncData), Fun K x x st f fd ∧ mg x = some (.ref f) ∧ Binds K fd ps [] ∧ FnG P w K mg base k f fd ps sp
def PrM (C : Addr) (m q : Str) (st : Stmt) (k : Nat) (ps : List Str) (sp : Sp) : Prop := ∃ (f : Addr) (fd : FuncData), Fun K m q st f fd ∧ Meth K C m f ∧ Binds K fd ps [] ∧ FnOk P w K mg base CX0 k f fd ps sp
def PrI (C : Addr) (q : Str) (st : Stmt) (k : Nat) (ps : List Str) (sp : Sp) : Prop := ∃ (f : Addr) (fd : FuncData), Fun K "__init__" q st f fd ∧ Mk K C f ∧ Binds K fd ps [] ∧ FnOk P w K mg base CX0 k f fd ps sp
def PrE (C : Addr) (q : Str) (st : Stmt) (k : Nat) (sp : Sp) : Prop := ∃ (f : Addr) (fd : FuncData), Fun K "__eq__" q st f fd ∧ OwnEq K C f fd ∧ FnOk P w K mg base CX0 k f fd ["self", "other"] sp
end
section
variable {X : Cx} {k n : Nat} {C : Addr} {ps ks : List Str} {sp : Sp} {x m q : Str} {st : Stmt} {p pos apos : Pos} {e o : Expr} {es : List Expr} {kws : List Keyword} {ta : TE} {t tk : TA}
theorem pe_globI {i : Int} (hg : Gl X x) (hm : ∃ t, X.mg x = some (.int i t)) (hd : (x == ("__debug__" : Str)) = false := by decide) : PE X (.Name x pos) (tC (.int i)) := by
  obtain ⟨t, e⟩ := hm
  exact pe_glob hg e ⟨t, rfl⟩ hd
theorem pe_globS {i : Str} (hg : Gl X x) (hm : ∃ t, X.mg x = some (.str i t)) (hd : (x == ("__debug__" : Str)) = false := by decide) : PE X (.Name x pos) (tC (.str i)) := by
  obtain ⟨t, e⟩ := hm
  exact pe_glob hg e ⟨t, rfl⟩ hd
theorem pe_bty (n : String) (hg : Gl X x) (hm : X.mg x = none) (hv : bootBuiltins x = some (.type n)) (hn : x ≠ "__name__" := by decide) (hd : (x == ("__debug__" : Str)) = false := by decide) : PE X (.Name x pos) (tC (.ty n)) :=
  pe_bltn hg hm hv (show RelV (.ty n) (.type n) from rfl) hn hd
def tCal (sp : Sp) (t : TA) : TE := fun σ H Q => t σ H fun vs H1 => sp vs H1 Q E0
theorem pcall (G : Pr X.prog X.w X.K X.mg X.base x st k ps sp) (hr : Room k X.A) (ha : PA X (e :: es) t) (hg : Gl X x := by rfl) (hdb : (x == ("__debug__" : Str)) = false := by decide)
    (he : starEach (e :: es) X.env = (false, eval e X.env) :: starEach es X.env := by rfl) (hpl : (backTo pos (starEach es X.env)).any (·.1) = false := by rfl) : PE X (.Call (.Name x p) (e :: es) [] pos) (tCal sp t) := by
  obtain ⟨f, fd, F, gl, bd, G⟩ := G
  have h := pe_call (p := p) (pos := pos) G hr hg gl F.kp bd .nil pass0 ha hdb he hpl
  constructor
  intro pins s σ H Q I hq
  refine h.run pins s σ H Q I ?_
  simpa only [tCall, tCal, List.append_nil] using hq
theorem pcallG (G : PrG X.prog X.w X.K X.mg X.base x st k ps sp) (hr : Room k X.A) (hgd : X.A.guards = some []) (ha : PA X (e :: es) t) (hg : Gl X x := by rfl) (hdb : (x == ("__debug__" : Str)) = false := by decide)
    (he : starEach (e :: es) X.env = (false, eval e X.env) :: starEach es X.env := by rfl) (hpl : (backTo pos (starEach es X.env)).any (·.1) = false := by rfl) : PE X (.Call (.Name x p) (e :: es) [] pos) (tCal sp t) := by
  obtain ⟨f, fd, F, gl, bd, G⟩ := G
  exact pe_callG G hr hgd hg gl F.kp bd ha hdb he hpl
def tMet (C : Addr) (m : Str) (sp : Sp) (ta : TE) (t : TA) : TE := fun σ H Q => ta σ H fun x H1 => ∃ a dx fs, x = .ref a ∧ H1 a = some (.ins C dx fs) ∧ fs.lookup m = none ∧ t σ H1 fun vs H2 => sp (x :: vs) H2 Q E0
theorem pmeth {pl : Sem Bool} (he : PE X o ta) (c : Cls X.K C) (G : PrM X.prog X.w X.K X.mg X.base C m q st k ps sp) (hr : Room k X.A) (ha : PA X (e :: es) t)
    (hst : starEach (e :: es) X.env = (false, eval e X.env) :: starEach es X.env := by rfl) (hpl : (backTo pos (starEach es X.env)).any (·.1) = false := by rfl)
    (ht : eval (.Call (.Attribute o m apos) (e :: es) [] pos) X.env = (do
      let ov ← eval o X.env
      standAt apos.atName
      let (f, first) ← holding [ov] (getMethod ov m pl)
      callWith pos f first (backTo pos (starEach (e :: es) X.env)) (backToKw pos (keywordEach [] X.env))) := by rfl) :
    PE X (.Call (.Attribute o m apos) (e :: es) [] pos) (tMet C m sp ta t) := by
  obtain ⟨f, fd, F, hm, bd, G⟩ := G
  have h := pe_meth (pl := pl) (pos := pos) (apos := apos) he c hm G hr bd .nil pass0 ha hst hpl ht
  constructor
  intro pins s σ H Q I hq
  refine h.run pins s σ H Q I ?_
  simpa only [tMeth, tMet, List.append_nil] using hq
def tMak (C : Addr) (sp : Sp) (t : TA) : TE := fun σ H Q => t σ H fun vs H1 => ∀ x dx, H1 x = none → H1 dx = none → dx ≠ x → sp (.ref x :: vs) (upd (upd H1 dx (.own x)) x (.ins C dx [])) (fun v H2 => v = .non ∧ Q (.ref x) H2) E0
theorem pmake (G : PrI X.prog X.w X.K X.mg X.base C q st k ps sp) (hm : X.mg x = some (.ref C)) (hr : Room (k + 1) X.A) (ha : PA X (e :: es) t) (hg : Gl X x := by rfl) (hdb : (x == ("__debug__" : Str)) = false := by decide)
    (he : starEach (e :: es) X.env = (false, eval e X.env) :: starEach es X.env := by rfl) (hpl : (backTo pos (starEach es X.env)).any (·.1) = false := by rfl) : PE X (.Call (.Name x p) (e :: es) [] pos) (tMak C sp t) := by
  obtain ⟨f, fd, F, M, bd, G⟩ := G
  have h := pe_make (p := p) (pos := pos) M G hr hg hm bd .nil pass0 ha hdb he hpl
  constructor
  intro pins s σ H Q I hq
  refine h.run pins s σ H Q I ?_
  simpa only [tMake, tMak, List.append_nil] using hq
def tOwn (C : Addr) (sp : Sp) (g : Bool → Bool) (K : PySem.W.Frag) : R2 := rOwnC C sp g K
theorem pOwnEq (G : PrE X.prog X.w X.K X.mg X.base C q st k sp) (hr : Room k X.A) : OpR X (compareOp .Eq) (tOwn C sp id X.K) := by
  obtain ⟨f, fd, F, O, G⟩ := G
  exact op_ownEq G O hr
theorem pOwnNe (G : PrE X.prog X.w X.K X.mg X.base C q st k sp) (hr : Room (k + 1) X.A) : OpR X (compareOp .NotEq) (tOwn C sp (fun c => !c) X.K) := by
  obtain ⟨f, fd, F, O, G⟩ := G
  exact op_ownNe G O hr
section
variable {g : List Value → List Value → List Value} {gV : List V → List V → List V}
def tCalN (m : Nat) (sp : Sp) (gV : List V → List V → List V) (tk : TA) : TE := fun σ H Q => tk σ H fun zs H2 => zs.length = m ∧ sp (gV [] zs) H2 Q E0
theorem pcallN0 (G : Pr X.prog X.w X.K X.mg X.base x st k ps sp) (hr : Room k X.A) (hb : ∀ {f : Addr} {fd : FuncData}, Fun X.K x x st f fd → KBn X.K fd ps 0 ks g gV) (hkw : PK X kws tk) (hg : Gl X x := by rfl)
    (hall : (backToKw pos (keywordEach kws X.env)).all (·.1.isSome) = true := by rfl) (hks : (backToKw pos (keywordEach kws X.env)).filterMap (·.1) = ks := by rfl)
    (hdb : (x == ("__debug__" : Str)) = false := by decide) (hpl : ((backTo pos (starEach [] X.env)).any (·.1) || (backToKw pos (keywordEach kws X.env)).any (·.1.isNone)) = false := by rfl) :
    PE X (.Call (.Name x p) [] kws pos) (tCalN ks.length sp gV tk) := by
  obtain ⟨f, fd, F, gl, bd, G⟩ := G
  have h := pe_callN0 (p := p) (pos := pos) G hr hg gl F.kp (hb F) pass0 hkw hall hks hdb hpl
  constructor
  intro pins s σ H Q I hq
  refine h.run pins s σ H Q I ?_
  show tk σ H fun zs H2 => ([] : List V).length = 0 ∧ zs.length = ks.length ∧ sp (gV [] zs) H2 Q E0
  simpa only [tCalN, List.length_nil, true_and] using hq
theorem pmethN0 {pl : Sem Bool} (he : PE X o ta) (c : Cls X.K C) (G : PrM X.prog X.w X.K X.mg X.base C m q st k ps sp) (hr : Room k X.A) (hb : ∀ {f : Addr} {fd : FuncData}, Fun X.K m q st f fd → KBn X.K fd ps 1 ks g gV) (hkw : PK X kws tk)
    (hall : (backToKw pos (keywordEach kws X.env)).all (·.1.isSome) = true := by rfl) (hks : (backToKw pos (keywordEach kws X.env)).filterMap (·.1) = ks := by rfl)
    (hpl : ((backTo pos (starEach [] X.env)).any (·.1) || (backToKw pos (keywordEach kws X.env)).any (·.1.isNone)) = false := by rfl)
    (ht : eval (.Call (.Attribute o m apos) [] kws pos) X.env = (do
      let ov ← eval o X.env
      standAt apos.atName
      let (f, first) ← holding [ov] (getMethod ov m pl)
      callWith pos f first (backTo pos (starEach [] X.env)) (backToKw pos (keywordEach kws X.env))) := by rfl) :
    PE X (.Call (.Attribute o m apos) [] kws pos) (tMethN C m ks.length sp gV E0 ta tk) := by
  obtain ⟨f, fd, F, hm, bd, G⟩ := G
  exact pe_methN0 (pl := pl) he c hm G hr (hb F) pass0 hkw hall hks hpl ht
def tMakN (C : Addr) (m : Nat) (sp : Sp) (gV : List V → List V → List V) (tk : TA) : TE := fun σ H Q => tk σ H fun zs H2 => zs.length = m ∧ ∀ x dx, H2 x = none → H2 dx = none → dx ≠ x →
  sp (gV [.ref x] zs) (upd (upd H2 dx (.own x)) x (.ins C dx [])) (fun v H3 => v = .non ∧ Q (.ref x) H3) E0
theorem pmakeK0 (G : PrI X.prog X.w X.K X.mg X.base C q st k ps sp) (hm : X.mg x = some (.ref C)) (hr : Room (k + 1) X.A) (hb : ∀ {f : Addr} {fd : FuncData}, Fun X.K "__init__" q st f fd → KBn X.K fd ps 1 ks g gV) (hkw : PK X kws tk) (hg : Gl X x := by rfl)
    (hall : (backToKw pos (keywordEach kws X.env)).all (·.1.isSome) = true := by rfl) (hks : (backToKw pos (keywordEach kws X.env)).filterMap (·.1) = ks := by rfl) (hdb : (x == ("__debug__" : Str)) = false := by decide)
    (hpl : ((backTo pos (starEach [] X.env)).any (·.1) || (backToKw pos (keywordEach kws X.env)).any (·.1.isNone)) = false := by rfl) :
    PE X (.Call (.Name x p) [] kws pos) (tMakN C ks.length sp gV tk) := by
  obtain ⟨f, fd, F, M, bd, G⟩ := G
  have h := pe_makeK0 (p := p) (pos := pos) M G hr hg hm (hb F) pass0 hkw hall hks hdb hpl
  constructor
  intro pins s σ H Q I hq
  refine h.run pins s σ H Q I ?_
  show tk σ H fun zs H2 => ([] : List V).length = 0 ∧ zs.length = ks.length ∧ ∀ x dx, H2 x = none → H2 dx = none → dx ≠ x → sp (gV [.ref x] zs) (upd (upd H2 dx (.own x)) x (.ins C dx [])) (fun v H3 => v = .non ∧ Q (.ref x) H3) E0
  simpa only [tMakN, List.length_nil, true_and] using hq
end
end
def PrC (P : Program) (w : World) (K : PySem.W.Frag) (mg : Str → Option Value) (base : Heap) (C : Addr) (q : Str) (st : Stmt) (k : Nat) (ps : List Str) (sp : Sp) : Prop := ∃ (f : Addr) (fd : FuncData), Fun K "__contains__" q st f fd ∧ OwnIn K C f fd ps ∧ FnOk P w K mg base CX0 k f fd ps sp
theorem pOwnIn {X : Cx} {C : Addr} {q : Str} {st : Stmt} {k : Nat} {ps : List Str} {sp : Sp} (G : PrC X.prog X.w X.K X.mg X.base C q st k ps sp) (hr : Room k X.A) : OpR X (compareOp .In) (rOwnIn C sp) := by
  obtain ⟨f, fd, F, O, G⟩ := G
  exact op_ownIn G O hr
theorem kb_one {K : PySem.W.Frag} {n q a : Str} {st : Stmt} {f : Addr} {fd : FuncData} (F : Fun K n q st f fd) (h : ∀ (kV doc pm : Value) (an : Option Addr) (cdv ct : Value) (u : Value), bindArgs (PySem.W.fnOf n q (defArgs st) (defBody st) (defScope st) .none kV doc pm an cdv ct) ⟨[], [(a, u)]⟩ = pure [(a, u)]) : KBn K fd [a] 0 [a] (fun us ws => us ++ ws) (fun vs zs => vs ++ zs) := by
  obtain ⟨oc, od, kV, doc, pm, an, cdv, ct, osl, rfl, lk, hcd⟩ := F.ex
  exact kbn_of (fun us ws => us ++ ws) (fun h1 h2 => h1.append h2) (fun us ws h1 h2 => match us, ws, h1, h2 with | [], [u], _, _ => h _ _ _ _ _ _ u)

/-! ### defs that may raise -/
def PrX (P : Program) (w : World) (K : PySem.W.Frag) (mg : Str → Option Value) (base : Heap) (x : Str) (st : Stmt) (k : Nat) (ps : List Str) (sp : Sp) : Prop := ∃ (f : Addr) (fd : FuncData), Fun K x x st f fd ∧ mg x = some (.ref f) ∧ Binds K fd ps [] ∧ FnOk P w K mg base (L2.CX P w) k f fd ps sp
def PrMX (P : Program) (w : World) (K : PySem.W.Frag) (mg : Str → Option Value) (base : Heap) (C : Addr) (m q : Str) (st : Stmt) (k : Nat) (ps : List Str) (sp : Sp) : Prop := ∃ (f : Addr) (fd : FuncData), Fun K m q st f fd ∧ Meth K C m f ∧ Binds K fd ps [] ∧ FnOk P w K mg base (L2.CX P w) k f fd ps sp
def PrIX (P : Program) (w : World) (K : PySem.W.Frag) (mg : Str → Option Value) (base : Heap) (C : Addr) (q : Str) (st : Stmt) (k : Nat) (ps : List Str) (sp : Sp) : Prop := ∃ (f : Addr) (fd : FuncData), Fun K "__init__" q st f fd ∧ Mk K C f ∧ Binds K fd ps [] ∧ FnOk P w K mg base (L2.CX P w) k f fd ps sp
section
variable {X : Cx} {k n : Nat} {C : Addr} {ps ks : List Str} {sp : Sp} {x m q : Str} {st : Stmt} {p pos apos : Pos} {e o : Expr} {es : List Expr} {kws : List Keyword} {ta : TE} {t tk : TA} {W : WX}
def tCalX (sp : Sp) (E : XK) (t : TA) : TE := fun σ H Q => t σ H fun vs H1 => sp vs H1 Q E
theorem pcallX (E : XK) (G : PrX X.prog X.w X.K X.mg X.base x st k ps sp) (hr : Room k X.A) (hx : Passes (L2.CX X.prog X.w) X E) (ha : PA X (e :: es) t) (hg : Gl X x := by rfl) (hdb : (x == ("__debug__" : Str)) = false := by decide)
    (he : starEach (e :: es) X.env = (false, eval e X.env) :: starEach es X.env := by rfl) (hpl : (backTo pos (starEach es X.env)).any (·.1) = false := by rfl) : PE X (.Call (.Name x p) (e :: es) [] pos) (tCalX sp E t) := by
  obtain ⟨f, fd, F, gl, bd, G⟩ := G
  have h := pe_call (p := p) (pos := pos) G hr hg gl F.kp bd .nil hx ha hdb he hpl
  constructor
  intro pins s σ H Q I hq
  refine h.run pins s σ H Q I ?_
  simpa only [tCall, tCalX, List.append_nil] using hq
/-- in a try's body -/
def tCalW (sp : Sp) (W : WX) (t : TA) : TE := fun σ H Q => t σ H fun vs H1 => sp vs H1 Q fun cls d H' => W cls d σ H'
theorem pcallW (G : PrX X.prog X.w X.K X.mg X.base x st k ps sp) (hr : Room k X.A) (tk : Takes X W) (ha : PA X (e :: es) t) (hg : Gl X x := by rfl) (hdb : (x == ("__debug__" : Str)) = false := by decide)
    (he : starEach (e :: es) X.env = (false, eval e X.env) :: starEach es X.env := by rfl) (hpl : (backTo pos (starEach es X.env)).any (·.1) = false := by rfl) : PE X (.Call (.Name x p) (e :: es) [] pos) (tCalW sp W t) := by
  obtain ⟨f, fd, F, gl, bd, G⟩ := G
  exact pe_callS (p := p) (pos := pos) G hr hg gl F.kp bd (fun σ => passAt tk σ) ha hdb he hpl
theorem pcallXN0 {g : List Value → List Value → List Value} {gV : List V → List V → List V} (E : XK) (G : PrX X.prog X.w X.K X.mg X.base x st k ps sp) (hr : Room k X.A) (hx : Passes (L2.CX X.prog X.w) X E) (hb : ∀ {f : Addr} {fd : FuncData}, Fun X.K x x st f fd → KBn X.K fd ps 0 ks g gV) (hkw : PK X kws tk) (hg : Gl X x := by rfl)
    (hall : (backToKw pos (keywordEach kws X.env)).all (·.1.isSome) = true := by rfl) (hks : (backToKw pos (keywordEach kws X.env)).filterMap (·.1) = ks := by rfl)
    (hdb : (x == ("__debug__" : Str)) = false := by decide) (hpl : ((backTo pos (starEach [] X.env)).any (·.1) || (backToKw pos (keywordEach kws X.env)).any (·.1.isNone)) = false := by rfl) :
    PE X (.Call (.Name x p) [] kws pos) (fun σ H Q => tk σ H fun zs H2 => zs.length = ks.length ∧ sp (gV [] zs) H2 Q E) := by
  obtain ⟨f, fd, F, gl, bd, G⟩ := G
  have h := pe_callN0 (p := p) (pos := pos) G hr hg gl F.kp (hb F) hx hkw hall hks hdb hpl
  constructor
  intro pins s σ H Q I hq
  refine h.run pins s σ H Q I ?_
  show tk σ H fun zs H2 => ([] : List V).length = 0 ∧ zs.length = ks.length ∧ sp (gV [] zs) H2 Q E
  simpa only [List.length_nil, true_and] using hq
end
theorem kb_ord {K : PySem.W.Frag} {n q : Str} {st : Stmt} {ps : List Str} {f : Addr} {fd : FuncData} (F : Fun K n q st f fd) (h : ∀ (kV doc pm : Value) (an : Option Addr) (cdv ct : Value) (us ws : List Value), us.length = 0 → ws.length = ps.length → bindArgs (PySem.W.fnOf n q (defArgs st) (defBody st) (defScope st) .none kV doc pm an cdv ct) ⟨us, ps.zip ws⟩ = pure (ps.zip (us ++ ws))) : KBn K fd ps 0 ps (fun us ws => us ++ ws) (fun vs zs => vs ++ zs) := by
  obtain ⟨oc, od, kV, doc, pm, an, cdv, ct, osl, rfl, lk, hcd⟩ := F.ex
  exact kbn_of (fun us ws => us ++ ws) (fun h1 h2 => h1.append h2) (fun us ws h1 h2 => h _ _ _ _ _ _ us ws h1 h2)
def gSw {α : Type} (us ws : List α) : List α := match us, ws with
  | [], [a, b] => [b, a]
  | u, w => u ++ w
theorem vals_sw {vs zs : List V} {us ws : List Value} (h1 : Vals vs us) (h2 : Vals zs ws) : Vals (gSw vs zs) (gSw us ws) := by
  cases h1 with
  | nil =>
    cases h2 with
    | nil => exact .nil
    | cons a t =>
      cases t with
      | nil => exact .cons a .nil
      | cons b t2 =>
        cases t2 with
        | nil => exact .cons b (.cons a .nil)
        | cons c t3 => exact .cons a (.cons b (.cons c t3))
  | cons a t => exact (show Vals (_ :: _) (_ :: _) from .cons a t).append h2
theorem kb_arrows_into {K : PySem.W.Frag} {f : Addr} {fd : FuncData} (F : Fun K "arrows_into" "arrows_into" s_arrows_into f fd) : KBn K fd ["store", "place"] 0 ["place", "store"] (fun us ws => gSw us ws) (fun vs zs => gSw vs zs) := by
  obtain ⟨oc, od, kV, doc, pm, an, cdv, ct, osl, rfl, lk, hcd⟩ := F.ex
  exact kbn_of (fun us ws => gSw us ws) (fun h1 h2 => vals_sw h1 h2) (fun us ws h1 h2 => match us, ws, h1, h2 with | [], [_, _], _, _ => rfl)
theorem kb_unasked {K : PySem.W.Frag} {f : Addr} {fd : FuncData} (F : Fun K "unasked" "unasked" s_unasked f fd) : KBn K fd ["store"] 0 ["store"] (fun us ws => us ++ ws) (fun vs zs => vs ++ zs) := by
  obtain ⟨oc, od, kV, doc, pm, an, cdv, ct, osl, rfl, lk, hcd⟩ := F.ex
  exact kbn_of (fun us ws => us ++ ws) (fun h1 h2 => h1.append h2) (fun us ws h1 h2 => match us, ws, h1, h2 with | [], [_], _, _ => rfl)
theorem kb_lost_rings {K : PySem.W.Frag} {f : Addr} {fd : FuncData} (F : Fun K "lost_rings" "lost_rings" s_lost_rings f fd) : KBn K fd ["store"] 0 ["store"] (fun us ws => us ++ ws) (fun vs zs => vs ++ zs) := by
  obtain ⟨oc, od, kV, doc, pm, an, cdv, ct, osl, rfl, lk, hcd⟩ := F.ex
  exact kbn_of (fun us ws => us ++ ws) (fun h1 h2 => h1.append h2) (fun us ws h1 h2 => match us, ws, h1, h2 with | [], [_], _, _ => rfl)
end K1
/-! Heaps, data, promises. -/
namespace K1
open PySem PySem.Spec L2 Z
/-! ### what never changes -/
def Imm (H H' : Hp) : Prop := (∀ b xs, H b = some (.tup xs) → H' b = some (.tup xs)) ∧ ∀ b o u, H b = some (.frz o u) → H' b = some (.frz o u)
theorem Imm.refl (H : Hp) : Imm H H := ⟨fun _ _ h => h, fun _ _ _ h => h⟩
theorem Imm.trans {H H1 H2 : Hp} (a : Imm H H1) (b : Imm H1 H2) : Imm H H2 := ⟨fun c xs h => b.1 c xs (a.1 c xs h), fun c o u h => b.2 c o u (a.2 c o u h)⟩
theorem Imm.of {H H' : Hp} (e : Same H H') : Imm H H' := ⟨fun b xs h => e b _ h, fun b o u h => e b _ h⟩
theorem same_new {H : Hp} {p : Addr} {o : HO} (h : H p = none) : Same H (upd H p o) := fun b x e => by
  rw [upd_ne (ne_of_none e h)]
  exact e
/-- all but the thing at j is as it was -/
def Chg (j : Addr) (H H' : Hp) : Prop := ∀ b o, H b = some o → b ≠ j → H' b = some o
theorem Chg.refl (j : Addr) (H : Hp) : Chg j H H := fun _ _ h _ => h
theorem Chg.trans {j : Addr} {H H1 H2 : Hp} (a : Chg j H H1) (b : Chg j H1 H2) : Chg j H H2 := fun c o h n => b c o (a c o h n) n
theorem Chg.of {j : Addr} {H H' : Hp} (e : Same H H') : Chg j H H' := fun b o h _ => e b o h
theorem Chg.upd {j : Addr} {H : Hp} {o : HO} : Chg j H (upd H j o) := fun b x e n => by
  rw [upd_ne n]
  exact e
def Mu : HO → Prop
  | .tup _ => False
  | .frz _ _ => False
  | _ => True
theorem Chg.imm {j : Addr} {H H' : Hp} {u : HO} (e : Chg j H H') (h : H j = some u) (m : Mu u) : Imm H H' := by
  refine ⟨fun b xs q => e b _ q fun z => ?_, fun b o x q => e b _ q fun z => ?_⟩
  · subst z
    rw [h] at q
    cases q
    exact m
  · subst z
    rw [h] at q
    cases q
    exact m
theorem SqT.imm {K : PySem.W.Frag} {H H' : Hp} {a : Addr} {xs : List V} (e : Imm H H') (h : SqT K H a xs) : SqT K H' a xs := by
  rcases h with (h | ⟨o, h⟩) | h
  · exact .inl (.inl (e.1 _ _ h))
  · exact .inl (.inr ⟨o, e.2 _ _ _ h⟩)
  · exact .inr h
theorem PT.imm {H H' : Hp} {a : Addr} {xs : List V} (e : Imm H H') (h : PT H a xs) : PT H' a xs := by
  obtain ⟨o, q, ho⟩ := h
  exact ⟨o, e.2 _ _ _ q, ho⟩
theorem SqL.chg {K : PySem.W.Frag} {j : Addr} {H H' : Hp} {a : Addr} {xs : List V} (e : Chg j H H') (n : a ≠ j) (h : SqL K H a xs) : SqL K H' a xs := by
  rcases h with (h | ⟨o, h⟩) | h
  · exact .inl (.inl (e _ _ h n))
  · exact .inl (.inr ⟨o, e _ _ h n⟩)
  · exact .inr h
theorem SqT.ty {K : PySem.W.Frag} {H : Hp} {a : Addr} {xs : List V} (h : SqT K H a xs) : TyX K H (.ref a) (.type "tuple") := by
  rcases h with (h | ⟨o, h⟩) | ⟨o, its, n, h, hc, _⟩
  · exact .base (.tup h)
  · exact .fTuple h
  · exact .kTuple h hc
/-! ### tuples of pairs -/
def TP (K : PySem.W.Frag) (H : Hp) (v : V) (ls : List (V × V)) : Prop := ∃ (a : Addr) (rs : List Addr), v = .ref a ∧ PT H a (rs.map V.ref) ∧ Paired (fun b (p : V × V) => SqT K H b [p.1, p.2]) rs ls
theorem Paired.imm {K : PySem.W.Frag} {H H' : Hp} (e : Imm H H') : ∀ {rs : List Addr} {ls : List (V × V)}, Paired (fun b (p : V × V) => SqT K H b [p.1, p.2]) rs ls → Paired (fun b (p : V × V) => SqT K H' b [p.1, p.2]) rs ls
  | _, _, .nil => .nil
  | _, _, .cons h t => .cons (SqT.imm e h) (Paired.imm e t)
theorem TP.imm {K : PySem.W.Frag} {H H' : Hp} {v : V} {ls : List (V × V)} (e : Imm H H') (h : TP K H v ls) : TP K H' v ls := by
  obtain ⟨a, rs, ev, p, q⟩ := h
  exact ⟨a, rs, ev, PT.imm e p, Paired.imm e q⟩
theorem Paired.len {α β : Type} {F : α → β → Prop} : ∀ {l : List α} {m : List β}, Paired F l m → l.length = m.length
  | _, _, .nil => rfl
  | _, _, .cons _ t => congrArg Nat.succ (Paired.len t)
theorem Paired.at {α β : Type} {F : α → β → Prop} : ∀ {l : List α} {m : List β} {i : Nat} {x : α}, Paired F l m → l[i]? = some x → ∃ y, m[i]? = some y ∧ F x y
  | _, _, _, _, .nil, e => by simp at e
  | _, _, 0, _, .cons h _, e => by
    simp at e
    subst e
    exact ⟨_, rfl, h⟩
  | _, _, i + 1, _, .cons _ t, e => by
    obtain ⟨y, h1, h2⟩ := Paired.at (i := i) t (by simpa using e)
    exact ⟨y, by simpa using h1, h2⟩
theorem Paired.snoc {α β : Type} {F : α → β → Prop} {x : α} {y : β} (h : F x y) : ∀ {l : List α} {m : List β}, Paired F l m → Paired F (l ++ [x]) (m ++ [y])
  | _, _, .nil => .cons h .nil
  | _, _, .cons a t => .cons a (Paired.snoc h t)
theorem Paired.app {α β : Type} {F : α → β → Prop} : ∀ {l l2 : List α} {m m2 : List β}, Paired F l m → Paired F l2 m2 → Paired F (l ++ l2) (m ++ m2)
  | _, _, _, _, .nil, h => h
  | _, _, _, _, .cons a t, h => .cons a (Paired.app t h)
/-- the i-th turn over a tuple of pairs -/
theorem pairs_at {K : PySem.W.Frag} {H : Hp} {rs : List Addr} {ls : List (V × V)} {i : Nat} {x : V} (q : Paired (fun b (p : V × V) => SqT K H b [p.1, p.2]) rs ls) (e : (rs.map V.ref)[i]? = some x) :
    ∃ b p, x = .ref b ∧ rs[i]? = some b ∧ ls[i]? = some p ∧ SqT K H b [p.1, p.2] := by
  rw [List.getElem?_map] at e
  cases hb : rs[i]? with
  | none => rw [hb] at e; cases e
  | some b =>
    rw [hb] at e
    cases e
    obtain ⟨p, h1, h2⟩ := Paired.at q hb
    exact ⟨b, p, rfl, rfl, h1, h2⟩
/-! ### the data of a store -/
def ch (c : Nat) : Str := ⟨#[c]⟩
def nV (p : Nat × Int) : V × V := (.str (ch p.1), .int p.2)
def cV (p : Int × Int) : V × V := (.int p.1, .int p.2)
structure NOk (ns : List (Nat × Int)) : Prop where
  one : 1 ≤ ns.length
  four : ns.length ≤ 4
  let_ : ∀ p ∈ ns, 97 ≤ p.1 ∧ p.1 ≤ 122
  pl : ∀ p ∈ ns, 0 ≤ p.2 ∧ p.2 ≤ 999
  asc : (ns.map (·.1)).Pairwise (· < ·)
structure COk (cs : List (Int × Int)) : Prop where
  few : cs.length ≤ 400
  pl : ∀ p ∈ cs, 1 ≤ p.1 ∧ p.1 ≤ 999 ∧ 0 ≤ p.2 ∧ p.2 ≤ 999
  asc : (cs.map (·.1)).Pairwise (· < ·)
def numS (i : Int) : Str := Str.ofString (toString i)
def nameW (p : Nat × Int) : Str := ch p.1 ++ Str.ofString "=" ++ numS p.2
def cellW (p : Int × Int) : Str := numS p.1 ++ Str.ofString ">" ++ numS p.2
def sp1 : Str := Str.ofString " "
def nTxt (ns : List (Nat × Int)) : Str := Txt.join sp1 (ns.map nameW)
def cTxt (cs : List (Int × Int)) : Str := if cs = [] then Str.ofString "none" else Txt.join sp1 (cs.map cellW)
def stTxt (ns : List (Nat × Int)) (cs : List (Int × Int)) : Str := nTxt ns ++ Str.ofString " | " ++ cTxt cs
def lTxt (ns : List (Nat × Int)) : Str := Txt.join Str.empty (ns.map fun p => ch p.1)
def goals (ns : List (Nat × Int)) (cs : List (Int × Int)) : List Int := ns.map (·.2) ++ cs.map (·.2)
def lookC (cs : List (Int × Int)) (i : Int) : V := match cs.find? (fun p => decide (p.1 = i)) with
  | some p => .int p.2
  | none => .non
def isC (cs : List (Int × Int)) (i : Int) : Bool := cs.any fun p => decide (p.1 = i)
def goneB (ns : List (Nat × Int)) (cs : List (Int × Int)) (i : Int) : Bool := !decide (i = 0) && (!isC cs i && decide (i ∈ goals ns cs))
/-! ### a store -/
def flds (v u : V) (lt tx : Str) (pd ad ld : Addr) : List (Str × V) :=
  [("names", v), ("cells", u), ("letters", .str lt), ("text", .str tx), ("places", .ref pd), ("arrows", .ref ad), ("led_to", .ref ld)]
def kN (ns : List (Nat × Int)) : List (Key × V) := ns.map fun p => (Sum.inr (ch p.1), V.int p.2)
def kC (cs : List (Int × Int)) : List (Key × V) := cs.map fun p => (Sum.inl p.1, V.int p.2)
structure StoreAt (K : PySem.W.Frag) (C : Addr) (H : Hp) (x : Addr) (v u : V) (ns : List (Nat × Int)) (cs : List (Int × Int)) (dx pd ad ld : Addr) (ks : List (Key × V)) : Prop where
  ob : H x = some (.ins C dx (flds v u (lTxt ns) (stTxt ns cs) pd ad ld))
  nm : TP K H v (ns.map nV)
  ce : TP K H u (cs.map cV)
  pd_ : H pd = some (.dK (kN ns))
  ad_ : H ad = some (.dK (kC cs))
  ld_ : H ld = some (.dK ks)
  led : ∀ i : Int, (valV ks (Sum.inl i : Key)).isSome = decide (i ∈ goals ns cs)
  nok : NOk ns
  cok : COk cs
def St (K : PySem.W.Frag) (C : Addr) (H : Hp) (x : Addr) (ns : List (Nat × Int)) (cs : List (Int × Int)) : Prop := ∃ v u dx pd ad ld ks, StoreAt K C H x v u ns cs dx pd ad ld ks
theorem St.same {K : PySem.W.Frag} {C : Addr} {H H' : Hp} {x : Addr} {ns : List (Nat × Int)} {cs : List (Int × Int)} (e : Same H H') (h : St K C H x ns cs) : St K C H' x ns cs := by
  obtain ⟨v, u, dx, pd, ad, ld, ks, S⟩ := h
  exact ⟨v, u, dx, pd, ad, ld, ks, e _ _ S.ob, S.nm.imm (.of e), S.ce.imm (.of e), e _ _ S.pd_, e _ _ S.ad_, e _ _ S.ld_, S.led, S.nok, S.cok⟩
theorem St.chg {K : PySem.W.Frag} {C j : Addr} {H H' : Hp} {x : Addr} {ns : List (Nat × Int)} {cs : List (Int × Int)} {l : List V} (e : Chg j H H') (hj : H j = some (.lst l)) (h : St K C H x ns cs) : St K C H' x ns cs := by
  obtain ⟨v, u, dx, pd, ad, ld, ks, S⟩ := h
  have im : Imm H H' := e.imm hj trivial
  have n : ∀ {b : Addr} {o : HO}, H b = some o → o ≠ .lst l → H' b = some o := fun q d => e _ _ q (ne_of q hj d)
  exact ⟨v, u, dx, pd, ad, ld, ks, n S.ob (fun z => nomatch z), S.nm.imm im, S.ce.imm im, n S.pd_ (fun z => nomatch z), n S.ad_ (fun z => nomatch z), n S.ld_ (fun z => nomatch z), S.led, S.nok, S.cok⟩
/-! ### promises -/
def JugAt (H : Hp) (j : Addr) : Prop := ∃ g s c : Int, H j = some (.lst [.int g, .int s, .int c]) ∧ -(2 ^ 64) < s ∧ s < 2 ^ 64
section
variable (K : PySem.W.Frag) (C : Addr)
def sp_is_number : Sp := fun vs H Q _ => ∃ (i : Int), vs = [.int i] ∧ Q (.bl true) H
def sp_is_whole : Sp := fun vs H Q _ => ∃ (i : Int) (lo : Int) (hi : Int), vs = [.int i, .int lo, .int hi] ∧ lo ≤ i ∧ i ≤ hi ∧ Q (.bl true) H
def sp_is_place : Sp := fun vs H Q _ => ∃ (i : Int), vs = [.int i] ∧ 0 ≤ i ∧ i ≤ 999 ∧ Q (.bl true) H
def sp_is_letter : Sp := fun vs H Q _ => ∃ (c : Nat), vs = [.str (ch c)] ∧ 97 ≤ c ∧ c ≤ 122 ∧ Q (.bl true) H
def sp_is_tuple_of : Sp := fun vs H Q _ => ∃ (a : Addr) (xs : List V), vs = [.ref a, .int (xs.length : Int)] ∧ SqT K H a xs ∧ Q (.bl true) H
def sp_number_in : Sp := fun vs H Q _ => ∃ i : Int, vs = [.str (numS i), .int 999] ∧ 0 ≤ i ∧ i ≤ 999 ∧ Q (.int i) H
def sp_are_store_names : Sp := fun vs H Q _ => ∃ (v : V) (ns : List (Nat × Int)), vs = [v] ∧ TP K H v (ns.map nV) ∧ NOk ns ∧ Q (.bl true) H
def sp_wrong_cell : Sp := fun vs H Q _ => ∃ (v : V) (cs : List (Int × Int)), vs = [v] ∧ TP K H v (cs.map cV) ∧ COk cs ∧ ∀ (H' : Hp), Same H H' → Q .non H'
def sp_store_text : Sp := fun vs H Q _ => ∃ (v : V) (u : V) (ns : List (Nat × Int)) (cs : List (Int × Int)), vs = [v, u] ∧ TP K H v (ns.map nV) ∧ TP K H u (cs.map cV) ∧ NOk ns ∧ COk cs ∧ ∀ (H' : Hp), Same H H' → Q (.str (stTxt ns cs)) H'
def sp_init : Sp := fun vs H Q _ => ∃ (x : Addr) (dx : Addr) (v : V) (u : V) (ns : List (Nat × Int)) (cs : List (Int × Int)), vs = [.ref x, v, u] ∧ H x = some (.ins C dx []) ∧ TP K H v (ns.map nV) ∧ TP K H u (cs.map cV) ∧ NOk ns ∧ COk cs ∧
  ∀ (H' : Hp), St K C H' x ns cs → Chg x H H' → Q .non H'
def sp_take : Sp := fun vs H Q _ => ∃ (x : Addr) (dx : Addr) (v : V) (u : V) (ns : List (Nat × Int)) (cs : List (Int × Int)), vs = [.ref x, v, u] ∧ H x = some (.ins C dx []) ∧ TP K H v (ns.map nV) ∧ TP K H u (cs.map cV) ∧ NOk ns ∧ COk cs ∧
  ∀ (H' : Hp), St K C H' x ns cs → Chg x H H' → Q .non H'
def sp_eq : Sp := fun vs H Q _ => ∃ (x : Addr) (y : V) (ns : List (Nat × Int)) (cs : List (Int × Int)), vs = [.ref x, y] ∧ St K C H x ns cs ∧
  ((∃ (x' : Addr) (ns' : List (Nat × Int)) (cs' : List (Int × Int)), y = .ref x' ∧ St K C H x' ns' cs' ∧ Q (.bl (decide (ns = ns' ∧ cs = cs'))) H) ∨ (((∃ (z : Str), y = .str z) ∨ (∃ (i : Int), y = .int i) ∨ ∃ (a : Addr) (xs : List V), y = .ref a ∧ SqT K H a xs) ∧ Q (.bl false) H))
def sp_at : Sp := fun vs H Q _ => ∃ (x : Addr) (ns : List (Nat × Int)) (cs : List (Int × Int)) (p : Nat × Int), vs = [.ref x, .str (ch p.1)] ∧ St K C H x ns cs ∧ p ∈ ns ∧ Q (.int p.2) H
def sp_arrow : Sp := fun vs H Q _ => ∃ (x : Addr) (ns : List (Nat × Int)) (cs : List (Int × Int)) (i : Int), vs = [.ref x, .int i] ∧ St K C H x ns cs ∧ 0 ≤ i ∧ i ≤ 999 ∧ Q (lookC cs i) H
def sp_is_gone : Sp := fun vs H Q _ => ∃ (x : Addr) (ns : List (Nat × Int)) (cs : List (Int × Int)) (i : Int), vs = [.ref x, .int i] ∧ St K C H x ns cs ∧ 0 ≤ i ∧ i ≤ 999 ∧ Q (.bl (goneB ns cs i)) H
def sp_name_in : Sp := fun vs H Q _ => ∃ p : Nat × Int, vs = [.str (nameW p)] ∧ 97 ≤ p.1 ∧ p.1 ≤ 122 ∧ 0 ≤ p.2 ∧ p.2 ≤ 999 ∧ ∀ (H' : Hp) (b : Addr), Same H H' → H b = none → H' b = some (.tup [(nV p).1, (nV p).2]) → Q (.ref b) H'
def sp_cell_in : Sp := fun vs H Q _ => ∃ p : Int × Int, vs = [.str (cellW p)] ∧ 0 ≤ p.1 ∧ p.1 ≤ 999 ∧ 0 ≤ p.2 ∧ p.2 ≤ 999 ∧ ∀ (H' : Hp) (b : Addr), Same H H' → H b = none → H' b = some (.tup [(cV p).1, (cV p).2]) → Q (.ref b) H'
def sp_read_store : Sp := fun vs H Q _ => ∃ (ns : List (Nat × Int)) (cs : List (Int × Int)), vs = [.str (stTxt ns cs)] ∧ NOk ns ∧ COk cs ∧ ∀ (H' : Hp) (x : Addr), Same H H' → H x = none → St K C H' x ns cs → Q (.ref x) H'
def sp_store_in : Sp := fun vs H Q _ => ∃ (ns : List (Nat × Int)) (cs : List (Int × Int)), vs = [.str (stTxt ns cs)] ∧ NOk ns ∧ COk cs ∧ ∀ (H' : Hp) (x : Addr), Same H H' → H x = none → St K C H' x ns cs → Q (.ref x) H'
def sp_law_jug : Sp := fun vs H Q _ => ∃ (a : Addr) (ns : List Int) (t : Int), vs = [.ref a, .int t] ∧ SqL K H a (ns.map V.int) ∧ 0 ≤ t ∧ t ≤ 1000 ∧ ns.length ≤ 63 ∧ ∀ (H' : Hp) (j : Addr), Same H H' → H j = none → JugAt H' j → Q (.ref j) H'
def sp_law_take : Sp := fun vs H Q _ => ∃ (j : Addr) (m : Int), vs = [.ref j, .int m] ∧ JugAt H j ∧ 1 ≤ m ∧ m < 1000000 ∧ ∀ (H' : Hp) (k : Int), Chg j H H' → JugAt H' j → 0 ≤ k → k < m → Q (.int k) H'
def sp_law_one_of : Sp := fun vs H Q _ => ∃ (j : Addr) (l : Addr) (xs : List V), vs = [.ref j, .ref l] ∧ JugAt H j ∧ l ≠ j ∧ SqL K H l xs ∧ xs ≠ [] ∧ xs.length < 1000000 ∧ ∀ (H' : Hp) (x : V), Chg j H H' → JugAt H' j → x ∈ xs → Q x H'
def sp_law_letters : Sp := fun vs H Q _ => ∃ (j : Addr) (m : Int), vs = [.ref j, .int m] ∧ JugAt H j ∧ 1 ≤ m ∧ m ≤ 4 ∧ ∀ H' p (cs : List Nat), Chg j H H' → JugAt H' j → H p = none → H' p = some (.lst (cs.map fun c => V.str (ch c))) → (cs.length : Int) = m →
  (∀ c ∈ cs, 97 ≤ c ∧ c ≤ 122) → cs.Pairwise (· < ·) → Q (.ref p) H'
def sp_law_drawn_cells : Sp := fun vs H Q _ => ∃ (j : Addr) (m : Int), vs = [.ref j, .int m] ∧ JugAt H j ∧ 0 ≤ m ∧ m ≤ 30 ∧ ∀ H' t pc pg (rs : List Addr) (cs : List (Int × Int)) (gs : List Int), Chg j H H' → JugAt H' j → H' t = some (.tup [.ref pc, .ref pg]) →
  H pc = none → H' pc = some (.lst (rs.map V.ref)) → Paired (fun b (p : V × V) => SqT K H' b [p.1, p.2]) rs (cs.map cV) → H pg = none → H' pg = some (.lst (gs.map V.int)) → gs ≠ [] → gs.length ≤ 100 → (∀ g ∈ gs, 0 ≤ g ∧ g ≤ 999) → COk cs → Q (.ref t) H'
def sp_law_arrows : Sp := fun vs H Q _ => ∃ (u : V) (cs : List (Int × Int)), vs = [u] ∧ TP K H u (cs.map cV) ∧ COk cs ∧ ∀ (H' : Hp) (d : Addr), Same H H' → H d = none → H' d = some (.dK (kC cs)) → Q (.ref d) H'
def sp_law_turned : Sp := fun vs H Q _ => ∃ (j : Addr) (v : V) (u : V) (g : Addr) (ns : List (Nat × Int)) (cs : List (Int × Int)) (gs : List Int), vs = [.ref j, v, u, .ref g] ∧ JugAt H j ∧ g ≠ j ∧ H g = some (.lst (gs.map V.int)) ∧ gs ≠ [] ∧ gs.length ≤ 100 ∧ (∀ i ∈ gs, 0 ≤ i ∧ i ≤ 999) ∧ TP K H v (ns.map nV) ∧ TP K H u (cs.map cV) ∧ NOk ns ∧ COk cs ∧
  ∀ (H' : Hp) (t : Addr) (v' : V) (u' : V) (ns' : List (Nat × Int)) (cs' : List (Int × Int)), Chg j H H' → JugAt H' j → SqT K H' t [v', u'] → TP K H' v' (ns'.map nV) → TP K H' u' (cs'.map cV) → NOk ns' → COk cs' → Q (.ref t) H'
def sp_law_tells : Sp := fun vs H Q _ => ∃ (x : Addr) (v : V) (u : V) (ns : List (Nat × Int)) (cs : List (Int × Int)), vs = [.ref x, v, u] ∧ St K C H x ns cs ∧ TP K H v (ns.map nV) ∧ TP K H u (cs.map cV) ∧ ∀ (H' : Hp), Same H H' → Q (.bl true) H'
def sp_law_places_right : Sp := fun vs H Q _ => ∃ (x : Addr) (v : V) (u : V) (l : Addr) (ns : List (Nat × Int)) (cs : List (Int × Int)) (ps : List Int), vs = [.ref x, v, u, .ref l] ∧ St K C H x ns cs ∧ TP K H v (ns.map nV) ∧ TP K H u (cs.map cV) ∧ H l = some (.lst (ps.map V.int)) ∧ ps ≠ [] ∧ (∀ i ∈ ps, 0 ≤ i ∧ i ≤ 999) ∧ ∀ (H' : Hp), Same H H' → Q (.bl true) H'
def sp_law_right : Sp := fun vs H Q _ => ∃ (j : Addr), vs = [.ref j] ∧ JugAt H j ∧ ∀ (H' : Hp), Chg j H H' → Q (.bl true) H'
def sp_law : Sp := fun vs H Q _ => ∃ (a : Addr) (ns : List Int), vs = [.ref a] ∧ SqL K H a (ns.map V.int) ∧ ns.length ≤ 63 ∧ ∀ (H' : Hp), Q (.bl true) H'
end
end K1
/-! Walks over anything; texts; small lemmas. -/
namespace K1
open PySem PySem.Spec L2 Z
theorem for_it {J : It} {n : Nat} {g : TG} {tb : TS} {D : Ends} {σ : L2.St} {H : Hp} (Pv : Nat → L2.St → Hp → Prop) (h0 : Pv 0 σ H) (go : ∀ i σ H, i < n → Pv i σ H → J.go i H) (stop : ∀ σ H, Pv n σ H → J.stop n H)
    (hs : ∀ i v σ H H', i < n → Pv i σ H → J.yld i H v H' → g v σ H' fun σ2 H2 => tb { D with nx := Pv (i + 1), ct := Pv (i + 1), bk := D.nx } σ2 H2) (hd : ∀ σ H, Pv n σ H → D.nx σ H) :
    ∃ W : Nat → Nat → L2.St → Hp → Prop, (∃ m, W 0 m σ H) ∧ ∀ i m σ H, W i m σ H →
      (J.stop i H ∧ D.nx σ H) ∨ (J.go i H ∧ ∃ N : L2.St → Hp → Prop, (∀ σ' H', N σ' H' → ∃ m', m' < m ∧ W (i + 1) m' σ' H') ∧ ∀ x H', J.yld i H x H' → g x σ H' fun σ2 H2 => tb { D with nx := N, ct := N, bk := D.nx } σ2 H2) := by
  refine ⟨fun i m σ H => m = n - i ∧ i ≤ n ∧ Pv i σ H, ⟨n, by simp, Nat.zero_le _, h0⟩, ?_⟩
  rintro i m σ H ⟨rfl, hi, p⟩
  by_cases hlt : i < n
  · exact .inr ⟨go i σ H hlt p, Pv (i + 1), fun σ' H' p' => ⟨n - (i + 1), by omega, rfl, hlt, p'⟩, fun x H' y => hs i x σ H H' hlt p y⟩
  · have e : i = n := by omega
    subst e
    exact .inl ⟨stop σ H p, hd σ H p⟩
theorem lc_it {J : It} {n : Nat} {g : TG} {tt : TT} {te : TE} {vs : List Nat} {σ : L2.St} {H1 : Hp} {D : Addr} {Qd : Hp → Prop} (Pv : Nat → Hp → Prop) (h0 : Pv 0 (upd H1 D (.lst []))) (go : ∀ i H, i < n → Pv i H → J.go i H) (stop : ∀ H, Pv n H → J.stop n H)
    (hs : ∀ i x H H', i < n → Pv i H → J.yld i H x H' → g x (wipe σ vs) H' fun σ2 H2 => wipe σ2 vs = wipe σ vs ∧ tt σ2 H2 fun b H3 =>
      if b = true then te σ2 H3 fun y H4 => ∃ acc, H4 D = some (.lst acc) ∧ acc.length < sizeLine ∧ Pv (i + 1) (upd H4 D (.lst (acc ++ [y]))) else Pv (i + 1) H3) (hd : ∀ H, Pv n H → Qd H) :
    ∃ W : Nat → Nat → Hp → Prop, (∃ m, W 0 m (upd H1 D (.lst []))) ∧ ∀ i m H, W i m H →
      (J.stop i H ∧ Qd H) ∨ (J.go i H ∧ ∃ Nx : Hp → Prop, (∀ H', Nx H' → ∃ m', m' < m ∧ W (i + 1) m' H') ∧ ∀ x H', J.yld i H x H' → g x (wipe σ vs) H' fun σ2 H2 => wipe σ2 vs = wipe σ vs ∧ tt σ2 H2 fun b H3 =>
        if b = true then te σ2 H3 fun y H4 => ∃ acc, H4 D = some (.lst acc) ∧ acc.length < sizeLine ∧ Nx (upd H4 D (.lst (acc ++ [y]))) else Nx H3) := by
  refine ⟨fun i m H => m = n - i ∧ i ≤ n ∧ Pv i H, ⟨n, by simp, Nat.zero_le _, h0⟩, ?_⟩
  rintro i m H ⟨rfl, hi, p⟩
  by_cases hlt : i < n
  · exact .inr ⟨go i H hlt p, Pv (i + 1), fun H' p' => ⟨n - (i + 1), by omega, rfl, hlt, p'⟩, fun x H' y => hs i x H H' hlt p y⟩
  · have e : i = n := by omega
    subst e
    exact .inl ⟨stop H p, hd H p⟩
theorem lt_none {c : Nat} : decide ((Str.ofString "").cps.toList < (ch c).cps.toList) = true := by
  have e : (Str.ofString "").cps.toList = [] := by decide +kernel
  rw [e]
  exact decide_eq_true (List.nil_lt_cons _ _)
theorem lt_sign {a c : Nat} (h : a < c) : decide ((ch a).cps.toList < (ch c).cps.toList) = true := decide_eq_true (List.cons_lt_cons_iff.mpr (.inl h))
theorem asc_at {α : Type} {f : α → Nat} {ls : List α} (h : (ls.map f).Pairwise (· < ·)) {i : Nat} {p q : α} (e : ls[i]? = some p) (e2 : ls[i + 1]? = some q) : f p < f q := by
  rw [List.pairwise_map] at h
  obtain ⟨h1, rfl⟩ := List.getElem?_eq_some_iff.mp e
  obtain ⟨h2, rfl⟩ := List.getElem?_eq_some_iff.mp e2
  exact List.pairwise_iff_getElem.mp h _ _ h1 h2 (Nat.lt_succ_self _)
theorem asc_atI {α : Type} {f : α → Int} {ls : List α} (h : (ls.map f).Pairwise (· < ·)) {i : Nat} {p q : α} (e : ls[i]? = some p) (e2 : ls[i + 1]? = some q) : f p < f q := by
  rw [List.pairwise_map] at h
  obtain ⟨h1, rfl⟩ := List.getElem?_eq_some_iff.mp e
  obtain ⟨h2, rfl⟩ := List.getElem?_eq_some_iff.mp e2
  exact List.pairwise_iff_getElem.mp h _ _ h1 h2 (Nat.lt_succ_self _)
theorem map_at {α β : Type} {f : α → β} {ls : List α} {i : Nat} {y : β} (e : (ls.map f)[i]? = some y) : ∃ x, ls[i]? = some x ∧ y = f x := by
  rw [List.getElem?_map] at e
  cases h : ls[i]? with
  | none => rw [h] at e; cases e
  | some x => rw [h] at e; exact ⟨x, rfl, (Option.some.inj e).symm⟩
/-- a comprehension over a tuple of pairs that makes nothing -/
theorem lc_pairs {α : Type} {K : PySem.W.Frag} {rs : List Addr} {ls : List α} {a : Addr} {g : TG} {te : TE} {vs : List Nat} {σ : L2.St} {H1 : Hp} {D : Addr} {Qd : Hp → Prop} (emb : α → V × V) (f : α → V)
    (hT : PT H1 a (rs.map V.ref)) (hp : Paired (fun b (p : V × V) => SqT K H1 b [p.1, p.2]) rs (ls.map emb)) (hD : H1 D = none) (hz : ls.length ≤ 1000)
    (hs : ∀ b p H (R : V → Hp → Prop), Same H1 H → SqT K H b [(emb p).1, (emb p).2] → p ∈ ls → R (f p) H → g (.ref b) (wipe σ vs) H fun σ2 H2 => wipe σ2 vs = wipe σ vs ∧ te σ2 H2 R)
    (hd : ∀ H, Same H1 H → H D = some (.lst (ls.map f)) → Qd H) :
    ∃ W : Nat → Nat → Hp → Prop, (∃ m, W 0 m (upd H1 D (.lst []))) ∧ ∀ i m H, W i m H →
      ((Itt K a).stop i H ∧ Qd H) ∨ ((Itt K a).go i H ∧ ∃ Nx : Hp → Prop, (∀ H', Nx H' → ∃ m', m' < m ∧ W (i + 1) m' H') ∧ ∀ x H', (Itt K a).yld i H x H' → g x (wipe σ vs) H' fun σ2 H2 => wipe σ2 vs = wipe σ vs ∧ tYes σ2 H2 fun b H3 =>
        if b = true then te σ2 H3 fun y H4 => ∃ acc, H4 D = some (.lst acc) ∧ acc.length < sizeLine ∧ Nx (upd H4 D (.lst (acc ++ [y]))) else Nx H3) := by
  have hl : rs.length = ls.length := by rw [Paired.len hp, List.length_map]
  refine lc_tup (xs := rs.map V.ref) (fun i H => Same H1 H ∧ H D = some (.lst ((ls.take i).map f))) ⟨same_new hD, upd_same⟩ (fun i H _ h => (PT.same h.1 hT).sq) (fun i x H hx h => ?_) (fun H h => hd H h.1 ?_)
  · obtain ⟨sm, hDl⟩ := h
    obtain ⟨b, p, rfl, e1, e2, hq⟩ := pairs_at (Paired.imm (.of sm) hp) hx
    obtain ⟨q, e3, rfl⟩ := map_at e2
    have hi : i < ls.length := (List.getElem?_eq_some_iff.mp e3).1
    refine hs b q H (fun y H4 => ∃ acc, H4 D = some (.lst acc) ∧ acc.length < sizeLine ∧ Same H1 (upd H4 D (.lst (acc ++ [y]))) ∧ upd H4 D (.lst (acc ++ [y])) D = some (.lst ((ls.take (i + 1)).map f))) sm hq (List.mem_of_getElem? e3) ⟨_, hDl, ?_, fun c o e => ?_, ?_⟩
    · rw [List.length_map, List.length_take]
      exact small1000 (by omega)
    · have nb : c ≠ D := ne_of_none e hD
      rw [upd_ne nb]
      exact sm _ _ e
    · rw [upd_same, List.take_add_one, e3, List.map_append]
      rfl
  · have := h.2
    rw [List.length_map, hl, List.take_length] at this
    exact this
theorem lcP {α : Type} {K : PySem.W.Frag} {rs : List Addr} {ls : List α} {a : Addr} {i : Nat} {g : TG} {te : TE} {vs : List Nat} {σ : L2.St} {H : Hp} {Q : VK} (emb : α → V × V) (f : α → V) (hv : σ[i]? = some (some (.ref a)))
    (hT : PT H a (rs.map V.ref)) (hp : Paired (fun b (p : V × V) => SqT K H b [p.1, p.2]) rs (ls.map emb)) (hz : ls.length ≤ 1000)
    (hs : ∀ b p H' (R : V → Hp → Prop), Same H H' → SqT K H' b [(emb p).1, (emb p).2] → p ∈ ls → R (f p) H' → g (.ref b) (wipe σ vs) H' fun σ2 H2 => wipe σ2 vs = wipe σ vs ∧ te σ2 H2 R)
    (hd : ∀ H' D, Same H H' → H D = none → H' D = some (.lst (ls.map f)) → Q (.ref D) H') : tLc (iTup K (tVar i)) g tYes te vs σ H Q :=
  ⟨_, hv, a, rfl, ⟨_, hT.sq⟩, fun D hD => lc_pairs emb f hT hp hD hz hs fun H' sm hl => hd H' D sm hD hl⟩
/-- a walk over a tuple of pairs -/
theorem for_pairs {K : PySem.W.Frag} {rs : List Addr} {ls : List (V × V)} {a : Addr} {g : TG} {tb : TS} {D : Ends} {σ : L2.St} {H H0 : Hp} (Pv : Nat → L2.St → Hp → Prop) (h0 : Pv 0 σ H)
    (hT : PT H0 a (rs.map V.ref)) (hp : Paired (fun b (p : V × V) => SqT K H0 b [p.1, p.2]) rs ls) (hI : ∀ i σ H, Pv i σ H → Imm H0 H)
    (hs : ∀ i b p σ H, rs[i]? = some b → ls[i]? = some p → SqT K H b [p.1, p.2] → Pv i σ H → g (.ref b) σ H fun σ2 H2 => tb { D with nx := Pv (i + 1), ct := Pv (i + 1), bk := D.nx } σ2 H2) (hd : ∀ σ H, Pv ls.length σ H → D.nx σ H) :
    ∃ W : Nat → Nat → L2.St → Hp → Prop, (∃ m, W 0 m σ H) ∧ ∀ i m σ H, W i m σ H →
      ((Itt K a).stop i H ∧ D.nx σ H) ∨ ((Itt K a).go i H ∧ ∃ N : L2.St → Hp → Prop, (∀ σ' H', N σ' H' → ∃ m', m' < m ∧ W (i + 1) m' σ' H') ∧ ∀ x H', (Itt K a).yld i H x H' → g x σ H' fun σ2 H2 => tb { D with nx := N, ct := N, bk := D.nx } σ2 H2) := by
  have hl : rs.length = ls.length := Paired.len hp
  refine for_it (n := ls.length) Pv h0 (fun i σ H hi p => ⟨rs.map V.ref, (rs.map V.ref)[i]'(by simpa using hl ▸ hi), (PT.imm (hI _ _ _ p) hT).sq, List.getElem?_eq_getElem _⟩) (fun σ H p => ⟨rs.map V.ref, (PT.imm (hI _ _ _ p) hT).sq, by simp [hl]⟩) (fun i v σ H H' hi p y => ?_) hd
  obtain ⟨rfl, y⟩ := y
  obtain ⟨b, q, rfl, e1, e2, hq⟩ := pairs_at (Paired.imm (hI _ _ _ p) hp) (y _ (PT.imm (hI _ _ _ p) hT).sq)
  exact hs i b q σ H' e1 e2 hq p
/-- the same, each with its place -/
theorem for_enumP {K : PySem.W.Frag} {rs : List Addr} {ls : List (V × V)} {a : Addr} {g : TG} {tb : TS} {D : Ends} {σ : L2.St} {H H0 : Hp} (Pv : Nat → L2.St → Hp → Prop) (h0 : Pv 0 σ H)
    (hT : PT H0 a (rs.map V.ref)) (hp : Paired (fun b (p : V × V) => SqT K H0 b [p.1, p.2]) rs ls) (hI : ∀ i σ H, Pv i σ H → Same H0 H)
    (hs : ∀ i b p σ H t, rs[i]? = some b → ls[i]? = some p → SqT K H b [p.1, p.2] → Pv i σ H → H t = none → g (.ref t) σ (upd H t (.tup [.int (i : Nat), .ref b])) fun σ2 H2 => tb { D with nx := Pv (i + 1), ct := Pv (i + 1), bk := D.nx } σ2 H2) (hd : ∀ σ H, Pv ls.length σ H → D.nx σ H) :
    ∃ W : Nat → Nat → L2.St → Hp → Prop, (∃ m, W 0 m σ H) ∧ ∀ i m σ H, W i m σ H →
      ((IteT K a).stop i H ∧ D.nx σ H) ∨ ((IteT K a).go i H ∧ ∃ N : L2.St → Hp → Prop, (∀ σ' H', N σ' H' → ∃ m', m' < m ∧ W (i + 1) m' σ' H') ∧ ∀ x H', (IteT K a).yld i H x H' → g x σ H' fun σ2 H2 => tb { D with nx := N, ct := N, bk := D.nx } σ2 H2) := by
  have hl : rs.length = ls.length := Paired.len hp
  refine for_it (n := ls.length) Pv h0 (fun i σ H hi p => ⟨rs.map V.ref, (rs.map V.ref)[i]'(by simpa using hl ▸ hi), (PT.same (hI _ _ _ p) hT).sq, List.getElem?_eq_getElem _⟩) (fun σ H p => ⟨rs.map V.ref, (PT.same (hI _ _ _ p) hT).sq, by simp [hl]⟩) (fun i v σ H H' hi p y => ?_) hd
  obtain ⟨t, x, rfl, hn, rfl, y⟩ := y
  obtain ⟨b, q, rfl, e1, e2, hq⟩ := pairs_at (Paired.imm (.of (hI _ _ _ p)) hp) (y _ (PT.same (hI _ _ _ p) hT).sq)
  exact hs i b q σ H t e1 e2 hq p hn
/-! ### numbers as texts -/
theorem numS_nat {i : Int} (h : 0 ≤ i) : numS i = Str.ofString (toString ((i.toNat : Nat) : Int)) := by
  unfold numS
  rw [Int.toNat_of_nonneg h]
theorem tl_numS {i : Int} (h : 0 ≤ i) : TL.tl (numS i) = TL.numL i.toNat := by
  rw [numS_nat h]
  exact TL.tl_num _
theorem num_facts : ∀ n : Fin 1000, (TL.numL n.val).length ≤ 3 ∧ TL.numL n.val ≠ [] ∧ (TL.numL n.val = [48] ∨ (TL.numL n.val)[0]? ≠ some 48) := by decide +kernel
theorem num_len {i : Int} (h : 0 ≤ i) (h2 : i ≤ 999) : (numS i).length ≤ 3 := by
  rw [TL.len_tl, tl_numS h]
  exact (num_facts ⟨i.toNat, by omega⟩).1
theorem num_pos {i : Int} (h : 0 ≤ i) (h2 : i ≤ 999) : 1 ≤ (numS i).length := by
  rw [TL.len_tl, tl_numS h]
  have := (num_facts ⟨i.toNat, by omega⟩).2.1
  exact List.length_pos_iff.mpr this
theorem digit_in {c : Nat} (h1 : 48 ≤ c) (h2 : c ≤ 57) : decide (c ∈ (Str.ofString "0123456789").cps.toList) = true := by
  have e : (Str.ofString "0123456789").cps.toList = (List.range 10).map (· + 48) := by decide +kernel
  rw [e]
  exact decide_eq_true (List.mem_map.mpr ⟨c - 48, List.mem_range.mpr (by omega), by omega⟩)
theorem letter_in {c : Nat} (h1 : 97 ≤ c) (h2 : c ≤ 122) : decide (c ∈ (Str.ofString "abcdefghijklmnopqrstuvwxyz").cps.toList) = true := by
  have e : (Str.ofString "abcdefghijklmnopqrstuvwxyz").cps.toList = (List.range 26).map (· + 97) := by decide +kernel
  rw [e]
  exact decide_eq_true (List.mem_map.mpr ⟨c - 97, List.mem_range.mpr (by omega), by omega⟩)
theorem num_int {i : Int} (h : 0 ≤ i) (h2 : i ≤ 999) : PySem.intText? (numS i) = some i := by
  rw [numS_nat h, TL.int_num, Int.toNat_of_nonneg h]
  exact Nat.le_trans (num_facts ⟨i.toNat, by omega⟩).1 (by decide)
theorem num_log {i : Int} (h : 0 ≤ i) (h2 : i ≤ 999) : i.natAbs.log2 < 1920 := by
  have e : i.natAbs.log2 ≤ i.natAbs := Nat.log2_le_self _
  omega
theorem str_ne {x y : Str} (h : TL.tl x ≠ TL.tl y) : decide (V.str x = V.str y) = false := decide_eq_false fun e => h (by cases e; rfl)
theorem z0_tl : TL.tl (Str.ofString "0") = [48] := by decide +kernel
theorem e_tl : TL.tl (Str.ofString "") = [] := by decide +kernel
theorem n999 : (Str.ofString (toString (999 : Int))).length = 3 := by decide +kernel
theorem num_dig {i : Int} (h : 0 ≤ i) : ∀ c ∈ TL.tl (numS i), 48 ≤ c ∧ c ≤ 57 := fun c hc => by
  rw [tl_numS h] at hc
  refine ⟨?_, ?_⟩
  · by_cases z : c < 48
    · exact absurd hc (TL.numL_free (.inl z))
    · omega
  · by_cases z : 57 < c
    · exact absurd hc (TL.numL_free (.inr z))
    · omega
theorem num_head {i : Int} (h : 0 ≤ i) (h2 : i ≤ 999) : ∃ c t, TL.tl (numS i) = c :: t ∧ (c = 48 → numS i = Str.ofString "0") := by
  have F := num_facts ⟨i.toNat, by omega⟩
  have e := tl_numS h
  rcases hx : TL.tl (numS i) with _ | ⟨c, t⟩
  · exact absurd (e.symm.trans hx) F.2.1
  · refine ⟨c, t, rfl, fun z => ?_⟩
    subst z
    have hx2 := e.symm.trans hx
    rcases F.2.2 with q | q
    · apply TL.ext_tl
      rw [z0_tl, e]
      exact q
    · exact absurd (by rw [hx2]; rfl) q
theorem at_nat {α : Type} {xs : List α} {i : Nat} {x : α} (h : xs[i]? = some x) : atI xs (i : Int) = some x := by
  have hi : i < xs.length := (List.getElem?_eq_some_iff.mp h).1
  have e : ixN xs.length (i : Int) = some i := by
    unfold ixN
    rw [if_pos (by omega), if_pos (by omega)]
    rfl
  show (ixN xs.length (i : Int)).bind _ = _
  rw [e]
  exact h
theorem at_first {α : Type} {xs : List α} {x : α} : atI (x :: xs) 0 = some x := at_nat (i := 0) rfl
theorem at_snd {α : Type} {xs : List α} {x y : α} : atI (x :: y :: xs) 1 = some y := at_nat (i := 1) rfl
theorem asc_uniq {α β : Type} {f : α → β} {R : β → β → Prop} (irr : ∀ b, ¬ R b b) : ∀ {ls : List α}, (ls.map f).Pairwise R → ∀ {p q : α}, p ∈ ls → q ∈ ls → f p = f q → p = q
  | x :: t, h, p, q, hp, hq, e => by
    rw [List.map_cons, List.pairwise_cons] at h
    rcases List.mem_cons.mp hp with rfl | hp' <;> rcases List.mem_cons.mp hq with rfl | hq'
    · rfl
    · exact absurd (e ▸ h.1 (f q) (List.mem_map_of_mem hq')) (irr _)
    · exact absurd (e ▸ h.1 (f p) (List.mem_map_of_mem hp')) (irr _)
    · exact asc_uniq irr h.2 hp' hq' e
theorem val_n {ns : List (Nat × Int)} (ok : NOk ns) {p : Nat × Int} (h : p ∈ ns) : valV (kN ns) (Sum.inr (ch p.1) : Key) = some (.int p.2) := by
  unfold valV kN
  rw [List.find?_map]
  cases hf : ns.find? ((fun kv : Key × V => decide (kv.1 = Sum.inr (ch p.1))) ∘ fun p => (Sum.inr (ch p.1), V.int p.2)) with
  | none =>
    have := List.find?_eq_none.mp hf p h
    simp at this
  | some q =>
    have h1 := List.find?_some hf
    have h2 := List.mem_of_find?_eq_some hf
    have e : q.1 = p.1 := by
      simp only [Function.comp, decide_eq_true_eq, Sum.inr.injEq] at h1
      have := congrArg (fun s : Str => s.cps.toList) h1
      simpa [ch] using this
    have := asc_uniq (f := fun p : Nat × Int => p.1) (fun b => Nat.lt_irrefl b) ok.asc h2 h e
    subst this
    rfl
theorem find_c (cs : List (Int × Int)) (i : Int) : valV (kC cs) (Sum.inl i : Key) = (cs.find? fun p => decide (p.1 = i)).map fun p => V.int p.2 := by
  unfold valV kC
  rw [List.find?_map, Option.map_map]
  have e : ((fun kv : Key × V => decide (kv.1 = Sum.inl i)) ∘ fun p : Int × Int => ((Sum.inl p.1 : Key), V.int p.2)) = fun p => decide (p.1 = i) := by
    funext p
    simp
  rw [e]
  rfl
theorem look_c (cs : List (Int × Int)) (i : Int) : (valV (kC cs) (Sum.inl i : Key)).getD .non = lookC cs i := by
  rw [find_c]
  unfold lookC
  cases cs.find? fun p => decide (p.1 = i) <;> rfl
theorem some_c (cs : List (Int × Int)) (i : Int) : (valV (kC cs) (Sum.inl i : Key)).isSome = isC cs i := by
  rw [find_c, Option.isSome_map]
  unfold isC
  rw [Bool.eq_iff_iff, List.find?_isSome, List.any_eq_true]
theorem ch_len (c : Nat) : (ch c).length = 1 := rfl
theorem len_app (a b : Str) : (a ++ b).length = a.length + b.length := by
  rw [TL.len_tl, TL.len_tl, TL.len_tl, TL.tl_append, List.length_append]
theorem emp_app (a : Str) : Str.empty ++ a = a := TL.ext_tl (by rw [TL.tl_append]; rfl)
theorem nameW_len {p : Nat × Int} (h : 0 ≤ p.2) (h2 : p.2 ≤ 999) : (nameW p).length ≤ 5 := by
  have := num_len h h2
  have e : (Str.ofString "=").length = 1 := by decide +kernel
  unfold nameW
  rw [len_app, len_app, ch_len, e]
  omega
theorem cellW_len {p : Int × Int} (h : 0 ≤ p.1) (h2 : p.1 ≤ 999) (h3 : 0 ≤ p.2) (h4 : p.2 ≤ 999) : (cellW p).length ≤ 7 := by
  have a := num_len h h2
  have b := num_len h3 h4
  have e : (Str.ofString ">").length = 1 := by decide +kernel
  unfold cellW
  rw [len_app, len_app, e]
  omega
theorem eq1_len : (Str.ofString "=").length = 1 := by decide +kernel
theorem gt1_len : (Str.ofString ">").length = 1 := by decide +kernel
theorem sp1_len : (Str.ofString " ").length = 1 := by decide +kernel
theorem bar_len : (Str.ofString " | ").length = 3 := by decide +kernel
theorem none_len : (Str.ofString "none").length = 4 := by decide +kernel
theorem nameW_eq (p : Nat × Int) : Str.empty ++ ch p.1 ++ Str.ofString "=" ++ Str.ofString (toString p.2) = nameW p := by
  rw [emp_app]
  rfl
theorem cellW_eq (p : Int × Int) : Str.empty ++ Str.ofString (toString p.1) ++ Str.ofString ">" ++ Str.ofString (toString p.2) = cellW p := by
  rw [emp_app]
  rfl
theorem sum_len {k : Nat} : ∀ {ys : List Str}, (∀ y ∈ ys, y.length ≤ k) → (ys.map fun x => x.length).sum ≤ k * ys.length
  | [], _ => by simp
  | y :: t, h => by
    have := sum_len (ys := t) fun z hz => h z (List.mem_cons_of_mem _ hz)
    have h1 := h y List.mem_cons_self
    rw [List.map_cons, List.sum_cons, List.length_cons, Nat.mul_succ]
    omega
theorem tl_glue (y : Str) (l : List Str) : TL.tl (Txt.join y l) = TL.joinL (TL.tl y) (l.map TL.tl) := by
  rw [TL.join_eq, TL.tl_join]
theorem joinL_len {k : Nat} {S : List Nat} : ∀ {l : List (List Nat)}, (∀ y ∈ l, y.length ≤ k) → (TL.joinL S l).length ≤ (k + S.length) * l.length
  | [], _ => by simp [TL.joinL]
  | [y], h => by
    have := h y List.mem_cons_self
    simp only [TL.joinL, List.length_cons, List.length_nil]
    omega
  | y :: z :: t, h => by
    have h1 := h y List.mem_cons_self
    have h2 := joinL_len (S := S) (l := z :: t) fun q hq => h q (List.mem_cons_of_mem _ hq)
    simp only [TL.joinL, List.length_append, List.length_cons, Nat.mul_succ] at h2 ⊢
    omega
theorem glue_len {k : Nat} {y : Str} {l : List Str} (h : ∀ z ∈ l, z.length ≤ k) : (Txt.join y l).length ≤ (k + y.length) * l.length := by
  have := joinL_len (k := k) (S := TL.tl y) (l := l.map TL.tl) fun z hz => by
    obtain ⟨q, hq, rfl⟩ := List.mem_map.mp hz
    rw [← TL.len_tl]
    exact h q hq
  rw [TL.len_tl, tl_glue, TL.len_tl y]
  rw [List.length_map] at this
  exact this
theorem nTxt_len {ns : List (Nat × Int)} (ok : NOk ns) : (nTxt ns).length ≤ 24 := by
  have h := glue_len (k := 5) (y := sp1) (l := ns.map nameW) fun y hy => by
    obtain ⟨p, hp, rfl⟩ := List.mem_map.mp hy
    exact nameW_len (ok.pl p hp).1 (ok.pl p hp).2
  have e : sp1.length = 1 := sp1_len
  have := ok.four
  rw [List.length_map, e] at h
  unfold nTxt
  omega
theorem cs_le {cs : List (Int × Int)} (ok : COk cs) : ∀ y ∈ cs.map cellW, y.length ≤ 7 := fun y hy => by
  obtain ⟨p, hp, rfl⟩ := List.mem_map.mp hy
  obtain ⟨a, b, c, d⟩ := ok.pl p hp
  exact cellW_len (by omega) b c d
theorem cTxt_len {cs : List (Int × Int)} (ok : COk cs) : (cTxt cs).length ≤ 3204 := by
  have h := glue_len (k := 7) (y := sp1) (l := cs.map cellW) (cs_le ok)
  have e : sp1.length = 1 := sp1_len
  have := ok.few
  have e2 := none_len
  rw [List.length_map, e] at h
  unfold cTxt
  split
  · omega
  · omega
theorem glue_nil {y : Str} : Txt.join y [] = Str.empty := TL.ext_tl (by rw [tl_glue]; rfl)
theorem glue_pos {k : Nat} {S : List Nat} : ∀ {l : List (List Nat)}, l ≠ [] → (∀ y ∈ l, 1 ≤ y.length) → 1 ≤ (TL.joinL S l).length
  | [y], _, h => h y List.mem_cons_self
  | y :: z :: t, _, h => by
    have h1 := h y List.mem_cons_self
    simp only [TL.joinL, List.length_append]
    omega
theorem cells_pos {cs : List (Int × Int)} (h : cs ≠ []) : 1 ≤ (Txt.join sp1 (cs.map cellW)).length := by
  rw [TL.len_tl, tl_glue]
  refine glue_pos (k := 0) (by simpa using h) fun y hy => ?_
  obtain ⟨q, hq, rfl⟩ := List.mem_map.mp hy
  obtain ⟨p, hp, rfl⟩ := List.mem_map.mp hq
  rw [← TL.len_tl]
  unfold cellW
  rw [len_app, len_app, gt1_len]
  omega
theorem none_of {H H' : Hp} {b : Addr} (e : Same H H') (h : H' b = none) : H b = none := by
  cases q : H b with
  | none => rfl
  | some o => rw [e _ _ q] at h; cases h
theorem sl_le {n : Nat} (h : n ≤ 100000) : n ≤ sizeLine := by
  rw [sizeLine_eq]
  omega
end K1
/-! Data: what it shows, when it is alike. -/
namespace K1
open PySem PySem.Spec L2 Z
def nP (p : Nat × Int) : PyData := .tuple [.str (ch p.1), .int p.2]
def cP (p : Int × Int) : PyData := .tuple [.int p.1, .int p.2]
def nD (ns : List (Nat × Int)) : PyData := .tuple (ns.map nP)
def cD (cs : List (Int × Int)) : PyData := .tuple (cs.map cP)
theorem dp_pairs {α : Type} {K : PySem.W.Frag} {H : Hp} {emb : α → V × V} {dat : α → PyData} (go : ∀ b p, SqT K H b [(emb p).1, (emb p).2] → Dp K H (.ref b) (dat p)) :
    ∀ {rs : List Addr} {ls : List α}, Paired (fun b (p : V × V) => SqT K H b [p.1, p.2]) rs (ls.map emb) → DpAll K H (rs.map V.ref) (ls.map dat)
  | [], [], _ => .nil
  | _ :: _, _ :: _, .cons h t => .cons (go _ _ h) (dp_pairs go t)
theorem dp_n {K : PySem.W.Frag} {H : Hp} {v : V} {ns : List (Nat × Int)} (h : TP K H v (ns.map nV)) : Dp K H v (nD ns) := by
  obtain ⟨a, rs, rfl, ht, hp⟩ := h
  exact .tup ht.sq (dp_pairs (dat := nP) (fun b p q => .tup q (.cons (.str _) (.cons (.int _) .nil))) hp)
theorem dp_c {K : PySem.W.Frag} {H : Hp} {v : V} {cs : List (Int × Int)} (h : TP K H v (cs.map cV)) : Dp K H v (cD cs) := by
  obtain ⟨a, rs, rfl, ht, hp⟩ := h
  exact .tup ht.sq (dp_pairs (dat := cP) (fun b p q => .tup q (.cons (.int _) (.cons (.int _) .nil))) hp)
theorem dp_ints {K : PySem.W.Frag} {H : Hp} : ∀ xs : List Int, DpAll K H (xs.map V.int) (xs.map PyData.int)
  | [] => .nil
  | _ :: t => .cons (.int _) (dp_ints t)
theorem eqv_all {α : Type} [DecidableEq α] {dat : α → PyData} (go : ∀ a b, (dat a).eqv (dat b) = decide (a = b)) : ∀ l m : List α, PyData.eqvAll (l.map dat) (m.map dat) = decide (l = m)
  | [], [] => by simp [PyData.eqvAll]
  | [], _ :: _ => by simp [PyData.eqvAll]
  | _ :: _, [] => by simp [PyData.eqvAll]
  | a :: l, b :: m => by
    rw [List.map_cons, List.map_cons, PyData.eqvAll, go, eqv_all go l m, Bool.eq_iff_iff]
    simp
theorem ch_inj {a b : Nat} : (ch a == ch b) = decide (a = b) := by
  rw [Bool.eq_iff_iff]
  simp only [beq_iff_eq, decide_eq_true_eq]
  refine ⟨fun e => ?_, fun e => by rw [e]⟩
  have := congrArg (fun s : Str => s.cps.toList) e
  simpa [ch] using this
theorem eqv_n (l m : List (Nat × Int)) : (nD l).eqv (nD m) = decide (l = m) := by
  refine Eq.trans (by simp only [nD, PyData.eqv]) (eqv_all (dat := nP) (fun a b => ?_) l m)
  simp only [nP, PyData.eqv, PyData.eqvAll, ch_inj, Bool.and_true]
  rw [Bool.eq_iff_iff]
  simp only [Bool.and_eq_true, decide_eq_true_eq, beq_iff_eq]
  exact ⟨fun h => Prod.ext h.1 h.2, fun h => by rw [h]; exact ⟨rfl, rfl⟩⟩
theorem eqv_c (l m : List (Int × Int)) : (cD l).eqv (cD m) = decide (l = m) := by
  refine Eq.trans (by simp only [cD, PyData.eqv]) (eqv_all (dat := cP) (fun a b => ?_) l m)
  simp only [cP, PyData.eqv, PyData.eqvAll, Bool.and_true]
  rw [Bool.eq_iff_iff]
  simp only [Bool.and_eq_true, decide_eq_true_eq, beq_iff_eq]
  exact ⟨fun h => Prod.ext h.1 h.2, fun h => by rw [h]; exact ⟨rfl, rfl⟩⟩
/-- small: what it shows, how deep it is -/
structure Fit (d : PyData) (n m : Nat) : Prop where
  len : d.shown.length ≤ n
  ok : d.showable = true
  nod : d.hasDict = false
  dep : d.depth ≤ m
theorem fit_le {d : PyData} {n m n' m' : Nat} (h : Fit d n m) (a : n ≤ n') (b : m ≤ m') : Fit d n' m' := ⟨Nat.le_trans h.len a, h.ok, h.nod, Nat.le_trans h.dep b⟩
theorem fit_non : Fit .none 5 0 := ⟨by decide +kernel, rfl, rfl, Nat.le_refl _⟩
theorem fit_bl (b : Bool) : Fit (.bool b) 5 0 := ⟨by cases b <;> decide +kernel, rfl, rfl, Nat.le_refl _⟩
theorem fit_int {i : Int} (h : 0 ≤ i) (h2 : i ≤ 999) : Fit (.int i) 5 0 := ⟨by
  have := num_len h h2
  show (Str.ofString (toString i)).length ≤ 5
  unfold numS at this
  omega, by show decide _ = true; exact decide_eq_true (num_log h h2), rfl, Nat.le_refl _⟩
theorem fit_str {x : Str} {n : Nat} (h : ∀ c ∈ TL.tl x, c < 16 ^ 8) (hn : x.length ≤ n) : Fit (.str x) (10 * n + 2) 0 := ⟨by
  have := StrLaws.reprText_len x h
  show (reprText x).length ≤ _
  omega, rfl, rfl, Nat.le_refl _⟩
theorem fit_all {k m : Nat} : ∀ {ds : List PyData}, (∀ d ∈ ds, Fit d k m) → ((PyData.shownAll ds).map (·.length)).sum ≤ k * ds.length ∧ (PyData.shownAll ds).length = ds.length ∧ PyData.showableAll ds = true ∧ PyData.hasDictAll ds = false ∧ PyData.depthAll ds ≤ m
  | [], _ => ⟨by simp [PyData.shownAll], by simp [PyData.shownAll], by simp [PyData.showableAll], by simp [PyData.hasDictAll], by simp [PyData.depthAll]⟩
  | d :: t, h => by
    obtain ⟨a, b, c, e, f⟩ := fit_all (ds := t) fun x hx => h x (List.mem_cons_of_mem _ hx)
    have q := h d List.mem_cons_self
    have q1 := q.len
    have q4 := q.dep
    refine ⟨?_, ?_, ?_, ?_, ?_⟩
    · simp only [PyData.shownAll, List.map_cons, List.sum_cons, List.length_cons, Nat.mul_succ]
      omega
    · simp only [PyData.shownAll, List.length_cons, b]
    · simp only [PyData.showableAll, q.ok, c, Bool.and_true]
    · simp only [PyData.hasDictAll, q.nod, e, Bool.or_false]
    · simp only [PyData.depthAll]
      omega
theorem fit_list {k m : Nat} {ds : List PyData} (h : ∀ d ∈ ds, Fit d k m) : Fit (.list ds) ((k + 2) * ds.length + 3) (m + 1) := by
  obtain ⟨a, b, c, e, f⟩ := fit_all h
  have l := listText_len_le (PyData.shownAll ds)
  refine ⟨?_, ?_, ?_, ?_⟩
  · simp only [PyData.shown]
    rw [b] at l
    rw [Nat.add_mul]
    omega
  · simp only [PyData.showable, c]
  · simp only [PyData.hasDict, e]
  · simp only [PyData.depth]
    omega
theorem piled_sum (ts : List Str) : piled ts = (ts.map (·.length)).sum + 2 * ts.length := by
  induction ts with
  | nil => rfl
  | cons t r ih => rw [piled_cons, ih, List.map_cons, List.sum_cons, List.length_cons]; omega
theorem tup_len (ts : List Str) : (tupleText ts).length ≤ (ts.map (·.length)).sum + 2 * ts.length + 3 := by
  unfold tupleText
  rw [len_app, len_app]
  have e1 : (("(" : Str)).length = 1 := by decide +kernel
  have e2 : ((if ts.length == 1 then ",)" else ")" : String) : Str).length ≤ 2 := by
    split <;> decide +kernel
  rw [e1]
  rcases ts with _ | ⟨t, r⟩
  · have e3 : (Str.join ", " ([] : List Str)).length = 0 := rfl
    rw [e3]
    omega
  · have := join_length_add (t :: r) (by simp)
    rw [piled_sum] at this
    omega
theorem fit_tup {k m : Nat} {ds : List PyData} (h : ∀ d ∈ ds, Fit d k m) : Fit (.tuple ds) ((k + 2) * ds.length + 3) (m + 1) := by
  obtain ⟨a, b, c, e, f⟩ := fit_all h
  have l := tup_len (PyData.shownAll ds)
  refine ⟨?_, ?_, ?_, ?_⟩
  · simp only [PyData.shown]
    rw [b] at l
    rw [Nat.add_mul]
    omega
  · simp only [PyData.showable, c]
  · simp only [PyData.hasDict, e]
  · simp only [PyData.depth]
    omega
theorem ch_small {c : Nat} (h : c ≤ 122) : ∀ d ∈ TL.tl (ch c), d < 16 ^ 8 := fun d hd => by
  have : d = c := by simpa [ch] using hd
  subst this
  exact Nat.lt_of_le_of_lt h (by decide)
theorem fit_n {ns : List (Nat × Int)} (ok : NOk ns) : Fit (nD ns) 135 2 := by
  have h := fit_tup (k := 31) (m := 1) (ds := ns.map nP) fun d hd => by
    obtain ⟨p, hp, rfl⟩ := List.mem_map.mp hd
    refine fit_le (fit_tup (k := 12) (m := 0) fun d hd => ?_) (show (12 + 2) * 2 + 3 ≤ 31 by decide) (by decide)
    rcases List.mem_cons.mp hd with rfl | hd
    · exact fit_str (n := 1) (ch_small (ok.let_ p hp).2) (Nat.le_refl _)
    · rcases List.mem_cons.mp hd with rfl | hd
      · exact fit_le (fit_int (ok.pl p hp).1 (ok.pl p hp).2) (by decide) (by decide)
      · cases hd
  have := ok.four
  rw [List.length_map] at h
  have e : (31 + 2) * ns.length + 3 ≤ 135 := by omega
  exact fit_le h e (by decide)
theorem fit_c {cs : List (Int × Int)} (ok : COk cs) : Fit (cD cs) 7603 2 := by
  have h := fit_tup (k := 17) (m := 1) (ds := cs.map cP) fun d hd => by
    obtain ⟨p, hp, rfl⟩ := List.mem_map.mp hd
    obtain ⟨a, b, c, e⟩ := ok.pl p hp
    refine fit_le (fit_tup (k := 5) (m := 0) fun d hd => ?_) (show (5 + 2) * 2 + 3 ≤ 17 by decide) (by decide)
    rcases List.mem_cons.mp hd with rfl | hd
    · exact fit_int (by omega) b
    · rcases List.mem_cons.mp hd with rfl | hd
      · exact fit_int c e
      · cases hd
  have := ok.few
  rw [List.length_map] at h
  have e : (17 + 2) * cs.length + 3 ≤ 7603 := by omega
  exact fit_le h e (by decide)
theorem shaped_all {α : Type} {dat : α → PyData} (go : ∀ a, (dat a).canLay0 = true) : ∀ l : List α, PyData.canLayAll0 (l.map dat) = true
  | [] => by simp [PyData.canLayAll0]
  | a :: t => by rw [List.map_cons, PyData.canLayAll0, go, shaped_all go t]; rfl
theorem shape_n {ns : List (Nat × Int)} (ok : NOk ns) : SeqAt.shaped (nD ns) = true := by
  have e1 : ∀ l : List (Nat × Int), (∀ p ∈ l, p.1 ≤ 122) → PyData.canLayAll0 (l.map nP) = true := by
    intro l
    induction l with
    | nil => intro _; simp [PyData.canLayAll0]
    | cons p t ih =>
      intro h
      have h1 := h p List.mem_cons_self
      have : PyData.strOk (ch p.1) = true := by
        show (#[p.1] : Array Nat).all (· < 0x110000) = true
        simp
        omega
      simp only [List.map_cons, PyData.canLayAll0, nP, PyData.canLay0, this, ih fun q hq => h q (List.mem_cons_of_mem _ hq), Bool.and_true]
  have e2 := (fit_n ok).dep
  unfold SeqAt.shaped
  rw [Bool.and_eq_true, decide_eq_true_eq]
  refine ⟨?_, by omega⟩
  simp only [nD, PyData.canLay0]
  exact e1 ns fun p hp => (ok.let_ p hp).2
theorem shape_c {cs : List (Int × Int)} (ok : COk cs) : SeqAt.shaped (cD cs) = true := by
  have e2 := (fit_c ok).dep
  unfold SeqAt.shaped
  rw [Bool.and_eq_true, decide_eq_true_eq]
  refine ⟨?_, by omega⟩
  simp only [cD, PyData.canLay0]
  exact shaped_all (dat := cP) (fun a => by simp only [cP, PyData.canLay0, PyData.canLayAll0, Bool.and_true]) cs
theorem valV_none {kvs : List (Key × V)} {k : Key} (h : k ∉ kvs.map (·.1)) : valV kvs k = none := by
  cases e : valV kvs k with
  | none => rfl
  | some v => exact absurd (valV_in e) h
theorem merge_id : ∀ (more kvs : List (Key × V)), ((kvs ++ more).map (·.1)).Nodup → mergeK kvs more = kvs ++ more
  | [], kvs, _ => by simp [mergeK]
  | p :: t, kvs, h => by
    have hn : p.1 ∉ kvs.map (·.1) := by
      rw [List.map_append, List.nodup_append] at h
      exact fun z => h.2.2 _ z _ (List.mem_map_of_mem List.mem_cons_self) rfl
    have e : mergeK kvs (p :: t) = mergeK (putK kvs p.1 p.2) t := rfl
    rw [e, putK_new _ (valV_none hn), merge_id t _ (by simpa using h)]
    simp
theorem nodup_n {ns : List (Nat × Int)} (ok : NOk ns) : ((kN ns).map (·.1)).Nodup := by
  unfold kN
  rw [List.map_map]
  refine List.pairwise_map.mpr ((List.pairwise_map.mp ok.asc).imp fun {p q} h e => ?_)
  simp only [Function.comp, Sum.inr.injEq] at e
  have := congrArg (fun s : Str => s.cps.toList) e
  simp [ch] at this
  omega
theorem nodup_c {cs : List (Int × Int)} (ok : COk cs) : ((kC cs).map (·.1)).Nodup := by
  unfold kC
  rw [List.map_map]
  refine List.pairwise_map.mpr ((List.pairwise_map.mp ok.asc).imp fun {p q} h e => ?_)
  simp only [Function.comp, Sum.inl.injEq] at e
  omega
theorem merge_n {ns : List (Nat × Int)} (ok : NOk ns) : mergeK [] (kN ns) = kN ns := merge_id (kN ns) [] (by simpa using nodup_n ok)
theorem merge_c {cs : List (Int × Int)} (ok : COk cs) : mergeK [] (kC cs) = kC cs := merge_id (kC cs) [] (by simpa using nodup_c ok)
theorem pair_n {K : PySem.W.Frag} {H : Hp} : ∀ {rs : List Addr} {ns : List (Nat × Int)}, Paired (fun b (p : V × V) => SqT K H b [p.1, p.2]) rs (ns.map nV) → Paired (fun p (kv : Key × V) => SqT K H p [kV kv.1, kv.2]) rs (kN ns)
  | [], [], _ => .nil
  | _ :: _, _ :: _, .cons h t => .cons h (pair_n t)
theorem pair_c {K : PySem.W.Frag} {H : Hp} : ∀ {rs : List Addr} {cs : List (Int × Int)}, Paired (fun b (p : V × V) => SqT K H b [p.1, p.2]) rs (cs.map cV) → Paired (fun p (kv : Key × V) => SqT K H p [kV kv.1, kv.2]) rs (kC cs)
  | [], [], _ => .nil
  | _ :: _, _ :: _, .cons h t => .cons h (pair_c t)
/-- a dict of the seconds of pairs, all with the value true -/
theorem dcP {K : PySem.W.Frag} {rs : List Addr} {ls : List (V × V)} {gs : List Int} {te : TE} {g : TG} {tk tv : TE} {vs : List Nat} {σ : L2.St} {H : Hp} {Q : VK}
    (hte : ∀ R : VK, (∀ a H1, Same H H1 → PT H1 a (rs.map V.ref) → R (.ref a) H1) → te σ H R)
    (hp : Paired (fun b (p : V × V) => SqT K H b [p.1, p.2]) rs ls) (hg : ls.map (·.2) = gs.map V.int) (hz : ls.length ≤ 1000)
    (hs : ∀ (b : Addr) (p : V × V) (i : Int) H' (R : V → V → Hp → Prop), Same H H' → SqT K H' b [p.1, V.int i] → R (.int i) (.bl true) H' → g (.ref b) (wipe σ vs) H' fun σ2 H2 => wipe σ2 vs = wipe σ vs ∧ tk σ2 H2 fun y H4 => tv σ2 H4 fun z H5 => R y z H5)
    (hd : ∀ H' D kvs, Same H H' → H D = none → H' D = some (.dK kvs) → (∀ j : Int, (valV kvs (Sum.inl j : Key)).isSome = decide (j ∈ gs)) → Q (.ref D) H') : tDc (iTup K te) g tYes tk tv vs σ H Q := by
  refine hte _ fun a H1 sm hT => ⟨a, rfl, ⟨_, hT.sq⟩, fun D hD => ?_⟩
  have hp1 := Paired.imm (.of sm) hp
  have hl : rs.length = ls.length := Paired.len hp
  have hgl : ls.length = gs.length := by simpa using congrArg List.length hg
  have hDn : H D = none := by
    cases e : H D with
    | none => rfl
    | some o => rw [sm _ _ e] at hD; cases hD
  refine dc_tup (xs := rs.map V.ref) (fun i H' => Same H1 H' ∧ ∃ kvs : List (Key × V), H' D = some (.dK kvs) ∧ kvs.length ≤ i ∧ ∀ j : Int, (valV kvs (Sum.inl j : Key)).isSome = decide (j ∈ gs.take i)) ⟨same_new hD, [], upd_same, Nat.le_refl _, fun j => by simp [valV_nil]⟩
    (fun i H _ h => (PT.same h.1 hT).sq) (fun i x H' hx h => ?_) (fun H' h => ?_)
  · obtain ⟨s2, kvs, hk, kl, hv⟩ := h
    obtain ⟨b, p, rfl, e1, e2, hq⟩ := pairs_at (Paired.imm (.of s2) hp1) hx
    have hi : i < ls.length := (List.getElem?_eq_some_iff.mp e2).1
    have e3 : (gs.map V.int)[i]? = some p.2 := by rw [← hg, List.getElem?_map, e2]; rfl
    obtain ⟨z, e4, e5⟩ := map_at e3
    rw [e5] at hq
    refine hs b p z H' (fun y z2 H5 => ∃ kvs k, y = kV k ∧ H5 D = some (.dK kvs) ∧ kvs.length < sizeLine ∧ (Same H1 (upd H5 D (.dK (putK kvs k z2))) ∧ ∃ kvs' : List (Key × V), upd H5 D (.dK (putK kvs k z2)) D = some (.dK kvs') ∧ kvs'.length ≤ i + 1 ∧ ∀ j : Int, (valV kvs' (Sum.inl j : Key)).isSome = decide (j ∈ gs.take (i + 1)))) (sm.trans s2) hq
      ⟨kvs, Sum.inl z, rfl, hk, ?_, fun c o e => ?_, _, upd_same, ?_, fun j => ?_⟩
    · exact small1000 (by omega)
    · have nb : c ≠ D := ne_of_none e hD
      rw [upd_ne nb]
      exact s2 _ _ e
    · exact Nat.le_trans (length_putK _ _ _) (by omega)
    · rw [valV_put, List.take_add_one, e4]
      by_cases ej : j = z
      · subst ej
        rw [if_pos rfl]
        simp
      · rw [if_neg (fun q => ej (Sum.inl.inj q)), hv]
        simp [ej]
  · obtain ⟨s2, kvs, hk, _, hv⟩ := h
    rw [List.length_map, hl, hgl, List.take_length] at hv
    exact hd H' D kvs (sm.trans s2) hDn hk hv
/-- t + u, a tuple behind it -/
theorem cat_pt {K : PySem.W.Frag} {H : Hp} {a b : Addr} {xs ys : List V} {R : VK} (ha : PT H a xs) (hb : PT H b ys) (hz : xs.length + ys.length ≤ 10000) (k : ∀ t H1, Same H H1 → PT H1 t (xs ++ ys) → R (.ref t) H1) : rCatP K (.ref a) (.ref b) H R := by
  refine ⟨a, b, xs, ys, rfl, rfl, ha.sq, hb.sq, sl_le (by omega), fun e => k b H (fun _ _ h => h) (by subst e; exact hb), fun _ e => k a H (fun _ _ h => h) (by subst e; rw [List.append_nil]; exact ha), fun _ _ p o hn ho => k p _ (same_new hn) (PT.new ho)⟩
end K1
/-! Comprehensions that make pairs; the signs of a store's text. -/
namespace K1
open PySem PySem.Spec L2 Z
theorem lcMk {α : Type} {K : PySem.W.Frag} {ls : List α} {te : TE} {g : TG} {tel : TE} {vs : List Nat} {σ : L2.St} {H : Hp} {Q : VK} (wd : α → V) (G : α → V × V → Prop) (Pre : Addr → Hp → Prop)
    (hte : ∀ R : VK, (∀ l H1, Pre l H1 → R (.ref l) H1) → te σ H R) (hz : ls.length ≤ 1000) (hq : ∀ l H1, Pre l H1 → ∃ xs, SqL K H1 l xs)
    (hb : ∀ l H1 D, Pre l H1 → H1 D = none → ∃ Iv : Hp → Prop, Iv H1 ∧ (∀ H' o, Iv H' → Iv (upd H' D o)) ∧ (∀ H', Iv H' → SqL K H' l (ls.map wd)) ∧
      (∀ p H' acc (R : V → Hp → Prop), p ∈ ls → Iv H' → H' D = some (.lst acc) → (∀ b q H'', Iv H'' → Imm H' H'' → H'' D = some (.lst acc) → G p q → SqT K H'' b [q.1, q.2] → R (.ref b) H'') →
        g (wd p) (wipe σ vs) H' fun σ2 H2 => wipe σ2 vs = wipe σ vs ∧ tel σ2 H2 R) ∧
      (∀ H' bs qs, Iv H' → H' D = some (.lst (bs.map V.ref)) → Paired (fun b (p : V × V) => SqT K H' b [p.1, p.2]) bs qs → Paired G ls qs → Q (.ref D) H')) : tLc (iList K te) g tYes tel vs σ H Q := by
  refine hte _ fun l H1 pre => ?_
  refine ⟨l, rfl, hq _ _ pre, fun D hD => ?_⟩
  obtain ⟨Iv, i0, iu, il, ih, id⟩ := hb l H1 D pre hD
  refine lc_it (n := ls.length) (fun i H' => Iv H' ∧ ∃ (bs : List Addr) (qs : List (V × V)), bs.length = i ∧ H' D = some (.lst (bs.map V.ref)) ∧ Paired (fun b (p : V × V) => SqT K H' b [p.1, p.2]) bs qs ∧ Paired G (ls.take i) qs)
    ⟨iu _ _ i0, [], [], rfl, upd_same, .nil, .nil⟩ (fun i H' hi h => ⟨ls.map wd, (ls.map wd)[i]'(by simpa using hi), il _ h.1, List.getElem?_eq_getElem _⟩) (fun H' h => ⟨ls.map wd, il _ h.1, by simp⟩) (fun i x H' H2 hi h y => ?_) (fun H' h => ?_)
  · obtain ⟨iv, bs, qs, hl, hk, hp, hg⟩ := h
    obtain ⟨rfl, y⟩ := y
    obtain ⟨p, e1, rfl⟩ := map_at (y _ (il _ iv))
    refine ih p H2 (bs.map V.ref) _ (List.mem_of_getElem? e1) iv hk fun b q H3 iv3 im hk3 gq hq => ?_
    refine ⟨_, hk3, ?_, iu _ _ iv3, bs ++ [b], qs ++ [q], by simp [hl], ?_, ?_, ?_⟩
    · rw [List.length_map]
      exact small1000 (by omega)
    · rw [upd_same, List.map_append]
      rfl
    · have i4 : Imm H3 (upd H3 D (.lst (bs.map V.ref ++ [.ref b]))) := Chg.imm Chg.upd hk3 trivial
      exact Paired.snoc (F := fun b (p : V × V) => SqT K _ b [p.1, p.2]) (x := b) (y := q) (SqT.imm i4 hq) (Paired.imm (im.trans i4) hp)
    · rw [List.take_add_one, e1]
      exact Paired.snoc gq hg
  · obtain ⟨iv, bs, qs, hl, hk, hp, hg⟩ := h
    rw [List.take_length] at hg
    exact id H' bs qs iv hk hp hg
theorem paired_map {α β : Type} {f : α → β} : ∀ {ls : List α} {qs : List β}, Paired (fun p q => q = f p) ls qs → qs = ls.map f
  | _, _, .nil => rfl
  | _, _, .cons h t => by rw [h, paired_map t]; rfl
theorem mem_glue {S : List Nat} {c : Nat} : ∀ {l : List (List Nat)}, c ∈ TL.joinL S l → c ∈ S ∨ ∃ p ∈ l, c ∈ p
  | [], h => by simp [TL.joinL] at h
  | [y], h => .inr ⟨y, List.mem_cons_self, h⟩
  | y :: z :: t, h => by
    simp only [TL.joinL, List.mem_append] at h
    rcases h with h | h | h
    · exact .inr ⟨y, List.mem_cons_self, h⟩
    · exact .inl h
    · rcases mem_glue (l := z :: t) h with h | ⟨p, hp, hc⟩
      · exact .inl h
      · exact .inr ⟨p, List.mem_cons_of_mem _ hp, hc⟩
theorem eq_tl : TL.tl (Str.ofString "=") = [61] := by decide +kernel
theorem gt_tl : TL.tl (Str.ofString ">") = [62] := by decide +kernel
theorem sp_tl : TL.tl sp1 = [32] := by decide +kernel
theorem bar_tl : TL.tl (Str.ofString " | ") = [32, 124, 32] := by decide +kernel
theorem none_tl : TL.tl (Str.ofString "none") = [110, 111, 110, 101] := by decide +kernel
theorem ch_tl (c : Nat) : TL.tl (ch c) = [c] := rfl
theorem nameW_mem {p : Nat × Int} (l1 : 97 ≤ p.1) (l2 : p.1 ≤ 122) (h : 0 ≤ p.2) {c : Nat} (hc : c ∈ TL.tl (nameW p)) : 48 ≤ c ∧ c ≤ 122 := by
  unfold nameW at hc
  rw [TL.tl_append, TL.tl_append, List.mem_append, List.mem_append, ch_tl, eq_tl] at hc
  rcases hc with (hc | hc) | hc
  · have := List.mem_singleton.mp hc
    omega
  · have := List.mem_singleton.mp hc
    omega
  · have := num_dig h c hc
    omega
theorem cellW_mem {p : Int × Int} (h : 0 ≤ p.1) (h2 : 0 ≤ p.2) {c : Nat} (hc : c ∈ TL.tl (cellW p)) : 48 ≤ c ∧ c ≤ 62 := by
  unfold cellW at hc
  rw [TL.tl_append, TL.tl_append, List.mem_append, List.mem_append, gt_tl] at hc
  rcases hc with (hc | hc) | hc
  · have := num_dig h c hc
    omega
  · have := List.mem_singleton.mp hc
    omega
  · have := num_dig h2 c hc
    omega
theorem nTxt_mem {ns : List (Nat × Int)} (ok : NOk ns) {c : Nat} (hc : c ∈ TL.tl (nTxt ns)) : c ≤ 122 := by
  unfold nTxt at hc
  rw [tl_glue, sp_tl] at hc
  rcases mem_glue hc with h | ⟨q, hq, h⟩
  · have := List.mem_singleton.mp h
    omega
  · obtain ⟨r, hr, rfl⟩ := List.mem_map.mp hq
    obtain ⟨p, hp, rfl⟩ := List.mem_map.mp hr
    exact (nameW_mem (ok.let_ p hp).1 (ok.let_ p hp).2 (ok.pl p hp).1 h).2
theorem cJ_mem {cs : List (Int × Int)} (ok : COk cs) {c : Nat} (hc : c ∈ TL.tl (Txt.join sp1 (cs.map cellW))) : c ≤ 62 := by
  rw [tl_glue, sp_tl] at hc
  rcases mem_glue hc with h | ⟨q, hq, h⟩
  · have := List.mem_singleton.mp h
    omega
  · obtain ⟨r, hr, rfl⟩ := List.mem_map.mp hq
    obtain ⟨p, hp, rfl⟩ := List.mem_map.mp hr
    obtain ⟨a, b, d, e⟩ := ok.pl p hp
    exact (cellW_mem (by omega) d h).2
theorem cTxt_mem {cs : List (Int × Int)} (ok : COk cs) {c : Nat} (hc : c ∈ TL.tl (cTxt cs)) : c ≤ 122 := by
  unfold cTxt at hc
  split at hc
  · rw [none_tl] at hc
    simp only [List.mem_cons, List.not_mem_nil, or_false] at hc
    omega
  · have := cJ_mem ok hc
    omega
theorem stTxt_mem {ns : List (Nat × Int)} {cs : List (Int × Int)} (ok : NOk ns) (ck : COk cs) {c : Nat} (hc : c ∈ TL.tl (stTxt ns cs)) : c < 16 ^ 8 := by
  unfold stTxt at hc
  rw [TL.tl_append, TL.tl_append, List.mem_append, List.mem_append, bar_tl] at hc
  refine Nat.lt_of_le_of_lt (m := 124) ?_ (by decide)
  rcases hc with (hc | hc) | hc
  · have := nTxt_mem ok hc
    omega
  · simp only [List.mem_cons, List.not_mem_nil, or_false] at hc
    omega
  · have := cTxt_mem ck hc
    omega
theorem no_bar {l : List Nat} {i : Nat} (h : l[i + 1]? ≠ some 124) : TL.pre [32, 124, 32] (l.drop i) = false := by
  cases e : TL.pre [32, 124, 32] (l.drop i) with
  | false => rfl
  | true =>
    exfalso
    unfold TL.pre at e
    have e2 := eq_of_beq e
    have : ((l.drop i).take 3)[1]? = some 124 := by
      have e3 : ([32, 124, 32] : List Nat).length = 3 := rfl
      rw [e3] at e2
      rw [e2]
      rfl
    rw [List.getElem?_take, if_pos (by decide), List.getElem?_drop] at this
    exact h this
theorem split_st {ns : List (Nat × Int)} {cs : List (Int × Int)} (ok : NOk ns) (ck : COk cs) : Txt.split (stTxt ns cs) (Str.ofString " | ") = [nTxt ns, cTxt cs] := by
  apply TL.map_tl_inj
  have hne : TL.tl (Str.ofString " | ") ≠ [] := by rw [bar_tl]; simp
  rw [TL.split_spl _ _ hne (TL.kind_ok (by decide +kernel))]
  unfold stTxt
  rw [TL.tl_append, TL.tl_append, bar_tl, List.append_assoc]
  rw [TL.spl_part (by simp) (fun i hi => ?_), TL.spl_last (fun i hi => ?_)]
  · rfl
  · refine no_bar fun z => ?_
    have := cTxt_mem ck (List.mem_of_getElem? z)
    omega
  · refine no_bar fun z => ?_
    by_cases hj : i + 1 < (TL.tl (nTxt ns)).length
    · rw [List.getElem?_append_left hj] at z
      have := nTxt_mem ok (List.mem_of_getElem? z)
      omega
    · have e : i + 1 = (TL.tl (nTxt ns)).length := by omega
      rw [List.getElem?_append_right (by omega), e, Nat.sub_self] at z
      simp at z
theorem split_n {ns : List (Nat × Int)} (ok : NOk ns) : Txt.split (nTxt ns) (Str.ofString " ") = ns.map nameW := by
  refine TL.split_join (s := 32) (S := []) sp_tl (by decide +kernel) ?_ ?_
  · intro z
    have := ok.one
    rw [List.map_eq_nil_iff] at z
    subst z
    simp at this
  · intro q hq h
    obtain ⟨p, hp, rfl⟩ := List.mem_map.mp hq
    have := nameW_mem (ok.let_ p hp).1 (ok.let_ p hp).2 (ok.pl p hp).1 h
    omega
theorem split_c {cs : List (Int × Int)} (ck : COk cs) (h : cs ≠ []) : Txt.split (cTxt cs) (Str.ofString " ") = cs.map cellW := by
  unfold cTxt
  rw [if_neg h]
  refine TL.split_join (s := 32) (S := []) sp_tl (by decide +kernel) (by simpa using h) ?_
  intro q hq h
  obtain ⟨p, hp, rfl⟩ := List.mem_map.mp hq
  obtain ⟨a, b, d, e⟩ := ck.pl p hp
  have := cellW_mem (by omega) d h
  omega
theorem none_iff {cs : List (Int × Int)} (ck : COk cs) : decide (V.str (cTxt cs) = V.str (Str.ofString "none")) = decide (cs = []) := by
  by_cases h : cs = []
  · rw [decide_eq_true h]
    exact decide_eq_true (by unfold cTxt; rw [if_pos h])
  · rw [decide_eq_false h]
    refine str_ne fun e => ?_
    unfold cTxt at e
    rw [if_neg h] at e
    have := cJ_mem ck (c := 110) (by rw [e, none_tl]; simp)
    omega
theorem SqL_same {K : PySem.W.Frag} {H H' : Hp} {a : Addr} {xs : List V} (e : Same H H') (h : SqL K H a xs) : SqL K H' a xs := by
  rcases h with (h | ⟨o, h⟩) | h
  · exact .inl (.inl (e _ _ h))
  · exact .inl (.inr ⟨o, e _ _ h⟩)
  · exact .inr h
theorem at_third {α : Type} {xs : List α} {x y z : α} : atI (x :: y :: z :: xs) 2 = some z := at_nat (i := 2) rfl
theorem fm_range {i m : Int} (h : 0 < m) : 0 ≤ i.fmod m ∧ i.fmod m < m := ⟨Int.fmod_nonneg_of_pos i h, Int.fmod_lt_of_pos i h⟩
theorem op_notIn_seqK {X : Cx} {K : PySem.W.Frag} (h : X.K = K) : OpR X (compareOp .NotIn) (rIn K true) := h ▸ op_notIn_seq
theorem cut_mem {xs : List V} {lo hi : Option Int} {x : V} (h : x ∈ cutV xs lo hi) : x ∈ xs := List.mem_of_mem_drop (List.mem_of_mem_take h)
theorem JugAt.of {H : Hp} {j : Addr} {g s c : Int} (h : H j = some (.lst [.int g, .int s, .int c])) (a : -(2 ^ 64) < s) (b : s < 2 ^ 64) : JugAt H j := ⟨g, s, c, h, a, b⟩
theorem at_of {α : Type} {xs : List α} {k : Int} (h : 0 ≤ k) (h2 : k < xs.length) : ∃ x, x ∈ xs ∧ atI xs k = some x := by
  have hk : k.toNat < xs.length := by omega
  refine ⟨xs[k.toNat], List.getElem_mem _, ?_⟩
  have e := at_nat (xs := xs) (i := k.toNat) (List.getElem?_eq_getElem hk)
  rw [Int.toNat_of_nonneg h] at e
  exact e
end K1
/-! Letters: drawn, kept apart, in order. -/
namespace K1
open PySem PySem.Spec PyProof.Rows L2 Z
theorem nz1 : (1000000007 : Int) ≠ 0 := by decide
theorem nz2 : (2147483399 : Int) ≠ 0 := by decide
theorem nz3 : (2147483563 : Int) ≠ 0 := by decide
def cS (c : Nat) : V := .str (ch c)
theorem inV_ch (c : Nat) : ∀ cs : List Nat, inV (cS c) (cs.map cS) = decide (c ∈ cs)
  | [] => by simp [inV]
  | a :: t => by
    have ih := inV_ch c t
    unfold inV at ih ⊢
    rw [List.map_cons, List.any_cons, ih]
    have : eqV (cS a) (cS c) = decide (a = c) := ch_inj
    rw [this, Bool.eq_iff_iff, Bool.or_eq_true, decide_eq_true_eq, decide_eq_true_eq, decide_eq_true_eq, List.mem_cons]
    exact ⟨fun h => h.imp Eq.symm id, fun h => h.imp Eq.symm id⟩
theorem flat_ch (cs : List Nat) : (cs.map cS).all flatV = true := by
  rw [List.all_map, List.all_eq_true]
  intro c _
  rfl
theorem lcF {K : PySem.W.Frag} {a0 a1 a3 a4 a5 a6 : Option V} {H : Hp} {Q : VK} {w : Str} {cs : List Nat} {p : Addr} (hp : H p = some (.lst (cs.map cS))) (hw : w.cps.size ≤ 100)
    (hd : ∀ H' D, Same H H' → H D = none → H' D = some (.lst ((w.cps.toList.filter fun c => !decide (c ∈ cs)).map cS)) → Q (.ref D) H') :
    tLc (iStr (tC (.str w))) (gName 6) (tTest (tOp (rIn K true) (tVar 6) (tVar 2))) (tVar 6) [6] [a0, a1, some (.ref p), a3, a4, a5, a6] H Q := by
  refine ⟨w, rfl, fun D hD => ?_⟩
  refine lc_it (n := w.cps.size) (fun i H' => Same H H' ∧ H' D = some (.lst (((w.cps.toList.take i).filter fun c => !decide (c ∈ cs)).map cS))) ⟨same_new hD, upd_same⟩ (fun i H' hi _ => hi) (fun H' _ => Nat.le_refl _) (fun i x H' H2 hi h y => ?_) (fun H' h => ?_)
  · obtain ⟨sm, hk⟩ := h
    obtain ⟨rfl, c, hc, rfl⟩ := y
    have hc2 : w.cps.toList[i]? = some c := by rw [Array.getElem?_toList]; exact hc
    refine ⟨rfl, _, rfl, _, rfl, p, _, rfl, .inl (.inl (.inl (sm _ _ hp))), rfl, flat_ch cs, _, rfl, ?_⟩
    show if (!inV (cS c) (cs.map cS)) = true then _ else _
    rw [inV_ch]
    by_cases hm : c ∈ cs
    · rw [decide_eq_true hm]
      refine iteF ⟨sm, ?_⟩
      rw [hk, List.take_add_one, hc2, List.filter_append]
      simp [hm]
    · rw [decide_eq_false hm]
      refine iteT ⟨_, rfl, _, hk, ?_, fun b o e => ?_, ?_⟩
      · rw [List.length_map]
        refine small1000 ?_
        have h1 := List.length_filter_le (fun c => !decide (c ∈ cs)) (w.cps.toList.take i)
        rw [List.length_take] at h1
        omega
      · rw [upd_ne (ne_of_none e hD)]
        exact sm _ _ e
      · rw [upd_same, List.take_add_one, hc2, List.filter_append, List.map_append]
        simp [hm]
        rfl
  · refine hd H' D h.1 hD ?_
    have := h.2
    rw [← Array.length_toList, List.take_length] at this
    exact this
theorem nodup_len : ∀ {S cs : List Nat}, S.Nodup → (∀ c ∈ S, c ∈ cs) → S.length ≤ cs.length
  | [], _, _, _ => Nat.zero_le _
  | a :: t, cs, hS, h => by
    obtain ⟨h1, h2⟩ := List.nodup_cons.mp hS
    have ha := h a List.mem_cons_self
    have := nodup_len (S := t) (cs := cs.erase a) h2 fun c hc => (List.mem_erase_of_ne (fun z : c = a => h1 (z ▸ hc))).mpr (h c (List.mem_cons_of_mem _ hc))
    rw [List.length_erase_of_mem ha] at this
    have := List.length_pos_of_mem ha
    rw [List.length_cons]
    omega
theorem left_pos {S cs : List Nat} (hS : S.Nodup) (h : cs.length < S.length) : S.filter (fun c => !decide (c ∈ cs)) ≠ [] := fun e => by
  have sub : ∀ c ∈ S, c ∈ cs := fun c hc => by
    have := List.filter_eq_nil_iff.mp e c hc
    simpa using this
  have := nodup_len hS sub
  omega
theorem rising_le : ∀ (l : List Nat) (a : Nat), risingS (ch a) (l.map ch) = true → (a :: l).Pairwise (· ≤ ·)
  | [], a, _ => by simp
  | b :: t, a, h => by
    have hb : ltCps [b] [a] = false ∧ risingS (ch b) (t.map ch) = true := by
      have h' : (!ltCps [b] [a] && risingS (ch b) (t.map ch)) = true := h
      rw [Bool.and_eq_true, Bool.not_eq_true'] at h'
      exact h'
    have ih := rising_le t b hb.2
    have hab : a ≤ b := by
      by_cases z : b < a
      · have := hb.1
        simp [ltCps, z] at this
      · omega
    refine List.pairwise_cons.mpr ⟨fun c hc => ?_, ih⟩
    rcases List.mem_cons.mp hc with rfl | hc
    · exact hab
    · exact Nat.le_trans hab (List.rel_of_pairwise_cons ih hc)
theorem sorted_ch {ys : List Str} {cs : List Nat} (hp : ys.Perm (cs.map ch)) (hs : sortedS ys = true) (nd : cs.Nodup) : ∃ l : List Nat, ys = l.map ch ∧ l.Perm cs ∧ l.Pairwise (· < ·) := by
  let hd : Str → Nat := fun s => s.cps.toList.headD 0
  have e1 : ∀ y ∈ ys, ch (hd y) = y := fun y hy => by
    obtain ⟨c, _, rfl⟩ := List.mem_map.mp (hp.mem_iff.mp hy)
    rfl
  have e2 : ys = (ys.map hd).map ch := by
    rw [List.map_map]
    conv => lhs; rw [← List.map_id ys]
    exact (List.map_congr_left fun y hy => (e1 y hy).symm)
  have e3 : (ys.map hd).Perm cs := by
    have := hp.map hd
    rw [List.map_map] at this
    have e : hd ∘ ch = id := rfl
    rw [e, List.map_id] at this
    exact this
  have nd2 : (ys.map hd).Nodup := e3.nodup_iff.mpr nd
  refine ⟨ys.map hd, e2, e3, ?_⟩
  have le : (ys.map hd).Pairwise (· ≤ ·) := by
    generalize hq : ys.map hd = l at e2
    subst e2
    cases l with
    | nil => exact .nil
    | cons a t => exact rising_le t a hs
  exact (List.pairwise_and_iff.mpr ⟨le, nd2⟩).imp fun {a b} h => Nat.lt_of_le_of_ne h.1 h.2
theorem JugAt.same {H H' : Hp} {j : Addr} (e : Same H H') (h : JugAt H j) : JugAt H' j := by
  obtain ⟨g, s, c, q, a, b⟩ := h
  exact ⟨g, s, c, e _ _ q, a, b⟩
theorem jug_upd {H : Hp} {j p : Addr} {o : HO} (n : p ≠ j) (h : JugAt H j) : JugAt (upd H p o) j := by
  obtain ⟨g, s, c, q, a, b⟩ := h
  exact ⟨g, s, c, by rw [upd_ne (Ne.symm n)]; exact q, a, b⟩
theorem JugAt.ne {H : Hp} {j p : Addr} (h : JugAt H j) (hp : H p = none) : p ≠ j := by
  obtain ⟨g, s, c, q, a, b⟩ := h
  exact fun z => by rw [z, q] at hp; cases hp
theorem JugAt.neL {H : Hp} {j p : Addr} {o : HO} (h : JugAt H j) (hp : H p = some o) (n : ∀ l, o ≠ .lst l) : p ≠ j := by
  obtain ⟨g, s, c, q, a, b⟩ := h
  exact fun z => by
    rw [z, q] at hp
    exact n _ (Option.some.inj hp).symm
theorem chg_new {j p : Addr} {H H' : Hp} {o : HO} (c : Chg j H H') (hp : H p = none) : Chg j H (upd H' p o) := fun b x e n => by
  rw [upd_ne (ne_of_none e hp)]
  exact c b x e n
theorem none_chg {j p : Addr} {H H' : Hp} (c : Chg j H H') (hj : JugAt H' j) (hp : H' p = none) : H p = none := by
  cases e : H p with
  | none => rfl
  | some o => rw [c p o e (hj.ne hp)] at hp; cases hp
theorem near_let : ∀ c ∈ (Str.ofString "xyzuvw").cps.toList, 97 ≤ c ∧ c ≤ 122 := by
  have e : (Str.ofString "xyzuvw").cps.toList = [120, 121, 122, 117, 118, 119] := by decide +kernel
  rw [e]
  decide
theorem all_let : ∀ c ∈ (Str.ofString "abcdefghijklmnopqrstuvwxyz").cps.toList, 97 ≤ c ∧ c ≤ 122 := by
  have e : (Str.ofString "abcdefghijklmnopqrstuvwxyz").cps.toList = (List.range 26).map (· + 97) := by decide +kernel
  rw [e]
  decide
theorem near_n : (Str.ofString "xyzuvw").cps.toList.length = 6 := by decide +kernel
theorem all_n : (Str.ofString "abcdefghijklmnopqrstuvwxyz").cps.toList.length = 26 := by decide +kernel
theorem chg_imm {j : Addr} {H H' : Hp} (c : Chg j H H') (h : JugAt H j) : Imm H H' := by
  obtain ⟨g, s, n, q, _, _⟩ := h
  exact c.imm q trivial
theorem ints_mem {xs : List Int} {x : V} (h : x ∈ xs.map V.int) : ∃ i, x = .int i ∧ i ∈ xs := by
  obtain ⟨i, hi, rfl⟩ := List.mem_map.mp h
  exact ⟨i, rfl, hi⟩
theorem sl_pt {K : PySem.W.Frag} {H : Hp} {a : Addr} {xs : List V} {lo hi : Option Int} {Q : VK} (h : PT H a xs) (k : ∀ t H1, Same H H1 → PT H1 t (cutV xs lo hi) → Q (.ref t) H1) : rSlP K (.ref a) lo hi H Q := by
  refine ⟨a, xs, rfl, h.sq, fun e => k a H (fun _ _ h => h) ?_, fun _ p o hp ho => k p _ (same_new hp) (PT.new ho)⟩
  have : cutV xs lo hi = xs := by
    unfold cutV
    rw [e.1, e.2, List.drop_zero, Nat.sub_zero, List.take_length]
  rw [this]
  exact h
theorem cut_take {xs : List V} {i : Nat} (h : i ≤ xs.length) : cutV xs none (some (i : Int)) = xs.take i := by
  unfold cutV
  rw [HT.sIx_nat]
  show (xs.drop 0).take (min i xs.length - 0) = xs.take i
  rw [List.drop_zero, Nat.min_eq_left h, Nat.sub_zero]
theorem cut_drop {xs : List V} {i : Nat} (h : i < xs.length) : cutV xs (some ((i : Int) + 1)) none = xs.drop (i + 1) := by
  have e : ((i : Int) + 1) = ((i + 1 : Nat) : Int) := by omega
  unfold cutV
  rw [e, HT.sIx_nat]
  show (xs.drop (min (i + 1) xs.length)).take (xs.length - min (i + 1) xs.length) = xs.drop (i + 1)
  rw [Nat.min_eq_left (by omega), List.take_of_length_le (by rw [List.length_drop]; exact Nat.le_refl _)]
theorem set_fst {α β : Type} {g : β} : ∀ {l : List (α × β)} {i : Nat} {q : α × β}, l[i]? = some q → (l.set i (q.1, g)).map (·.1) = l.map (·.1)
  | [], _, _, h => by simp at h
  | x :: t, 0, q, h => by
    simp at h
    subst h
    rfl
  | x :: t, i + 1, q, h => by
    rw [List.set_cons_succ, List.map_cons, List.map_cons, set_fst (by simpa using h)]
theorem Paired.take {α β : Type} {F : α → β → Prop} : ∀ (i : Nat) {l : List α} {m : List β}, Paired F l m → Paired F (l.take i) (m.take i)
  | 0, _, _, _ => .nil
  | _ + 1, _, _, .nil => .nil
  | i + 1, _, _, .cons h t => .cons h (Paired.take i t)
theorem Paired.drop {α β : Type} {F : α → β → Prop} : ∀ (i : Nat) {l : List α} {m : List β}, Paired F l m → Paired F (l.drop i) (m.drop i)
  | 0, _, _, h => h
  | _ + 1, _, _, .nil => .nil
  | i + 1, _, _, .cons _ t => Paired.drop i t
theorem nok_set {ns : List (Nat × Int)} {i : Nat} {q : Nat × Int} {g : Int} (ok : NOk ns) (h : ns[i]? = some q) (h0 : 0 ≤ g) (h9 : g ≤ 999) : NOk (ns.set i (q.1, g)) := by
  have hq := List.mem_of_getElem? h
  refine ⟨by rw [List.length_set]; exact ok.one, by rw [List.length_set]; exact ok.four, fun p hp => ?_, fun p hp => ?_, by rw [set_fst h]; exact ok.asc⟩
  · rcases List.mem_or_eq_of_mem_set hp with z | rfl
    · exact ok.let_ p z
    · exact ok.let_ q hq
  · rcases List.mem_or_eq_of_mem_set hp with z | rfl
    · exact ok.pl p z
    · exact ⟨h0, h9⟩
theorem cok_set {cs : List (Int × Int)} {i : Nat} {q : Int × Int} {g : Int} (ok : COk cs) (h : cs[i]? = some q) (h0 : 0 ≤ g) (h9 : g ≤ 999) : COk (cs.set i (q.1, g)) := by
  have hq := List.mem_of_getElem? h
  refine ⟨by rw [List.length_set]; exact ok.few, fun p hp => ?_, by rw [set_fst h]; exact ok.asc⟩
  rcases List.mem_or_eq_of_mem_set hp with z | rfl
  · exact ok.pl p z
  · obtain ⟨a, b, _, _⟩ := ok.pl q hq
    exact ⟨a, b, h0, h9⟩
/-- a tuple of pairs with the i-th pair changed -/
theorem tp_set {K : PySem.W.Frag} {H : Hp} {t b : Addr} {rs : List Addr} {ls : List (V × V)} {i : Nat} {x : V × V} (hi : i < ls.length) (ht : PT H t ((rs.map V.ref).take i ++ [V.ref b] ++ (rs.map V.ref).drop (i + 1)))
    (hp : Paired (fun b (p : V × V) => SqT K H b [p.1, p.2]) rs ls) (hb : SqT K H b [x.1, x.2]) : TP K H (.ref t) (ls.set i x) := by
  refine ⟨t, rs.take i ++ [b] ++ rs.drop (i + 1), rfl, by rw [List.map_append, List.map_append, List.map_take, List.map_drop]; exact ht, ?_⟩
  rw [List.set_eq_take_append_cons_drop, if_pos hi]
  have e : ls.take i ++ x :: ls.drop (i + 1) = (ls.take i ++ [x]) ++ ls.drop (i + 1) := by simp
  rw [e]
  exact Paired.app (Paired.snoc (F := fun b (p : V × V) => SqT K H b [p.1, p.2]) (x := b) (y := x) hb (Paired.take i hp)) (Paired.drop (i + 1) hp)
/-- a tuple of pairs, the second of one pair changed -/
theorem change {K : PySem.W.Frag} {H : Hp} {a : Addr} {rs : List Addr} {ls : List (V × V)} {i v : Nat} {x y : V} {go : Int} {σ : L2.St} {Q : VK} (hv : σ[v]? = some (some (.ref a))) (h4 : σ[4]? = some (some (.int go))) (h5 : σ[5]? = some (some (.int (i : Int))))
    (ht : PT H a (rs.map V.ref)) (hp : Paired (fun b (p : V × V) => SqT K H b [p.1, p.2]) rs ls) (hx : ls[i]? = some (x, y)) (hz : ls.length ≤ 1000) (k : ∀ t H', Same H H' → TP K H' (.ref t) (ls.set i (x, .int go)) → Q (.ref t) H') :
    tOp (rCatP K) (tOp (rCatP K) (tSl (rSlP K) (tVar v) tNoPart (tPart (tVar 5))) (tTupP (tCons (tTup (tCons (tOp (rIxT K) (tOp (rIxT K) (tVar v) (tVar 5)) (tC (.int 0))) (tCons (tVar 4) tNil))) tNil)))
      (tSl (rSlP K) (tVar v) (tPart (tOp (rI0 fun i j => .int (i + j)) (tVar 5) (tC (.int 1)))) tNoPart) σ H Q := by
  have hl : rs.length = ls.length := Paired.len hp
  have hi : i < ls.length := (List.getElem?_eq_some_iff.mp hx).1
  have hlm : (rs.map V.ref).length = ls.length := by rw [List.length_map, hl]
  refine ⟨_, hv, _, h5, i, rfl, ?_⟩
  refine sl_pt ht fun t1 H1 s1 p1 => ?_
  rw [cut_take (by rw [hlm]; omega)] at p1
  have hb : rs[i]? = some (rs[i]'(by omega)) := List.getElem?_eq_getElem _
  obtain ⟨q, e2, hq⟩ := Paired.at (Paired.imm (.of s1) hp) hb
  rw [hx] at e2
  cases e2
  refine ⟨_, hv, _, h5, a, _, (i : Int), _, rfl, rfl, (PT.same s1 ht).sq, at_nat (by rw [List.getElem?_map, hb]; rfl), _, _, 0, _, rfl, rfl, hq, at_first, _, h4, by show 2 ≤ sizeLine; exact sl_le (by decide), fun b hbn => ?_⟩
  have s2 := s1.trans (same_new (o := .tup [x, V.int go]) hbn)
  have b2 : upd H1 b (.tup [x, V.int go]) b = some (.tup [x, V.int go]) := upd_same
  have p2 := PT.same (same_new (o := .tup [x, V.int go]) hbn) p1
  generalize upd H1 b (.tup [x, V.int go]) = H2 at s2 b2 p2 ⊢
  refine ⟨by show 1 ≤ sizeLine; exact sl_le (by decide), fun p3 o3 hp3 ho3 => ?_⟩
  have s3 := same_new (o := .frz o3 (.tup [V.ref b])) hp3
  refine cat_pt (PT.same s3 p2) (PT.new ho3) (by rw [List.length_take]; show min i _ + 1 ≤ 10000; omega) fun t4 H4 s4 p4 => ?_
  have s04 := (s2.trans s3).trans s4
  refine ⟨_, hv, _, h5, _, _, rfl, rfl, _, rfl, ?_⟩
  unfold tNoPart
  dsimp only
  refine sl_pt (PT.same s04 ht) fun t5 H5 s5 p5 => ?_
  rw [cut_drop (by rw [hlm]; exact hi)] at p5
  refine cat_pt (PT.same s5 p4) p5 (by rw [List.length_append, List.length_take, List.length_drop, hlm]; show min i _ + 1 + _ ≤ 10000; omega) fun t6 H6 s6 p6 => ?_
  have s06 := (s04.trans s5).trans s6
  exact k t6 H6 s06 (tp_set hi p6 (Paired.imm (.of s06) hp) (.inl (.inl (s6 _ _ (s5 _ _ (s4 _ _ (s3 _ _ b2)))))))
theorem set_map {α β : Type} {f : α → β} (l : List α) (i : Nat) (a : α) : (l.map f).set i (f a) = (l.set i a).map f := by rw [List.map_set]
theorem ix_tupK {X : Cx} {K : PySem.W.Frag} (h : X.K = K) : IxR X (rIxT K) := h ▸ ix_tup
theorem repr_ok {K : PySem.W.Frag} {H : Hp} {a : Addr} {xs : List V} {ds : List PyData} {k m : Nat} (h : SqL K H a xs) (hd : DpAll K H xs ds) (hf : ∀ d ∈ ds, Fit d k m) (hz : (k + 2) * ds.length + 3 ≤ 16000000) (hm : m ≤ 50) :
    Dp K H (.ref a) (.list ds) ∧ (PyData.list ds).showable = true ∧ (PyData.list ds).hasDict = false ∧ (PyData.list ds).depth ≤ 60 ∧ (PyData.list ds).shown.length ≤ sizeLine := by
  have F := fit_list hf
  have e : (PyData.list ds).shown.length ≤ sizeLine := by
    rw [sizeLine_eq]
    have := F.len
    omega
  exact ⟨.lst h hd, F.ok, F.nod, Nat.le_trans F.dep (by omega), e⟩
theorem lTxt_mem {ns : List (Nat × Int)} (ok : NOk ns) : ∀ c ∈ TL.tl (lTxt ns), c < 16 ^ 8 := fun c hc => by
  unfold lTxt at hc
  rw [tl_glue] at hc
  refine Nat.lt_of_le_of_lt (m := 122) ?_ (by decide)
  rcases mem_glue hc with h | ⟨q, hq, h⟩
  · exact absurd h (by show c ∉ TL.tl Str.empty; intro z; cases z)
  · obtain ⟨r, hr, rfl⟩ := List.mem_map.mp hq
    obtain ⟨p, hp, rfl⟩ := List.mem_map.mp hr
    have := List.mem_singleton.mp h
    rw [this]
    exact (ok.let_ p hp).2
theorem lTxt_len {ns : List (Nat × Int)} (ok : NOk ns) : (lTxt ns).length ≤ 4 := by
  have h := glue_len (k := 1) (y := Str.empty) (l := ns.map fun p => ch p.1) fun y hy => by
    obtain ⟨p, hp, rfl⟩ := List.mem_map.mp hy
    exact Nat.le_refl _
  have e : Str.empty.length = 0 := rfl
  have := ok.four
  rw [List.length_map, e] at h
  unfold lTxt
  omega
theorem stTxt_len {ns : List (Nat × Int)} {cs : List (Int × Int)} (ok : NOk ns) (ck : COk cs) : (stTxt ns cs).length ≤ 3231 := by
  have a := nTxt_len ok
  have b := cTxt_len ck
  unfold stTxt
  rw [len_app, len_app, bar_len]
  omega
def tellD (ns : List (Nat × Int)) (cs : List (Int × Int)) : List PyData := [nD ns, cD cs, .str (lTxt ns), .str (stTxt ns cs)]
theorem fit_tell {ns : List (Nat × Int)} {cs : List (Int × Int)} (ok : NOk ns) (ck : COk cs) : ∀ d ∈ tellD ns cs, Fit d 32312 2 := fun d hd => by
  simp only [tellD, List.mem_cons, List.not_mem_nil, or_false] at hd
  rcases hd with rfl | rfl | rfl | rfl
  · exact fit_le (fit_n ok) (by decide) (by decide)
  · exact fit_le (fit_c ck) (by decide) (by decide)
  · exact fit_le (fit_str (lTxt_mem ok) (lTxt_len ok)) (by decide) (by decide)
  · exact fit_le (fit_str (fun c hc => stTxt_mem ok ck hc) (stTxt_len ok ck)) (by decide) (by decide)
theorem fit_ints {ps : List Int} (h : ∀ i ∈ ps, 0 ≤ i ∧ i ≤ 999) : ∀ d ∈ ps.map PyData.int, Fit d 5 0 := fun d hd => by
  obtain ⟨i, hi, rfl⟩ := List.mem_map.mp hd
  exact fit_int (h i hi).1 (h i hi).2
theorem andV_bl {ta tb : TE} {σ : L2.St} {H : Hp} {Q : VK} {c1 c2 : Bool} (h1 : ∀ R : VK, R (.bl c1) H → ta σ H R) (h2 : ∀ R : VK, R (.bl c2) H → tb σ H R) (q : Q (.bl (c1 && c2)) H) : tAndV ta tb σ H Q :=
  h1 _ ⟨c1, rfl, by
    cases c1 with
    | true => exact iteT (h2 _ q)
    | false => exact iteF q⟩
theorem inV_int (z : Int) : ∀ l : List Int, inV (.int z) (l.map V.int) = decide (z ∈ l)
  | [] => by simp [inV]
  | a :: t => by
    have ih := inV_int z t
    unfold inV at ih ⊢
    rw [List.map_cons, List.any_cons, ih]
    have : eqV (.int a) (.int z) = decide (a = z) := by
      show (a == z) = _
      rw [Bool.eq_iff_iff, beq_iff_eq, decide_eq_true_eq]
    rw [this, Bool.eq_iff_iff, Bool.or_eq_true, decide_eq_true_eq, decide_eq_true_eq, decide_eq_true_eq, List.mem_cons]
    exact ⟨fun h => h.imp Eq.symm id, fun h => h.imp Eq.symm id⟩
theorem flat_int (l : List Int) : (l.map V.int).all flatV = true := by
  rw [List.all_map, List.all_eq_true]
  intro c _
  rfl
def lookD (cs : List (Int × Int)) (i : Int) : PyData := match cs.find? (fun p => decide (p.1 = i)) with
  | some p => .int p.2
  | none => .none
theorem dp_look {K : PySem.W.Frag} {H : Hp} (cs : List (Int × Int)) (i : Int) : Dp K H (lookC cs i) (lookD cs i) := by
  unfold lookC lookD
  cases cs.find? fun p => decide (p.1 = i) with
  | none => exact .non
  | some p => exact .int _
theorem fit_look {cs : List (Int × Int)} (ck : COk cs) (i : Int) : Fit (lookD cs i) 5 0 := by
  unfold lookD
  cases h : cs.find? fun p => decide (p.1 = i) with
  | none => exact fit_non
  | some p =>
    obtain ⟨_, _, a, b⟩ := ck.pl p (List.mem_of_find?_eq_some h)
    exact fit_int a b
theorem scal_look (cs : List (Int × Int)) (i : Int) : scal (lookC cs i) (lookC cs i) = true := by
  unfold lookC
  cases cs.find? fun p => decide (p.1 = i) <;> rfl
theorem St.ins {K : PySem.W.Frag} {C : Addr} {H : Hp} {x : Addr} {ns : List (Nat × Int)} {cs : List (Int × Int)} (h : St K C H x ns cs) :
    ∃ (dx : Addr) (fs : List (Str × V)), H x = some (.ins C dx fs) ∧ fs.lookup (Str.ofString "at") = none ∧ fs.lookup (Str.ofString "arrow") = none ∧ fs.lookup (Str.ofString "is_gone") = none := by
  obtain ⟨v, u, dx, pd, ad, ld, ks, S⟩ := h
  exact ⟨dx, _, S.ob, rfl, rfl, rfl⟩
theorem bl_ne {α : Type} [DecidableEq α] (x : α) : V.bl (!decide (x = x)) = V.bl false := by simp
theorem ne0_eq (z : Int) : (!decide (V.int z = V.int 0)) = !decide (z = 0) := by simp
/-- for over a list that a local holds -/
theorem forL {K : PySem.W.Frag} {v : Nat} {l : Addr} {xs : List V} {g : TG} {tb : TS} {D : Ends} {σ : L2.St} {H : Hp} (Pv : Nat → L2.St → Hp → Prop) (hv : σ[v]? = some (some (.ref l))) (h0 : Pv 0 σ H) (hl : ∀ i σ H, i ≤ xs.length → Pv i σ H → SqL K H l xs)
    (hs : ∀ i x σ H, xs[i]? = some x → Pv i σ H → g x σ H fun σ2 H2 => tb { D with nx := Pv (i + 1), ct := Pv (i + 1), bk := D.nx } σ2 H2) (hd : ∀ σ H, Pv xs.length σ H → D.nx σ H) : tFor (iList K (tVar v)) g tb D σ H :=
  ⟨_, hv, l, rfl, ⟨_, hl 0 _ _ (Nat.zero_le _) h0⟩, for_list Pv h0 hl hs hd⟩
end K1
/-! What stands while one turn of the law runs. -/
namespace K1
open PySem PySem.Spec L2 Z
structure RS (K : PySem.W.Frag) (H0 H : Hp) (j : Addr) (v u : V) (pg : Addr) (ns : List (Nat × Int)) (cs : List (Int × Int)) (gs : List Int) : Prop where
  chg : Chg j H0 H
  jug : JugAt H j
  tn : TP K H v (ns.map nV)
  tc : TP K H u (cs.map cV)
  g : H pg = some (.lst (gs.map V.int))
  npg : pg ≠ j
theorem RS.same {K : PySem.W.Frag} {H0 H H' : Hp} {j pg : Addr} {v u : V} {ns : List (Nat × Int)} {cs : List (Int × Int)} {gs : List Int} (e : Same H H') (r : RS K H0 H j v u pg ns cs gs) : RS K H0 H' j v u pg ns cs gs :=
  ⟨r.chg.trans (Chg.of e), r.jug.same e, TP.imm (.of e) r.tn, TP.imm (.of e) r.tc, e _ _ r.g, r.npg⟩
theorem RS.cj {K : PySem.W.Frag} {H0 H H' : Hp} {j pg : Addr} {v u : V} {ns : List (Nat × Int)} {cs : List (Int × Int)} {gs : List Int} (e : Chg j H H') (hj : JugAt H' j) (r : RS K H0 H j v u pg ns cs gs) : RS K H0 H' j v u pg ns cs gs :=
  ⟨r.chg.trans e, hj, TP.imm (chg_imm e r.jug) r.tn, TP.imm (chg_imm e r.jug) r.tc, e _ _ r.g r.npg, r.npg⟩
theorem St.cj {K : PySem.W.Frag} {C j x : Addr} {H H' : Hp} {ns : List (Nat × Int)} {cs : List (Int × Int)} (e : Chg j H H') (hj : JugAt H j) (h : St K C H x ns cs) : St K C H' x ns cs := by
  obtain ⟨g, s, c, q, _, _⟩ := hj
  exact St.chg e q h
theorem same_mk {C : Addr} {H H' : Hp} {x dx : Addr} (hx : H x = none) (hdx : H dx = none) (hne : dx ≠ x) (c : Chg x (upd (upd H dx (.own x)) x (.ins C dx [])) H') : Same H H' := fun b o e => by
  have n1 : b ≠ x := ne_of_none e hx
  have n2 : b ≠ dx := ne_of_none e hdx
  exact c b o (by rw [upd_ne n1, upd_ne n2]; exact e) n1
theorem same_raw {C : Addr} {H : Hp} {x dx : Addr} (hx : H x = none) (hdx : H dx = none) (hne : dx ≠ x) : Same H (upd (upd H dx (.own x)) x (.ins C dx [])) := fun b o e => by
  have n1 : b ≠ x := ne_of_none e hx
  have n2 : b ≠ dx := ne_of_none e hdx
  rw [upd_ne n1, upd_ne n2]
  exact e
theorem names_of : ∀ {lcs : List Nat} {qs : List (V × V)}, Paired (fun c (q : V × V) => ∃ g : Int, q = (cS c, V.int g) ∧ 0 ≤ g ∧ g ≤ 999) lcs qs →
    ∃ ns : List (Nat × Int), qs = ns.map nV ∧ ns.map (·.1) = lcs ∧ ∀ p ∈ ns, 0 ≤ p.2 ∧ p.2 ≤ 999
  | _, _, .nil => ⟨[], rfl, rfl, by simp⟩
  | c :: _, _, .cons ⟨g, e, h⟩ t => by
    obtain ⟨ns, e1, e2, e3⟩ := names_of t
    refine ⟨(c, g) :: ns, by rw [e, e1]; rfl, by rw [List.map_cons, e2], fun p hp => ?_⟩
    rcases List.mem_cons.mp hp with rfl | hp
    · exact h
    · exact e3 p hp
theorem fit_bls {bs : List Bool} : ∀ d ∈ bs.map PyData.bool, Fit d 5 0 := fun d hd => by
  obtain ⟨b, _, rfl⟩ := List.mem_map.mp hd
  exact fit_bl b
theorem dp_bls {K : PySem.W.Frag} {H : Hp} : ∀ bs : List Bool, DpAll K H (bs.map V.bl) (bs.map PyData.bool)
  | [] => .nil
  | _ :: t => .cons (.bl _) (dp_bls t)
theorem repr_bls {K : PySem.W.Frag} {H : Hp} {a : Addr} (bs : List Bool) (h : H a = some (.lst (bs.map V.bl))) (hz : bs.length ≤ 100) :
    Dp K H (.ref a) (.list (bs.map PyData.bool)) ∧ (PyData.list (bs.map PyData.bool)).showable = true ∧ (PyData.list (bs.map PyData.bool)).hasDict = false ∧ (PyData.list (bs.map PyData.bool)).depth ≤ 60 ∧ (PyData.list (bs.map PyData.bool)).shown.length ≤ sizeLine :=
  repr_ok (.inl (.inl h)) (dp_bls bs) fit_bls (by rw [List.length_map]; omega) (by decide)
def two (ns : List (Nat × Int)) (cs : List (Int × Int)) : PyData := .tuple [nD ns, cD cs]
theorem dp_two {K : PySem.W.Frag} {H : Hp} {t : Addr} {v u : V} {ns : List (Nat × Int)} {cs : List (Int × Int)} (h : H t = some (.tup [v, u])) (tn : TP K H v (ns.map nV)) (tc : TP K H u (cs.map cV)) : Dp K H (.ref t) (two ns cs) :=
  .tup (.inl (.inl h)) (.cons (dp_n tn) (.cons (dp_c tc) .nil))
theorem shape_two {ns : List (Nat × Int)} {cs : List (Int × Int)} (ok : NOk ns) (ck : COk cs) : SeqAt.shaped (two ns cs) = true := by
  have a := shape_n ok
  have b := shape_c ck
  have c := (fit_n ok).dep
  have d := (fit_c ck).dep
  unfold SeqAt.shaped at a b ⊢
  rw [Bool.and_eq_true, decide_eq_true_eq] at a b ⊢
  refine ⟨?_, ?_⟩
  · simp only [two, PyData.canLay0, PyData.canLayAll0, a.1, b.1, Bool.and_true]
  · simp only [two, PyData.depth, PyData.depthAll]
    omega
theorem eqv_two (ns ns' : List (Nat × Int)) (cs cs' : List (Int × Int)) : (two ns' cs').eqv (two ns cs) = decide (ns = ns' ∧ cs = cs') := by
  have e : (two ns' cs').eqv (two ns cs) = (decide (ns' = ns) && (decide (cs' = cs) && true)) := by
    simp only [two, PyData.eqv, PyData.eqvAll, eqv_n, eqv_c]
  rw [e, Bool.and_true, Bool.eq_iff_iff, Bool.and_eq_true, decide_eq_true_eq, decide_eq_true_eq, decide_eq_true_eq]
  exact ⟨fun h => ⟨h.1.symm, h.2.symm⟩, fun h => ⟨h.1.symm, h.2.symm⟩⟩
theorem dec_sym (ns ns' : List (Nat × Int)) (cs cs' : List (Int × Int)) : decide (ns' = ns ∧ cs' = cs) = decide (ns = ns' ∧ cs = cs') := by
  rw [Bool.eq_iff_iff, decide_eq_true_eq, decide_eq_true_eq]
  exact ⟨fun h => ⟨h.1.symm, h.2.symm⟩, fun h => ⟨h.1.symm, h.2.symm⟩⟩
theorem at_end {gs : List Int} (h : gs ≠ []) : ∃ z, z ∈ gs ∧ atI (gs.map V.int) (-1) = some (V.int z) := by
  refine ⟨gs.getLast h, List.getLast_mem h, ?_⟩
  have e : gs.map V.int = (gs.dropLast).map V.int ++ [V.int (gs.getLast h)] := by
    conv => lhs; rw [← List.dropLast_concat_getLast h]
    rw [List.map_append]
    rfl
  rw [e]
  exact atI_last _ _
theorem St.get {K : PySem.W.Frag} {C : Addr} {H : Hp} {x : Addr} {ns : List (Nat × Int)} {cs : List (Int × Int)} (h : St K C H x ns cs) :
    ∃ (dx : Addr) (fs : List (Str × V)), H x = some (.ins C dx fs) ∧ fs.lookup (Str.ofString "text") = some (.str (stTxt ns cs)) := by
  obtain ⟨v, u, dx, pd, ad, ld, ks, S⟩ := h
  exact ⟨dx, _, S.ob, rfl⟩
theorem dec_same (ns : List (Nat × Int)) (cs : List (Int × Int)) : decide (ns = ns ∧ cs = cs) = true := by simp
end K1
/-! Ways: steps along the arrows until there is no cell, or one that was seen. -/
namespace K1
open PySem PySem.Spec L2 Z
def nx (cs : List (Int × Int)) (i : Int) : Int := match cs.find? (fun p => decide (p.1 = i)) with
  | some p => p.2
  | none => 0
def steps (cs : List (Int × Int)) : Nat → List Int → Int → List Int × Int
  | 0, a, p => (a, p)
  | k + 1, a, p => if (isC cs p && !decide (p ∈ a)) = true then steps cs k (a ++ [p]) (nx cs p) else (a, p)
def along (cs : List (Int × Int)) (p : Int) : List Int × Int := steps cs (cs.length + 1) [] p
theorem steps_go {cs : List (Int × Int)} {k : Nat} {a : List Int} {p : Int} (h : isC cs p = true) (h2 : p ∉ a) : steps cs (k + 1) a p = steps cs k (a ++ [p]) (nx cs p) := by
  show (if (isC cs p && !decide (p ∈ a)) = true then _ else _) = _
  rw [if_pos]
  rw [h, decide_eq_false h2]
  rfl
theorem steps_end {cs : List (Int × Int)} {a : List Int} {p : Int} (h : isC cs p = false ∨ p ∈ a) : ∀ k, steps cs k a p = (a, p)
  | 0 => rfl
  | k + 1 => by
    show (if (isC cs p && !decide (p ∈ a)) = true then _ else _) = _
    rw [if_neg]
    rcases h with h | h
    · rw [h]
      simp
    · rw [decide_eq_true h]
      simp
theorem get_nx {cs : List (Int × Int)} {p : Int} (h : isC cs p = true) : valV (kC cs) (Sum.inl p : Key) = some (.int (nx cs p)) := by
  rw [find_c]
  have := some_c cs p
  rw [h, find_c, Option.isSome_map] at this
  unfold nx
  cases e : cs.find? fun q => decide (q.1 = p) with
  | none => rw [e] at this; cases this
  | some q => rfl
theorem isC_mem {cs : List (Int × Int)} {p : Int} : isC cs p = true ↔ p ∈ cs.map (·.1) := by
  unfold isC
  rw [List.any_eq_true, List.mem_map]
  constructor
  · rintro ⟨q, hq, e⟩
    exact ⟨q, hq, of_decide_eq_true e⟩
  · rintro ⟨q, hq, e⟩
    exact ⟨q, hq, decide_eq_true e⟩
theorem nodup_lenG {α : Type} [DecidableEq α] : ∀ {S l : List α}, S.Nodup → (∀ c ∈ S, c ∈ l) → S.length ≤ l.length
  | [], _, _, _ => Nat.zero_le _
  | a :: t, l, hS, h => by
    obtain ⟨h1, h2⟩ := List.nodup_cons.mp hS
    have ha := h a List.mem_cons_self
    have h3 := nodup_lenG (S := t) (l := l.erase a) h2 fun c hc => (List.mem_erase_of_ne (fun z : c = a => h1 (z ▸ hc))).mpr (h c (List.mem_cons_of_mem _ hc))
    rw [List.length_erase_of_mem ha] at h3
    have := List.length_pos_of_mem ha
    rw [List.length_cons]
    omega
/-- places of cells, none twice: no more than the cells -/
theorem seen_len {cs : List (Int × Int)} {a : List Int} (nd : a.Nodup) (h : ∀ p ∈ a, isC cs p = true) : a.length ≤ cs.length := by
  have := nodup_lenG (l := cs.map (·.1)) nd fun p hp => isC_mem.mp (h p hp)
  rw [List.length_map] at this
  exact this
theorem nodup_snoc {a : List Int} {p : Int} (nd : a.Nodup) (h : p ∉ a) : (a ++ [p]).Nodup := List.nodup_append.mpr ⟨nd, by simp, fun u hu v hv e => by
  cases List.mem_singleton.mp hv
  exact h (e ▸ hu)⟩
/-- where the steps end there is no cell, or one that was seen -/
theorem steps_stop {cs : List (Int × Int)} : ∀ (k : Nat) (a : List Int) (p : Int), a.Nodup → (∀ q ∈ a, isC cs q = true) → cs.length < k + a.length →
    (isC cs (steps cs k a p).2 = false ∨ (steps cs k a p).2 ∈ (steps cs k a p).1) ∧ (steps cs k a p).1.Nodup ∧ ∀ q ∈ (steps cs k a p).1, isC cs q = true
  | 0, a, p, nd, h, hk => by
    have := seen_len nd h
    omega
  | k + 1, a, p, nd, h, hk => by
    by_cases hc : isC cs p = true ∧ p ∉ a
    · rw [steps_go hc.1 hc.2]
      refine steps_stop k (a ++ [p]) (nx cs p) (nodup_snoc nd hc.2) (fun q hq => ?_) (by rw [List.length_append]; show cs.length < k + (a.length + 1); omega)
      rcases List.mem_append.mp hq with z | z
      · exact h q z
      · rw [List.mem_singleton.mp z]
        exact hc.1
    · have he : isC cs p = false ∨ p ∈ a := by
        cases e : isC cs p with
        | false => exact .inl rfl
        | true => exact .inr (Classical.byContradiction fun z => hc ⟨e, z⟩)
      rw [steps_end he]
      exact ⟨he, nd, h⟩
theorem along_stop (cs : List (Int × Int)) (p : Int) : (isC cs (along cs p).2 = false ∨ (along cs p).2 ∈ (along cs p).1) ∧ (along cs p).1.Nodup ∧ ∀ q ∈ (along cs p).1, isC cs q = true :=
  steps_stop _ _ _ List.nodup_nil (by simp) (by simp)
def idx (a : List Int) (q : Int) : Nat := a.findIdx fun z => decide (z = q)
theorem idx_spec {a : List Int} {q : Int} (h : q ∈ a) : a[idx a q]? = some q ∧ ∀ (m : Nat) (z : Int), m < idx a q → a[m]? = some z → z ≠ q := by
  have hlt : idx a q < a.length := List.findIdx_lt_length_of_exists ⟨q, h, by simp⟩
  refine ⟨?_, fun m z hm hz => ?_⟩
  · have := List.findIdx_getElem (w := hlt)
    have e : a[idx a q] = q := of_decide_eq_true this
    rw [List.getElem?_eq_getElem hlt, e]
  · have := List.not_of_lt_findIdx (p := fun z => decide (z = q)) (xs := a) hm
    obtain ⟨h1, h2⟩ := List.getElem?_eq_some_iff.mp hz
    rw [h2] at this
    simpa using this
theorem index_ok {a : List Int} {q : Int} (h : q ∈ a) : (a.map V.int)[idx a q]? = some (V.int q) ∧ eqV (V.int q) (V.int q) = true ∧ ∀ (m : Nat) (z : V), m < idx a q → (a.map V.int)[m]? = some z → eqV z (V.int q) = false := by
  obtain ⟨h1, h2⟩ := idx_spec h
  refine ⟨by rw [List.getElem?_map, h1]; rfl, ?_, fun m z hm hz => ?_⟩
  · show (q == q) = true
    exact beq_self_eq_true q
  · obtain ⟨i, hi, rfl⟩ := map_at hz
    show (i == q) = false
    exact beq_eq_false_iff_ne.mpr (h2 m i hm hi)
def partsV (cs : List (Int × Int)) (p : Int) : Option (Int × Int) := if isC cs (along cs p).2 = true then some ((idx (along cs p).1 (along cs p).2 : Nat), ((along cs p).1.length : Int) - (idx (along cs p).1 (along cs p).2 : Nat)) else none
section
variable (K : PySem.W.Frag) (C : Addr)
def sp_tail : Sp := fun vs H Q _ => ∃ (x : Addr) (ns : List (Nat × Int)) (cs : List (Int × Int)) (p : Nat × Int), vs = [.ref x, .str (ch p.1)] ∧ St K C H x ns cs ∧ p ∈ ns ∧ ∀ (H' : Hp), Same H H' →
  (partsV cs p.2 = none → Q .non H') ∧ ∀ i j, partsV cs p.2 = some (i, j) → ∀ t, H t = none → H' t = some (.tup [.int i, .int j]) → Q (.ref t) H'
def sp_law_gone_along : Sp := fun vs H Q _ => ∃ (d : Addr) (p : Int) (cs : List (Int × Int)), vs = [.ref d, .int p] ∧ H d = some (.dK (kC cs)) ∧ cs.length ≤ 400 ∧ ∀ (H' : Hp) (t l : Addr), Same H H' → H l = none → H' t = some (.tup [.ref l, .int (along cs p).2]) → H' l = some (.lst ((along cs p).1.map V.int)) → Q (.ref t) H'
def sp_followed : Sp := fun vs H Q _ => ∃ (x : Addr) (ns : List (Nat × Int)) (cs : List (Int × Int)) (p : Nat × Int), vs = [.ref x, .str (ch p.1)] ∧ St K C H x ns cs ∧ p ∈ ns ∧ ∀ (H' : Hp) (t l : Addr), Same H H' → H l = none → H' t = some (.tup [.ref l, .int (along cs p.2).2]) → H' l = some (.lst ((along cs p.2).1.map V.int)) → Q (.ref t) H'
def sp_need_store : Sp := fun vs H Q _ => ∃ (x : Addr) (ns : List (Nat × Int)) (cs : List (Int × Int)), vs = [.ref x] ∧ St K C H x ns cs ∧ Q .non H
def sp_way : Sp := fun vs H Q _ => ∃ (x : Addr) (ns : List (Nat × Int)) (cs : List (Int × Int)) (p : Nat × Int), vs = [.ref x, .str (ch p.1)] ∧ St K C H x ns cs ∧ p ∈ ns ∧ ∀ (H' : Hp) (t : Addr), Same H H' → PT H' t ((along cs p.2).1.map V.int) → Q (.ref t) H'
def sp_way_end : Sp := fun vs H Q _ => ∃ (x : Addr) (ns : List (Nat × Int)) (cs : List (Int × Int)) (p : Nat × Int), vs = [.ref x, .str (ch p.1)] ∧ St K C H x ns cs ∧ p ∈ ns ∧ ∀ (H' : Hp), Same H H' → Q (.int (along cs p.2).2) H'
end
end K1
/-! Dicts made of lists; cells that are reached. -/
namespace K1
open PySem PySem.Spec L2 Z
theorem dc_it {J : It} {n : Nat} {g : TG} {tt : TT} {tk tv : TE} {vs : List Nat} {σ : L2.St} {H1 : Hp} {D : Addr} {Qd : Hp → Prop} (Pv : Nat → Hp → Prop) (h0 : Pv 0 (upd H1 D (.dK []))) (go : ∀ i H, i < n → Pv i H → J.go i H) (stop : ∀ H, Pv n H → J.stop n H)
    (hs : ∀ i x H H', i < n → Pv i H → J.yld i H x H' → g x (wipe σ vs) H' fun σ2 H2 => wipe σ2 vs = wipe σ vs ∧ tt σ2 H2 fun b H3 =>
      if b = true then tk σ2 H3 fun y H4 => tv σ2 H4 fun z H5 => ∃ kvs k, y = kV k ∧ H5 D = some (.dK kvs) ∧ kvs.length < sizeLine ∧ Pv (i + 1) (upd H5 D (.dK (putK kvs k z))) else Pv (i + 1) H3) (hd : ∀ H, Pv n H → Qd H) :
    ∃ W : Nat → Nat → Hp → Prop, (∃ m, W 0 m (upd H1 D (.dK []))) ∧ ∀ i m H, W i m H →
      (J.stop i H ∧ Qd H) ∨ (J.go i H ∧ ∃ Nx : Hp → Prop, (∀ H', Nx H' → ∃ m', m' < m ∧ W (i + 1) m' H') ∧ ∀ x H', J.yld i H x H' → g x (wipe σ vs) H' fun σ2 H2 => wipe σ2 vs = wipe σ vs ∧ tt σ2 H2 fun b H3 =>
        if b = true then tk σ2 H3 fun y H4 => tv σ2 H4 fun z H5 => ∃ kvs k, y = kV k ∧ H5 D = some (.dK kvs) ∧ kvs.length < sizeLine ∧ Nx (upd H5 D (.dK (putK kvs k z))) else Nx H3) := by
  refine ⟨fun i m H => m = n - i ∧ i ≤ n ∧ Pv i H, ⟨n, by simp, Nat.zero_le _, h0⟩, ?_⟩
  rintro i m H ⟨rfl, hi, p⟩
  by_cases hlt : i < n
  · exact .inr ⟨go i H hlt p, Pv (i + 1), fun H' p' => ⟨n - (i + 1), by omega, rfl, hlt, p'⟩, fun x H' y => hs i x H H' hlt p y⟩
  · have e : i = n := by omega
    subst e
    exact .inl ⟨stop H p, hd H p⟩
/-- a dict whose keys are the ints of a list -/
theorem dcI {K : PySem.W.Frag} {gs : List Int} {v : Nat} {l : Addr} {g : TG} {tk tv : TE} {vs : List Nat} {σ : L2.St} {H : Hp} {Q : VK} (hv : σ[v]? = some (some (.ref l))) (hl : H l = some (.lst (gs.map V.int))) (hz : gs.length ≤ 1000)
    (hs : ∀ (i : Int) H' (R : V → V → Hp → Prop), Same H H' → R (.int i) (.bl true) H' → g (.int i) (wipe σ vs) H' fun σ2 H2 => wipe σ2 vs = wipe σ vs ∧ tk σ2 H2 fun y H4 => tv σ2 H4 fun z H5 => R y z H5)
    (hd : ∀ H' D kvs, Same H H' → H D = none → H' D = some (.dK kvs) → (∀ j : Int, (valV kvs (Sum.inl j : Key)).isSome = decide (j ∈ gs)) → Q (.ref D) H') : tDc (iList K (tVar v)) g tYes tk tv vs σ H Q := by
  refine ⟨_, hv, l, rfl, ⟨_, .inl (.inl hl)⟩, fun D hD => ?_⟩
  refine dc_it (n := gs.length) (fun i H' => Same H H' ∧ ∃ kvs : List (Key × V), H' D = some (.dK kvs) ∧ kvs.length ≤ i ∧ ∀ j : Int, (valV kvs (Sum.inl j : Key)).isSome = decide (j ∈ gs.take i)) ⟨same_new hD, [], upd_same, Nat.le_refl _, fun j => by simp [valV_nil]⟩
    (fun i H' hi h => ⟨gs.map V.int, (gs.map V.int)[i]'(by simpa using hi), .inl (.inl (h.1 _ _ hl)), List.getElem?_eq_getElem _⟩) (fun H' h => ⟨gs.map V.int, .inl (.inl (h.1 _ _ hl)), by simp⟩) (fun i x H' H2 hi h y => ?_) (fun H' h => ?_)
  · obtain ⟨s2, kvs, hk, kl, hv⟩ := h
    obtain ⟨rfl, y⟩ := y
    obtain ⟨z, e4, rfl⟩ := map_at (y _ (.inl (.inl (s2 _ _ hl))))
    refine hs z H2 (fun y z2 H5 => ∃ kvs k, y = kV k ∧ H5 D = some (.dK kvs) ∧ kvs.length < sizeLine ∧ (Same H (upd H5 D (.dK (putK kvs k z2))) ∧ ∃ kvs' : List (Key × V), upd H5 D (.dK (putK kvs k z2)) D = some (.dK kvs') ∧ kvs'.length ≤ i + 1 ∧ ∀ j : Int, (valV kvs' (Sum.inl j : Key)).isSome = decide (j ∈ gs.take (i + 1)))) s2
      ⟨kvs, Sum.inl z, rfl, hk, ?_, fun c o e => ?_, _, upd_same, ?_, fun j => ?_⟩
    · exact small1000 (by omega)
    · rw [upd_ne (ne_of_none e hD)]
      exact s2 _ _ e
    · exact Nat.le_trans (length_putK _ _ _) (by omega)
    · rw [valV_put, List.take_add_one, e4]
      by_cases ej : j = z
      · subst ej
        rw [if_pos rfl]
        simp
      · rw [if_neg (fun q => ej (Sum.inl.inj q)), hv]
        simp [ej]
  · obtain ⟨s2, kvs, hk, _, hv⟩ := h
    rw [List.take_length] at hv
    exact hd H' D kvs s2 hD hk hv
def cmV : Option Int → V
  | some z => .int z
  | none => .non
def common (cs : List (Int × Int)) (p q : Int) : Option Int := (along cs p).1.find? fun z => decide (z ∈ (along cs q).1)
def kT (a : List Int) : List (Key × V) := a.map fun z => (Sum.inl z, V.bl true)
def come (cs : List (Int × Int)) (ns : List (Nat × Int)) : List Int := ns.foldl (fun a p => (steps cs (cs.length + 1) a p.2).1) []
theorem val_T (a : List Int) (j : Int) : (valV (kT a) (Sum.inl j : Key)).isSome = decide (j ∈ a) := by
  rw [Bool.eq_iff_iff, decide_eq_true_eq, ← valV_any, List.any_eq_true]
  unfold kT
  constructor
  · rintro ⟨kv, hk, e⟩
    obtain ⟨z, hz, rfl⟩ := List.mem_map.mp hk
    have := of_decide_eq_true e
    cases this
    exact hz
  · intro h
    exact ⟨_, List.mem_map_of_mem h, by simp⟩
theorem put_T {a : List Int} {q : Int} (h : q ∉ a) : putK (kT a) (Sum.inl q : Key) (V.bl true) = kT (a ++ [q]) := by
  have e : valV (kT a) (Sum.inl q : Key) = none := by
    have := val_T a q
    rw [decide_eq_false h] at this
    simpa using this
  rw [putK_new _ e]
  unfold kT
  rw [List.map_append]
  rfl
/-- a comprehension over a tuple of pairs with a test -/
theorem lcPc {α : Type} {K : PySem.W.Frag} {rs : List Addr} {ls : List α} {a : Addr} {g : TG} {te : TE} {tt : TT} {t0 : TE} {vs : List Nat} {σ : L2.St} {H : Hp} {Q : VK} (emb : α → V × V) (f : α → V) (c : α → Bool) (hv : ∀ R : VK, R (.ref a) H → t0 σ H R)
    (hT : PT H a (rs.map V.ref)) (hp : Paired (fun b (p : V × V) => SqT K H b [p.1, p.2]) rs (ls.map emb)) (hz : ls.length ≤ 1000)
    (hs : ∀ b p H' (R : V → Hp → Prop) (R2 : Prop), Same H H' → SqT K H' b [(emb p).1, (emb p).2] → p ∈ ls → (c p = true → R (f p) H') → (c p = false → R2) →
      g (.ref b) (wipe σ vs) H' fun σ2 H2 => wipe σ2 vs = wipe σ vs ∧ tt σ2 H2 fun b H3 => H3 = H' ∧ if b = true then te σ2 H3 R else R2)
    (mono : ∀ b σ H Q Q', (∀ σ2 H2, Q σ2 H2 → Q' σ2 H2) → g b σ H Q → g b σ H Q') (monot : ∀ σ H Q Q', (∀ b H2, Q b H2 → Q' b H2) → tt σ H Q → tt σ H Q')
    (hd : ∀ H' D, Same H H' → H D = none → H' D = some (.lst ((ls.filter c).map f)) → Q (.ref D) H') : tLc (iTup K t0) g tt te vs σ H Q := by
  refine hv _ ⟨a, rfl, ⟨_, hT.sq⟩, fun D hD => ?_⟩
  have hl : rs.length = ls.length := by rw [Paired.len hp, List.length_map]
  refine lc_tup (xs := rs.map V.ref) (fun i H' => Same H H' ∧ H' D = some (.lst (((ls.take i).filter c).map f))) ⟨same_new hD, upd_same⟩ (fun i H' _ h => (PT.same h.1 hT).sq) (fun i x H' hx h => ?_) (fun H' h => hd H' D h.1 hD ?_)
  · obtain ⟨sm, hDl⟩ := h
    obtain ⟨b, p, rfl, e1, e2, hq⟩ := pairs_at (Paired.imm (.of sm) hp) hx
    obtain ⟨q, e3, rfl⟩ := map_at e2
    have hi : i < ls.length := (List.getElem?_eq_some_iff.mp e3).1
    refine mono _ _ _ _ _ (fun σ2 H2 w => ⟨w.1, monot _ _ _ _ (fun b H3 w2 => ?_) w.2⟩) (hs b q H' (fun y H4 => ∃ acc, H4 D = some (.lst acc) ∧ acc.length < sizeLine ∧ Same H (upd H4 D (.lst (acc ++ [y]))) ∧ upd H4 D (.lst (acc ++ [y])) D = some (.lst (((ls.take (i + 1)).filter c).map f)))
      (Same H H' ∧ H' D = some (.lst (((ls.take (i + 1)).filter c).map f))) sm hq (List.mem_of_getElem? e3) (fun hc => ⟨_, hDl, ?_, fun c o e => ?_, ?_⟩) (fun hc => ⟨sm, ?_⟩))
    · obtain ⟨rfl, w3⟩ := w2
      exact w3
    · rw [List.length_map]
      refine small1000 ?_
      have := List.length_filter_le c (ls.take i)
      rw [List.length_take] at this
      omega
    · rw [upd_ne (ne_of_none e hD)]
      exact sm _ _ e
    · rw [upd_same, List.take_add_one, e3, List.filter_append, List.map_append]
      simp [hc]
    · rw [hDl, List.take_add_one, e3, List.filter_append]
      simp [hc]
  · have := h.2
    rw [List.length_map, hl, List.take_length] at this
    exact this
theorem come_ok (cs : List (Int × Int)) : ∀ (ns : List (Nat × Int)) (a : List Int), a.Nodup → (∀ r ∈ a, isC cs r = true) → (ns.foldl (fun a p => (steps cs (cs.length + 1) a p.2).1) a).Nodup ∧ ∀ r ∈ ns.foldl (fun a p => (steps cs (cs.length + 1) a p.2).1) a, isC cs r = true
  | [], a, nd, h => ⟨nd, h⟩
  | p :: t, a, nd, h => by
    have s := steps_stop (cs.length + 1) a p.2 nd h (by omega)
    exact come_ok cs t _ s.2.1 s.2.2
theorem come_len (cs : List (Int × Int)) (ns : List (Nat × Int)) : (come cs ns).length ≤ cs.length := by
  have h := come_ok cs ns [] List.nodup_nil (by simp)
  exact seen_len h.1 h.2
section
variable (K : PySem.W.Frag) (C : Addr)
def sp_first_common : Sp := fun vs H Q _ => ∃ (x : Addr) (ns : List (Nat × Int)) (cs : List (Int × Int)) (p q : Nat × Int), vs = [.ref x, .str (ch p.1), .str (ch q.1)] ∧ St K C H x ns cs ∧ p ∈ ns ∧ q ∈ ns ∧ ∀ (H' : Hp), Same H H' →
  Q (cmV (common cs p.2 q.2)) H'
def sp_reached_cells : Sp := fun vs H Q _ => ∃ (x : Addr) (ns : List (Nat × Int)) (cs : List (Int × Int)), vs = [.ref x] ∧ St K C H x ns cs ∧ ∀ (H' : Hp) (d : Addr), Same H H' → H d = none → H' d = some (.dK (kT (come cs ns))) → Q (.ref d) H'
def sp_lost : Sp := fun vs H Q _ => ∃ (x : Addr) (ns : List (Nat × Int)) (cs : List (Int × Int)), vs = [.ref x] ∧ St K C H x ns cs ∧ ∀ (H' : Hp) (t : Addr), Same H H' → PT H' t (((cs.map (·.1)).filter fun z => !decide (z ∈ come cs ns)).map V.int) → Q (.ref t) H'
def sp_reached : Sp := fun vs H Q _ => ∃ (x : Addr) (ns : List (Nat × Int)) (cs : List (Int × Int)), vs = [.ref x] ∧ St K C H x ns cs ∧ cs.length < 64 ∧ ∀ (H' : Hp) (t : Addr) (l : List Int), Same H H' → l.Perm (come cs ns) → l.Pairwise (· ≤ ·) → PT H' t (l.map V.int) → Q (.ref t) H'
def sp_law_drawn_store : Sp := fun vs H Q _ => ∃ (j pl : Addr) (m : Int) (lcs : List Nat), vs = [.ref j, .ref pl, .int m] ∧ JugAt H j ∧ H pl = some (.lst (lcs.map cS)) ∧ pl ≠ j ∧ 0 ≤ m ∧ m ≤ 30 ∧ 1 ≤ lcs.length ∧ lcs.length ≤ 4 ∧ (∀ c ∈ lcs, 97 ≤ c ∧ c ≤ 122) ∧ lcs.Pairwise (· < ·) ∧
  ∀ (H' : Hp) (t : Addr) (v u : V) (ns : List (Nat × Int)) (cs : List (Int × Int)), Chg j H H' → JugAt H' j → H' t = some (.tup [v, u]) → TP K H' v (ns.map nV) → TP K H' u (cs.map cV) → NOk ns → COk cs → cs.length ≤ 30 → Q (.ref t) H'
end
end K1
/-! The union of ways is one list, however it is gathered. -/
namespace K1
open PySem PySem.Spec L2 Z
/-- what a leads to is in a, or p, or no cell -/
def Closed (cs : List (Int × Int)) (a : List Int) (p : Int) : Prop := ∀ r ∈ a, nx cs r ∈ a ∨ nx cs r = p ∨ isC cs (nx cs r) = false
theorem steps_in {cs : List (Int × Int)} {a : List Int} (h : ∀ r ∈ a, nx cs r ∈ a ∨ isC cs (nx cs r) = false) : ∀ (k : Nat) (b : List Int) (p : Int), p ∈ a ∨ isC cs p = false →
    ∃ c : List Int, (steps cs k b p).1 = b ++ c ∧ ∀ r ∈ c, r ∈ a
  | 0, b, p, _ => ⟨[], by simp [steps], by simp⟩
  | k + 1, b, p, hp => by
    by_cases hc : isC cs p = true ∧ p ∉ b
    · have pa : p ∈ a := by
        rcases hp with z | z
        · exact z
        · rw [hc.1] at z
          cases z
      rw [steps_go hc.1 hc.2]
      obtain ⟨c, e, hcc⟩ := steps_in h k (b ++ [p]) (nx cs p) (h p pa)
      refine ⟨p :: c, by rw [e, List.append_assoc]; rfl, fun r hr => ?_⟩
      rcases List.mem_cons.mp hr with rfl | hr
      · exact pa
      · exact hcc r hr
    · have he : isC cs p = false ∨ p ∈ b := by
        cases e : isC cs p with
        | false => exact .inl rfl
        | true => exact .inr (Classical.byContradiction fun z => hc ⟨e, z⟩)
      rw [steps_end he]
      exact ⟨[], by simp, by simp⟩
theorem filter_all {a b : List Int} (h : ∀ r ∈ b, r ∉ a) : b.filter (fun z => !decide (z ∈ a)) = b := List.filter_eq_self.mpr fun r hr => by
  rw [decide_eq_false (h r hr)]
  rfl
theorem filter_none {a c : List Int} (h : ∀ r ∈ c, r ∈ a) : c.filter (fun z => !decide (z ∈ a)) = [] := List.filter_eq_nil_iff.mpr fun r hr => by
  rw [decide_eq_true (h r hr)]
  simp
theorem steps_union {cs : List (Int × Int)} {a : List Int} (h : ∀ r ∈ a, nx cs r ∈ a ∨ isC cs (nx cs r) = false) : ∀ (k : Nat) (b : List Int) (p : Int), (∀ r ∈ b, r ∉ a) →
    (steps cs k (a ++ b) p).1 = a ++ (steps cs k b p).1.filter (fun z => !decide (z ∈ a))
  | 0, b, p, hb => by
    show a ++ b = a ++ b.filter _
    rw [filter_all hb]
  | k + 1, b, p, hb => by
    by_cases hc : isC cs p = true
    · by_cases h1 : p ∈ a
      · rw [steps_end (.inr (List.mem_append_left b h1))]
        obtain ⟨c, e, hcc⟩ := steps_in h (k + 1) b p (.inl h1)
        rw [e, List.filter_append, filter_all hb, filter_none hcc, List.append_nil]
      · by_cases h2 : p ∈ b
        · rw [steps_end (.inr (List.mem_append_right a h2)), steps_end (.inr h2), filter_all hb]
        · have h3 : p ∉ a ++ b := fun z => by
            rcases List.mem_append.mp z with w | w
            · exact h1 w
            · exact h2 w
          rw [steps_go hc h3, steps_go hc h2, List.append_assoc]
          refine steps_union h k (b ++ [p]) (nx cs p) fun r hr => ?_
          rcases List.mem_append.mp hr with w | w
          · exact hb r w
          · rw [List.mem_singleton.mp w]
            exact h1
    · have hc' : isC cs p = false := by simpa using hc
      rw [steps_end (.inl hc'), steps_end (.inl hc'), filter_all hb]
theorem steps_closed {cs : List (Int × Int)} : ∀ (k : Nat) (a : List Int) (p : Int), a.Nodup → (∀ q ∈ a, isC cs q = true) → cs.length < k + a.length → Closed cs a p →
    ∀ r ∈ (steps cs k a p).1, nx cs r ∈ (steps cs k a p).1 ∨ isC cs (nx cs r) = false
  | 0, a, p, nd, h, hk, _ => by
    have := seen_len nd h
    omega
  | k + 1, a, p, nd, h, hk, cl => by
    by_cases hc : isC cs p = true ∧ p ∉ a
    · rw [steps_go hc.1 hc.2]
      refine steps_closed k (a ++ [p]) (nx cs p) (nodup_snoc nd hc.2) (fun q hq => ?_) (by rw [List.length_append]; show cs.length < k + (a.length + 1); omega) fun r hr => ?_
      · rcases List.mem_append.mp hq with z | z
        · exact h q z
        · rw [List.mem_singleton.mp z]
          exact hc.1
      · rcases List.mem_append.mp hr with z | z
        · rcases cl r z with w | w | w
          · exact .inl (List.mem_append_left _ w)
          · exact .inl (List.mem_append_right _ (by rw [w]; exact List.mem_singleton_self _))
          · exact .inr (.inr w)
        · rw [List.mem_singleton.mp z]
          exact .inr (.inl rfl)
    · have he : isC cs p = false ∨ p ∈ a := by
        cases e : isC cs p with
        | false => exact .inl rfl
        | true => exact .inr (Classical.byContradiction fun z => hc ⟨e, z⟩)
      rw [steps_end he]
      intro r hr
      rcases cl r hr with w | w | w
      · exact .inl w
      · rcases he with z | z
        · exact .inr (by rw [w]; exact z)
        · exact .inl (by rw [w]; exact z)
      · exact .inr w
/-- one more way, gathered by the law's own filter -/
theorem come_step {cs : List (Int × Int)} {a : List Int} (p : Int) (nd : a.Nodup) (h : ∀ q ∈ a, isC cs q = true) (cl : ∀ r ∈ a, nx cs r ∈ a ∨ isC cs (nx cs r) = false) :
    (steps cs (cs.length + 1) a p).1 = a ++ (along cs p).1.filter (fun z => !decide (z ∈ a)) ∧ (steps cs (cs.length + 1) a p).1.Nodup ∧ (∀ q ∈ (steps cs (cs.length + 1) a p).1, isC cs q = true) ∧
      ∀ r ∈ (steps cs (cs.length + 1) a p).1, nx cs r ∈ (steps cs (cs.length + 1) a p).1 ∨ isC cs (nx cs r) = false := by
  have u := steps_union cl (cs.length + 1) [] p (by simp)
  rw [List.append_nil] at u
  have s := steps_stop (cs.length + 1) a p nd h (by omega)
  exact ⟨u, s.2.1, s.2.2, steps_closed _ _ _ nd h (by omega) fun r hr => (cl r hr).elim .inl fun z => .inr (.inr z)⟩
def sp_law_knots (K : PySem.W.Frag) : Sp := fun vs H Q _ => ∃ (v : V) (d : Addr) (ns : List (Nat × Int)) (cs : List (Int × Int)), vs = [v, .ref d] ∧ TP K H v (ns.map nV) ∧ H d = some (.dK (kC cs)) ∧ NOk ns ∧ cs.length ≤ 400 ∧
  ∀ (H' : Hp) (t lf lc : Addr), Same H H' → H' t = some (.tup [.ref lf, .ref lc]) → H' lc = some (.lst ((come cs ns).map V.int)) → Q (.ref t) H'
def sp_law_way_right (K : PySem.W.Frag) (C : Addr) : Sp := fun vs H Q _ => ∃ (x : Addr) (v : V) (d : Addr) (ns : List (Nat × Int)) (cs : List (Int × Int)) (i : Nat), vs = [.ref x, v, .ref d, .int (i : Int)] ∧ St K C H x ns cs ∧ TP K H v (ns.map nV) ∧ H d = some (.dK (kC cs)) ∧ i < ns.length ∧ ∀ H', Same H H' → Q (.bl true) H'
theorem nx_range {cs : List (Int × Int)} (ck : COk cs) (p : Int) : 0 ≤ nx cs p ∧ nx cs p ≤ 999 := by
  unfold nx
  cases h : cs.find? fun q => decide (q.1 = p) with
  | none => exact ⟨by decide, by decide⟩
  | some q =>
    obtain ⟨_, _, a, b⟩ := ck.pl q (List.mem_of_find?_eq_some h)
    exact ⟨a, b⟩
theorem steps_range {cs : List (Int × Int)} (ck : COk cs) : ∀ (k : Nat) (a : List Int) (p : Int), 0 ≤ p → p ≤ 999 → 0 ≤ (steps cs k a p).2 ∧ (steps cs k a p).2 ≤ 999
  | 0, a, p, h, h2 => ⟨h, h2⟩
  | k + 1, a, p, h, h2 => by
    by_cases hc : isC cs p = true ∧ p ∉ a
    · rw [steps_go hc.1 hc.2]
      exact steps_range ck k _ _ (nx_range ck p).1 (nx_range ck p).2
    · have he : isC cs p = false ∨ p ∈ a := by
        cases e : isC cs p with
        | false => exact .inl rfl
        | true => exact .inr (Classical.byContradiction fun z => hc ⟨e, z⟩)
      rw [steps_end he]
      exact ⟨h, h2⟩
theorem along_range {cs : List (Int × Int)} (ck : COk cs) {p : Int} (h : 0 ≤ p) (h2 : p ≤ 999) : (0 ≤ (along cs p).2 ∧ (along cs p).2 ≤ 999) ∧ ∀ z ∈ (along cs p).1, 0 ≤ z ∧ z ≤ 999 := by
  refine ⟨steps_range ck _ _ _ h h2, fun z hz => ?_⟩
  obtain ⟨q, hq, rfl⟩ := List.mem_map.mp (isC_mem.mp ((along_stop cs p).2.2 z hz))
  obtain ⟨a, b, _, _⟩ := ck.pl q hq
  exact ⟨by omega, b⟩
def partsD (cs : List (Int × Int)) (p : Int) : PyData := match partsV cs p with
  | some (i, j) => .tuple [.int i, .int j]
  | none => .none
def wayD (cs : List (Int × Int)) (p : Int) : List PyData := [.tuple ((along cs p).1.map PyData.int), .int (along cs p).2, partsD cs p]
theorem idx_lt {a : List Int} {q : Int} (h : q ∈ a) : idx a q < a.length := (List.getElem?_eq_some_iff.mp (idx_spec h).1).1
theorem fit_way {cs : List (Int × Int)} (ck : COk cs) {p : Int} (h : 0 ≤ p) (h2 : p ≤ 999) : ∀ d ∈ wayD cs p, Fit d 2803 1 := fun d hd => by
  have ar := along_range ck h h2
  have ast := along_stop cs p
  have sl := seen_len ast.2.1 ast.2.2
  have c4 := ck.few
  simp only [wayD, List.mem_cons, List.not_mem_nil, or_false] at hd
  rcases hd with rfl | rfl | rfl
  · have F := fit_tup (fit_ints ar.2)
    rw [List.length_map] at F
    have e : (5 + 2) * (along cs p).1.length + 3 ≤ 2803 := by omega
    exact fit_le F e (by decide)
  · exact fit_le (fit_int ar.1.1 ar.1.2) (by decide) (by decide)
  · unfold partsD partsV
    by_cases hc : isC cs (along cs p).2 = true
    · rw [if_pos hc]
      have hin : (along cs p).2 ∈ (along cs p).1 := by
        rcases ast.1 with z | z
        · rw [hc] at z
          cases z
        · exact z
      have il := idx_lt hin
      refine fit_le (fit_tup (k := 5) (m := 0) fun d hd => ?_) (show (5 + 2) * 2 + 3 ≤ 2803 by decide) (by decide)
      rcases List.mem_cons.mp hd with rfl | hd
      · exact fit_int (by omega) (by omega)
      · rcases List.mem_cons.mp hd with rfl | hd
        · exact fit_int (by omega) (by omega)
        · cases hd
    · rw [if_neg hc]
      exact fit_le fit_non (by decide) (by decide)
theorem dp_way {K : PySem.W.Frag} {H : Hp} {cs : List (Int × Int)} {p : Int} {t : Addr} {w : V} (ht : PT H t ((along cs p).1.map V.int)) (hw : Dp K H w (partsD cs p)) : DpAll K H [.ref t, .int (along cs p).2, w] (wayD cs p) :=
  .cons (.tup ht.sq (dp_ints _)) (.cons (.int _) (.cons hw .nil))
theorem dp_parts {K : PySem.W.Frag} {H : Hp} {cs : List (Int × Int)} {p i j : Int} {t : Addr} (e : partsV cs p = some (i, j)) (h : H t = some (.tup [.int i, .int j])) : Dp K H (.ref t) (partsD cs p) := by
  unfold partsD
  rw [e]
  exact .tup (.inl (.inl h)) (.cons (.int _) (.cons (.int _) .nil))
theorem dp_parts0 {K : PySem.W.Frag} {H : Hp} {cs : List (Int × Int)} {p : Int} (e : partsV cs p = none) : Dp K H .non (partsD cs p) := by
  unfold partsD
  rw [e]
  exact .non
end K1
/-! Parts of stores: the law's own store, the promises. -/
namespace K6
open PySem PySem.Spec L2 Z K1
theorem ifT {c : Bool} {A B : Prop} (hc : c = true) (h : A) : if c = true then A else B := by
  rw [if_pos hc]
  exact h
theorem ifF {c : Bool} {A B : Prop} (hc : c = false) (h : B) : if c = true then A else B := by
  rw [hc, if_neg Bool.false_ne_true]
  exact h
theorem set_int {T : V → Prop} {x y : Int} (e : x = y) (h : T (.int y)) : T (.int x) := by
  rw [e]
  exact h
theorem ints_all : ∀ {L : List V}, (∀ x ∈ L, ∃ z : Int, x = .int z) → ∃ ns : List Int, L = ns.map V.int
  | [], _ => ⟨[], rfl⟩
  | x :: L, h => by
    obtain ⟨z, rfl⟩ := h x (.head _)
    obtain ⟨ns, e⟩ := ints_all (L := L) fun y hy => h y (.tail _ hy)
    exact ⟨z :: ns, by rw [e]; rfl⟩
/-- cells as a dict holds them: in any order, no place twice -/
structure DOk (cs : List (Int × Int)) : Prop where
  few : cs.length ≤ 11
  pl : ∀ p ∈ cs, 1 ≤ p.1 ∧ p.1 ≤ 999 ∧ 0 ≤ p.2 ∧ p.2 ≤ 999
  nd : (cs.map (·.1)).Nodup
def keyLe (p q : Int × Int) : Bool := decide (p.1 ≤ q.1)
def srt (cs : List (Int × Int)) : List (Int × Int) := cs.mergeSort keyLe
theorem srt_perm (cs : List (Int × Int)) : (srt cs).Perm cs := List.mergeSort_perm cs keyLe
theorem asc_of {ks : List Int} (h : ks.Pairwise (· ≤ ·)) (n : ks.Nodup) : ks.Pairwise (· < ·) := by
  refine (h.and n).imp fun {a b} e => ?_
  obtain ⟨e1, e2⟩ := e
  omega
theorem srt_le (cs : List (Int × Int)) : ((srt cs).map (·.1)).Pairwise (· ≤ ·) := by
  have h := List.pairwise_mergeSort (le := keyLe) (fun a b c h1 h2 => by
    unfold keyLe at *
    simp only [decide_eq_true_eq] at *
    omega) (fun a b => by
    unfold keyLe
    simp only [Bool.or_eq_true, decide_eq_true_eq]
    omega) cs
  rw [List.pairwise_map]
  refine h.imp fun {a b} e => ?_
  simpa [keyLe] using e
theorem srt_asc {cs : List (Int × Int)} (n : (cs.map (·.1)).Nodup) : ((srt cs).map (·.1)).Pairwise (· < ·) :=
  asc_of (srt_le cs) (((srt_perm cs).map _).nodup_iff.mpr n)
theorem srt_ok {cs : List (Int × Int)} (d : DOk cs) : COk (srt cs) := by
  refine ⟨?_, fun p hp => d.pl p ((srt_perm cs).mem_iff.mp hp), srt_asc d.nd⟩
  rw [(srt_perm cs).length_eq]
  have := d.few
  omega
/-- two ascending lists of the same numbers are one -/
theorem asc_uniq : ∀ {l m : List Int}, l.Pairwise (· < ·) → m.Pairwise (· < ·) → l.Perm m → l = m := by
  intro l m h1 h2 p
  exact List.Perm.eq_of_pairwise (le := (· < ·)) (fun a b _ _ h3 h4 => by omega) h1 h2 p
theorem pair_uniq {l m : List (Int × Int)} (h1 : (l.map (·.1)).Pairwise (· < ·)) (h2 : (m.map (·.1)).Pairwise (· < ·)) (p : l.Perm m) : l = m :=
  List.Perm.eq_of_pairwise (le := fun a b : Int × Int => a.1 < b.1) (fun a b _ _ h3 h4 => by omega) (List.pairwise_map.mp h1) (List.pairwise_map.mp h2) p
theorem srt_self {cs : List (Int × Int)} (h : (cs.map (·.1)).Pairwise (· < ·)) : srt cs = cs :=
  pair_uniq (srt_asc (h.imp fun e => by omega)) h (srt_perm cs)
def val (cs : List (Int × Int)) (k : Int) : Int := match cs.find? (fun p => decide (p.1 = k)) with
  | some p => p.2
  | none => 0
theorem val_of : ∀ {cs : List (Int × Int)} {p : Int × Int}, (cs.map (·.1)).Nodup → p ∈ cs → val cs p.1 = p.2
  | q :: cs, p, n, hp => by
    unfold val
    rw [List.map_cons, List.nodup_cons] at n
    rcases List.mem_cons.mp hp with rfl | hp
    · rw [List.find?_cons_of_pos (by simp)]
    · have ne : ¬ q.1 = p.1 := fun z => n.1 (by rw [z]; exact List.mem_map.mpr ⟨p, hp, rfl⟩)
      rw [List.find?_cons_of_neg (by simpa using ne)]
      exact val_of n.2 hp
/-- the law's store: a list of two dicts -/
def LS (H : Hp) (s : Addr) (ns : List (Nat × Int)) (cs : List (Int × Int)) : Prop := ∃ d0 d1 : Addr, H s = some (.lst [.ref d0, .ref d1]) ∧ H d0 = some (.dK (kN ns)) ∧ H d1 = some (.dK (kC cs))
theorem LS.same {H H' : Hp} {s : Addr} {ns : List (Nat × Int)} {cs : List (Int × Int)} (e : Same H H') (h : LS H s ns cs) : LS H' s ns cs := by
  obtain ⟨d0, d1, h1, h2, h3⟩ := h
  exact ⟨d0, d1, e _ _ h1, e _ _ h2, e _ _ h3⟩
theorem LS.chg {j : Addr} {H H' : Hp} {s : Addr} {ns : List (Nat × Int)} {cs : List (Int × Int)} (e : Chg j H H') (hj : JugAt H j) (n : s ≠ j) (h : LS H s ns cs) : LS H' s ns cs := by
  obtain ⟨d0, d1, h1, h2, h3⟩ := h
  exact ⟨d0, d1, e _ _ h1 n, e _ _ h2 (hj.neL h2 fun l z => nomatch z), e _ _ h3 (hj.neL h3 fun l z => nomatch z)⟩
section
variable (K : PySem.W.Frag) (C : Addr)
def q_need_store : Sp := fun vs H Q _ => ∃ (x : Addr) (ns : List (Nat × Int)) (cs : List (Int × Int)), vs = [.ref x] ∧ St K C H x ns cs ∧ Q .non H
def q_need_cells : Sp := fun vs H Q _ => ∃ (a x : Addr) (ks : List Int) (ns : List (Nat × Int)) (cs : List (Int × Int)), vs = [.ref a, .ref x] ∧ SqT K H a (ks.map V.int) ∧ St K C H x ns cs ∧ ks.length ≤ 400 ∧ ks.Pairwise (· < ·) ∧ (∀ k ∈ ks, k ∈ cs.map (·.1)) ∧ ∀ H', Same H H' → Q .non H'
def pick (ks : List Int) (b : Bool) (cs : List (Int × Int)) : List (Int × Int) := cs.filter fun p => decide (decide (p.1 ∈ ks) = b)
def q_part (b0 : Option Bool) : Sp := fun vs H Q _ => ∃ (x a : Addr) (ks : List Int) (ns : List (Nat × Int)) (cs : List (Int × Int)) (b : Bool), vs = (match b0 with | none => [.ref x, .ref a, .bl b] | some _ => [.ref x, .ref a]) ∧ (∀ c, b0 = some c → b = c) ∧ SqT K H a (ks.map V.int) ∧ St K C H x ns cs ∧ ks.length ≤ 400 ∧ (b0 ≠ none → ks.Pairwise (· < ·) ∧ ∀ k ∈ ks, k ∈ cs.map (·.1)) ∧
  ∀ H' y, Same H H' → H y = none → St K C H' y ns (pick ks b cs) → Q (.ref y) H'
def q_laid : Sp := fun vs H Q _ => ∃ (x y : Addr) (ns : List (Nat × Int)) (as bs : List (Int × Int)), vs = [.ref x, .ref y] ∧ St K C H x ns as ∧ St K C H y ns bs ∧ as.length + bs.length ≤ 400 ∧ (∀ p ∈ as, p.1 ∉ bs.map (·.1)) ∧
  ∀ H' z, Same H H' → H z = none → St K C H' z ns (srt (as ++ bs)) → Q (.ref z) H'
def q_take : Sp := fun vs H Q _ => ∃ (j : Addr) (m : Int), vs = [.ref j, .int m] ∧ JugAt H j ∧ 1 ≤ m ∧ m ≤ 1000000 ∧ ∀ (H' : Hp) (k : Int), Chg j H H' → JugAt H' j → 0 ≤ k → k < m → Q (.int k) H'
def q_places : Sp := fun vs H Q _ => ∃ (j : Addr) (m : Int), vs = [.ref j, .int m] ∧ JugAt H j ∧ 1 ≤ m ∧ m ≤ 12 ∧ ∀ (H' : Hp) (p : Addr) (ps : List Int), Chg j H H' → JugAt H' j → H p = none → H' p = some (.lst (ps.map V.int)) → (ps.length : Int) = m → (∀ i ∈ ps, 1 ≤ i ∧ i ≤ 999) → Q (.ref p) H'
def q_store : Sp := fun vs H Q _ => ∃ (j l : Addr) (ls : List Nat), vs = [.ref j, .ref l, .int 9] ∧ JugAt H j ∧ H l = some (.lst (ls.map fun c => V.str (ch c))) ∧ l ≠ j ∧ 1 ≤ ls.length ∧ ls.length ≤ 4 ∧ (∀ c ∈ ls, 97 ≤ c ∧ c ≤ 122) ∧ ls.Pairwise (· < ·) ∧
  ∀ (H' : Hp) (s d0 d1 : Addr) (ns : List (Nat × Int)) (cs : List (Int × Int)), Chg j H H' → JugAt H' j → H s = none → H d0 = none → d0 ≠ d1 → H' s = some (.lst [.ref d0, .ref d1]) → H' d0 = some (.dK (kN ns)) → H' d1 = some (.dK (kC cs)) → NOk ns → DOk cs → ns.map (·.1) = ls → Q (.ref s) H'
def q_text : Sp := fun vs H Q _ => ∃ (s : Addr) (ns : List (Nat × Int)) (cs : List (Int × Int)), vs = [.ref s] ∧ LS H s ns cs ∧ NOk ns ∧ DOk cs ∧ ∀ H', Same H H' → Q (.str (stTxt ns (srt cs))) H'
def q_made : Sp := fun vs H Q _ => ∃ (s : Addr) (ns : List (Nat × Int)) (cs : List (Int × Int)), vs = [.ref s] ∧ LS H s ns cs ∧ NOk ns ∧ DOk cs ∧ ∀ H' x, Same H H' → H x = none → St K C H' x ns (srt cs) → Q (.ref x) H'
def q_lpart : Sp := fun vs H Q _ => ∃ (s l : Addr) (ks : List Int) (ns : List (Nat × Int)) (cs : List (Int × Int)), vs = [.ref s, .ref l] ∧ LS H s ns cs ∧ H l = some (.lst (ks.map V.int)) ∧ DOk cs ∧ ks.length ≤ 9 ∧ ks.Nodup ∧ (∀ k ∈ ks, k ∈ cs.map (·.1)) ∧
  ∀ H' p, Same H H' → H p = none → LS H' p ns (ks.map fun k => (k, val cs k)) → Q (.ref p) H'
def q_part_right : Sp := fun vs H Q _ => ∃ (x s : Addr) (ns : List (Nat × Int)) (cs : List (Int × Int)), vs = [.ref x, .ref s] ∧ St K C H x ns (srt cs) ∧ LS H s ns cs ∧ NOk ns ∧ DOk cs ∧ ∀ H', Same H H' → Q (.bl true) H'
end
end K6
/-! Walks. -/
namespace K6
open PySem PySem.Spec L2 Z K1
theorem yesI {σ : L2.St} {H : Hp} {A B : Hp → Prop} (h : A H) : tYes σ H fun b H3 => if b = true then A H3 else B H3 := by
  show if true = true then A H else B H
  rw [if_pos rfl]
  exact h
theorem cr_setLW {X : Cx} {K : PySem.W.Frag} {w : World} (hK : X.K = K) (hw : X.w = w) (hc : X.calm = true) : CallR X (.type "set") (rSetL K w) := hK ▸ hw ▸ cr_setL hc
theorem cr_sortedSetW {X : Cx} {w : World} (hw : X.w = w) (hc : X.calm = true) : CallR X (.builtin "sorted") (rSortedSet w) := hw ▸ cr_sortedSet hc
theorem ix_listK {X : Cx} {K : PySem.W.Frag} (h : X.K = K) : IxR X (rIxL K) := h ▸ ix_list
theorem op_eqDK {X : Cx} {K : PySem.W.Frag} (h : X.K = K) (hu : X.A.units + 64 < cLine) : OpR X (compareOp .Eq) (rEqD K) := h ▸ op_eqD hu
theorem op_neDK {X : Cx} {K : PySem.W.Frag} (h : X.K = K) (hu : X.A.units + 64 < cLine) : OpR X (compareOp .NotEq) (rNeD K) := h ▸ op_neD hu
/-- a comprehension that makes nothing but its list -/
theorem lc_pure {J : It} {n : Nat} {g : TG} {tt : TT} {te : TE} {vs : List Nat} {σ : L2.St} {H1 : Hp} {D : Addr} {Qd : Hp → Prop} (Xs : Nat → V) (c : Nat → Bool) (F : Nat → V) (hD : H1 D = none) (hn : n ≤ 10000)
    (go : ∀ i H, i < n → Same H1 H → J.go i H) (stop : ∀ H, Same H1 H → J.stop n H) (yl : ∀ i H x H', i < n → Same H1 H → J.yld i H x H' → H' = H ∧ x = Xs i)
    (hs : ∀ i H' (R1 : Hp → Prop) (R2 : V → Hp → Prop), i < n → Same H1 H' → (∀ H'', Same H' H'' → c i = false → R1 H'') → (∀ H'', Same H' H'' → c i = true → R2 (F i) H'') →
      g (Xs i) (wipe σ vs) H' fun σ2 H2 => wipe σ2 vs = wipe σ vs ∧ tt σ2 H2 fun b H3 => if b = true then te σ2 H3 R2 else R1 H3)
    (hd : ∀ H, Same H1 H → H D = some (.lst (((List.range n).filter c).map F)) → Qd H) :
    ∃ W : Nat → Nat → Hp → Prop, (∃ m, W 0 m (upd H1 D (.lst []))) ∧ ∀ i m H, W i m H →
      (J.stop i H ∧ Qd H) ∨ (J.go i H ∧ ∃ Nx : Hp → Prop, (∀ H', Nx H' → ∃ m', m' < m ∧ W (i + 1) m' H') ∧ ∀ x H', J.yld i H x H' → g x (wipe σ vs) H' fun σ2 H2 => wipe σ2 vs = wipe σ vs ∧ tt σ2 H2 fun b H3 =>
        if b = true then te σ2 H3 fun y H4 => ∃ acc, H4 D = some (.lst acc) ∧ acc.length < sizeLine ∧ Nx (upd H4 D (.lst (acc ++ [y]))) else Nx H3) := by
  refine lc_it (n := n) (fun i H => Same H1 H ∧ H D = some (.lst (((List.range i).filter c).map F))) ⟨same_new hD, upd_same⟩ (fun i H hi h => go i H hi h.1) (fun H h => stop H h.1) (fun i x H H2 hi h y => ?_) (fun H h => hd H h.1 h.2)
  obtain ⟨sm, hk⟩ := h
  obtain ⟨rfl, rfl⟩ := yl i H x H2 hi sm y
  refine hs i H2 _ _ hi sm (fun H3 s3 hc => ⟨sm.trans s3, ?_⟩) (fun H3 s3 hc => ⟨_, s3 _ _ hk, ?_, ?_, ?_⟩)
  · rw [s3 _ _ hk, List.range_succ, List.filter_append]
    simp [hc]
  · rw [List.length_map]
    have := List.length_filter_le c (List.range i)
    rw [List.length_range] at this
    exact Nat.lt_of_lt_of_le (show _ < 20000 by omega) (sl_le (by decide))
  · intro b o e
    rw [upd_ne (ne_of_none e hD)]
    exact s3 _ _ (sm _ _ e)
  · rw [upd_same, List.range_succ, List.filter_append, List.map_append]
    simp [hc]
/-- over a list that stays, by an expression -/
theorem lcL {α : Type} {K : PySem.W.Frag} {te0 : TE} {g : TG} {tt : TT} {te : TE} {vs : List Nat} {σ : L2.St} {H : Hp} {Q : VK} (ls : List α) (wd : α → V) (c : α → Bool) (F : α → V) (hz : ls.length ≤ 10000)
    (hte : ∀ R : VK, (∀ l H1, Same H H1 → SqL K H1 l (ls.map wd) → R (.ref l) H1) → te0 σ H R)
    (hs : ∀ x H' (R1 : Hp → Prop) (R2 : V → Hp → Prop), x ∈ ls → Same H H' → (∀ H'', Same H' H'' → c x = false → R1 H'') → (∀ H'', Same H' H'' → c x = true → R2 (F x) H'') →
      g (wd x) (wipe σ vs) H' fun σ2 H2 => wipe σ2 vs = wipe σ vs ∧ tt σ2 H2 fun b H3 => if b = true then te σ2 H3 R2 else R1 H3)
    (hd : ∀ H' D, Same H H' → H D = none → H' D = some (.lst ((ls.filter c).map F)) → Q (.ref D) H') : tLc (iList K te0) g tt te vs σ H Q := by
  refine hte _ fun l H1 s1 hl => ⟨l, rfl, ⟨_, hl⟩, fun D hD => ?_⟩
  by_cases h0 : ls = []
  · subst h0
    refine lc_pure (n := 0) (fun _ => V.non) (fun _ => true) (fun _ => V.non) hD (by omega) (fun i H' hi => by omega) (fun H' sm => ⟨_, SqL_same sm hl, Nat.le_refl _⟩) (fun i H' x H2 hi => by omega) (fun i _ _ _ hi => by omega) (fun H' sm hk => ?_)
    exact hd H' D (s1.trans sm) (none_of s1 hD) hk
  · obtain ⟨a0, l0, e0⟩ := List.exists_cons_of_ne_nil h0
    haveI : Inhabited α := ⟨a0⟩
    have at_ : ∀ i, i < ls.length → ls[i]? = some (ls.getD i default) := fun i hi => by
      rw [List.getD_eq_getElem?_getD, List.getElem?_eq_getElem hi]; rfl
    have ex : (List.range ls.length).map (fun i => ls.getD i default) = ls := by
      apply List.ext_getElem?
      intro i
      rw [List.getElem?_map]
      by_cases hi : i < ls.length
      · rw [List.getElem?_range hi, at_ i hi]; rfl
      · rw [List.getElem?_eq_none (by simpa using hi), List.getElem?_eq_none (by omega)]; rfl
    refine lc_pure (n := ls.length) (fun i => wd (ls.getD i default)) (fun i => c (ls.getD i default)) (fun i => F (ls.getD i default)) hD hz
      (fun i H' hi sm => ⟨ls.map wd, wd (ls.getD i default), SqL_same sm hl, by rw [List.getElem?_map, at_ i hi]; rfl⟩) (fun H' sm => ⟨ls.map wd, SqL_same sm hl, by simp⟩) (fun i H' x H2 hi sm y => ?_)
      (fun i H' R1 R2 hi sm h1 h2 => hs _ H' R1 R2 (List.mem_of_getElem? (at_ i hi)) (s1.trans sm) h1 h2) (fun H' sm hk => ?_)
    · obtain ⟨e1, y⟩ := y
      have y2 := y _ (SqL_same sm hl)
      rw [List.getElem?_map, at_ i hi] at y2
      exact ⟨e1, (Option.some.inj y2).symm⟩
    · refine hd H' D (s1.trans sm) (none_of s1 hD) ?_
      rw [hk]
      congr 2
      conv => rhs; rw [← ex]
      rw [List.filter_map, List.map_map]
      rfl
/-- over a tuple -/
theorem lcT {α : Type} {K : PySem.W.Frag} {te0 : TE} {g : TG} {tt : TT} {te : TE} {vs : List Nat} {σ : L2.St} {H : Hp} {Q : VK} (ls : List α) (wd : α → V) (c : α → Bool) (F : α → V) (hz : ls.length ≤ 10000)
    (hte : ∀ R : VK, (∀ l H1, Same H H1 → SqT K H1 l (ls.map wd) → R (.ref l) H1) → te0 σ H R)
    (hs : ∀ x H' (R1 : Hp → Prop) (R2 : V → Hp → Prop), x ∈ ls → Same H H' → (∀ H'', Same H' H'' → c x = false → R1 H'') → (∀ H'', Same H' H'' → c x = true → R2 (F x) H'') →
      g (wd x) (wipe σ vs) H' fun σ2 H2 => wipe σ2 vs = wipe σ vs ∧ tt σ2 H2 fun b H3 => if b = true then te σ2 H3 R2 else R1 H3)
    (hd : ∀ H' D, Same H H' → H D = none → H' D = some (.lst ((ls.filter c).map F)) → Q (.ref D) H') : tLc (iTup K te0) g tt te vs σ H Q := by
  refine hte _ fun l H1 s1 hl => ⟨l, rfl, ⟨_, hl⟩, fun D hD => ?_⟩
  by_cases h0 : ls = []
  · subst h0
    refine lc_pure (n := 0) (fun _ => V.non) (fun _ => true) (fun _ => V.non) hD (by omega) (fun i H' hi => by omega) (fun H' sm => ⟨_, SqT.imm (.of sm) hl, Nat.le_refl _⟩) (fun i H' x H2 hi => by omega) (fun i _ _ _ hi => by omega) (fun H' sm hk => ?_)
    exact hd H' D (s1.trans sm) (none_of s1 hD) hk
  · obtain ⟨a0, l0, e0⟩ := List.exists_cons_of_ne_nil h0
    haveI : Inhabited α := ⟨a0⟩
    have at_ : ∀ i, i < ls.length → ls[i]? = some (ls.getD i default) := fun i hi => by
      rw [List.getD_eq_getElem?_getD, List.getElem?_eq_getElem hi]; rfl
    have ex : (List.range ls.length).map (fun i => ls.getD i default) = ls := by
      apply List.ext_getElem?
      intro i
      rw [List.getElem?_map]
      by_cases hi : i < ls.length
      · rw [List.getElem?_range hi, at_ i hi]; rfl
      · rw [List.getElem?_eq_none (by simpa using hi), List.getElem?_eq_none (by omega)]; rfl
    refine lc_pure (n := ls.length) (fun i => wd (ls.getD i default)) (fun i => c (ls.getD i default)) (fun i => F (ls.getD i default)) hD hz
      (fun i H' hi sm => ⟨ls.map wd, wd (ls.getD i default), SqT.imm (.of sm) hl, by rw [List.getElem?_map, at_ i hi]; rfl⟩) (fun H' sm => ⟨ls.map wd, SqT.imm (.of sm) hl, by simp⟩) (fun i H' x H2 hi sm y => ?_)
      (fun i H' R1 R2 hi sm h1 h2 => hs _ H' R1 R2 (List.mem_of_getElem? (at_ i hi)) (s1.trans sm) h1 h2) (fun H' sm hk => ?_)
    · obtain ⟨e1, y⟩ := y
      have y2 := y _ (SqT.imm (.of sm) hl)
      rw [List.getElem?_map, at_ i hi] at y2
      exact ⟨e1, (Option.some.inj y2).symm⟩
    · refine hd H' D (s1.trans sm) (none_of s1 hD) ?_
      rw [hk]
      congr 2
      conv => rhs; rw [← ex]
      rw [List.filter_map, List.map_map]
      rfl
theorem lcF6 {K : PySem.W.Frag} {a0 a1 a3 a4 a5 : Option V} {H : Hp} {Q : VK} {w : Str} {cs : List Nat} {p : Addr} (hp : H p = some (.lst (cs.map cS))) (hw : w.cps.size ≤ 100)
    (hd : ∀ H' D, Same H H' → H D = none → H' D = some (.lst ((w.cps.toList.filter fun c => !decide (c ∈ cs)).map cS)) → Q (.ref D) H') :
    tLc (iStr (tC (.str w))) (gName 5) (tTest (tOp (rIn K true) (tVar 5) (tVar 2))) (tVar 5) [5] [a0, a1, some (.ref p), a3, a4, a5] H Q := by
  refine ⟨w, rfl, fun D hD => ?_⟩
  refine lc_it (n := w.cps.size) (fun i H' => Same H H' ∧ H' D = some (.lst (((w.cps.toList.take i).filter fun c => !decide (c ∈ cs)).map cS))) ⟨same_new hD, upd_same⟩ (fun i H' hi _ => hi) (fun H' _ => Nat.le_refl _) (fun i x H' H2 hi h y => ?_) (fun H' h => ?_)
  · obtain ⟨sm, hk⟩ := h
    obtain ⟨rfl, c, hc, rfl⟩ := y
    have hc2 : w.cps.toList[i]? = some c := by rw [Array.getElem?_toList]; exact hc
    refine ⟨rfl, _, rfl, _, rfl, p, _, rfl, .inl (.inl (.inl (sm _ _ hp))), rfl, flat_ch cs, _, rfl, ?_⟩
    show if (!inV (cS c) (cs.map cS)) = true then _ else _
    rw [inV_ch]
    by_cases hm : c ∈ cs
    · rw [decide_eq_true hm]
      refine iteF ⟨sm, ?_⟩
      rw [hk, List.take_add_one, hc2, List.filter_append]
      simp [hm]
    · rw [decide_eq_false hm]
      refine iteT ⟨_, rfl, _, hk, ?_, fun b o e => ?_, ?_⟩
      · rw [List.length_map]
        refine small1000 ?_
        have h1 := List.length_filter_le (fun c => !decide (c ∈ cs)) (w.cps.toList.take i)
        rw [List.length_take] at h1
        omega
      · rw [upd_ne (ne_of_none e hD)]
        exact sm _ _ e
      · rw [upd_same, List.take_add_one, hc2, List.filter_append, List.map_append]
        simp [hm]
        rfl
  · refine hd H' D h.1 hD ?_
    have := h.2
    rw [← Array.length_toList, List.take_length] at this
    exact this

/-- over a list: each turn makes a new pair -/
theorem lcN {α : Type} {K : PySem.W.Frag} {te0 : TE} {g : TG} {te : TE} {vs : List Nat} {σ : L2.St} {H : Hp} {Q : VK} (ls : List α) (wd : α → V) (emb : α → V × V) (hz : ls.length ≤ 10000)
    (hte : ∀ R : VK, (∀ l H1, Same H H1 → SqL K H1 l (ls.map wd) → R (.ref l) H1) → te0 σ H R)
    (hs : ∀ x H' (R : V → Hp → Prop), x ∈ ls → Same H H' → (∀ H'' b, Same H' H'' → H'' b = some (.tup [(emb x).1, (emb x).2]) → R (.ref b) H'') →
      g (wd x) (wipe σ vs) H' fun σ2 H2 => wipe σ2 vs = wipe σ vs ∧ te σ2 H2 R)
    (hd : ∀ H' D rs, Same H H' → H D = none → H' D = some (.lst (rs.map V.ref)) → Paired (fun b (p : V × V) => SqT K H' b [p.1, p.2]) rs (ls.map emb) → Q (.ref D) H') : tLc (iList K te0) g tYes te vs σ H Q := by
  refine hte _ fun l H1 s1 hl => ⟨l, rfl, ⟨_, hl⟩, fun D hD => ?_⟩
  refine lc_it (n := ls.length) (fun i H' => Same H1 H' ∧ ∃ rs, H' D = some (.lst (rs.map V.ref)) ∧ Paired (fun b (p : V × V) => SqT K H' b [p.1, p.2]) rs ((ls.take i).map emb)) ⟨same_new hD, [], upd_same, .nil⟩
    (fun i H' hi h => ⟨ls.map wd, (ls.map wd)[i]'(by simpa using hi), SqL_same h.1 hl, List.getElem?_eq_getElem _⟩) (fun H' h => ⟨ls.map wd, SqL_same h.1 hl, by simp⟩) (fun i v H' H2 hi h y => ?_) (fun H' h => ?_)
  · obtain ⟨sm, rs, hk, hp⟩ := h
    obtain ⟨rfl, y⟩ := y
    obtain ⟨x, ex, rfl⟩ := map_at (y _ (SqL_same sm hl))
    have key := hs x H2 (fun y H4 => ∃ acc, H4 D = some (.lst acc) ∧ acc.length < sizeLine ∧ (Same H1 (upd H4 D (.lst (acc ++ [y]))) ∧ ∃ rs, upd H4 D (.lst (acc ++ [y])) D = some (.lst (rs.map V.ref)) ∧ Paired (fun b (p : V × V) => SqT K (upd H4 D (.lst (acc ++ [y]))) b [p.1, p.2]) rs ((ls.take (i + 1)).map emb))) (List.mem_of_getElem? ex) (s1.trans sm) (fun H3 b s3 hb => ⟨_, s3 _ _ hk, ?_, ?_⟩)
    · exact key
    · rw [List.length_map, Paired.len hp, List.length_map, List.length_take]
      exact Nat.lt_of_lt_of_le (show _ < 20000 by omega) (sl_le (by decide))
    · have im : Imm H3 (upd H3 D (.lst (rs.map V.ref ++ [V.ref b]))) := Chg.imm Chg.upd (s3 _ _ hk) trivial
      refine ⟨fun a o e => ?_, rs ++ [b], by rw [upd_same, List.map_append]; rfl, ?_⟩
      · rw [upd_ne (ne_of_none e hD)]
        exact s3 _ _ (sm _ _ e)
      · rw [List.take_add_one, ex, List.map_append]
        exact Paired.snoc (F := fun b (p : V × V) => SqT K _ b [p.1, p.2]) (x := b) (y := emb x) (.inl (.inl (im.1 _ _ hb))) (Paired.imm ((Imm.of s3).trans im) hp)
  · obtain ⟨sm, rs, hk, hp⟩ := h
    rw [List.take_length] at hp
    exact hd H' D rs (s1.trans sm) (none_of s1 hD) hk hp
/-- over the keys of a dict -/
theorem lcD {α : Type} {td : TE} {g : TG} {te : TE} {vs : List Nat} {σ : L2.St} {H : Hp} {Q : VK} {d : Addr} (ls : List α) (ky : α → Key) (vl F : α → V) (hz : ls.length ≤ 10000) (hH : H d = some (.dK (ls.map fun x => (ky x, vl x))))
    (hte : ∀ (od : Obj) (R : VK), R (.ref d) (upd H d (.frz od (.dK (ls.map fun x => (ky x, vl x))))) → td σ (upd H d (.frz od (.dK (ls.map fun x => (ky x, vl x))))) R)
    (hs : ∀ (od : Obj) x H' (R : V → Hp → Prop), x ∈ ls → Same (upd H d (.frz od (.dK (ls.map fun x => (ky x, vl x))))) H' → (∀ H'', Same H' H'' → R (F x) H'') →
      g (kV (ky x)) (wipe σ vs) H' fun σ2 H2 => wipe σ2 vs = wipe σ vs ∧ te σ2 H2 R)
    (hd : ∀ H' D, Same H H' → H D = none → H' D = some (.lst (ls.map F)) → Q (.ref D) H') : tLockE (tLc (iKeys td) g tYes te vs) σ H Q := by
  refine ⟨d, _, hH, trivial, fun od => ?_⟩
  have eL : upd H d (.frz od (.dK (ls.map fun x => (ky x, vl x)))) d = some (.frz od (.dK (ls.map fun x => (ky x, vl x)))) := upd_same
  have hs1 := hs od
  refine hte od _ ⟨d, od, rfl, .inl ⟨_, eL, fun D hD => ?_⟩⟩
  generalize hHL : upd H d (.frz od (.dK (ls.map fun x => (ky x, vl x)))) = HL at *
  have nD : D ≠ d := fun z => by
    rw [z, eL] at hD
    cases hD
  have hD0 : H D = none := by
    rw [← hHL, upd_ne nD] at hD
    exact hD
  have at_ : ∀ i, i < ls.length → ∃ x, ls[i]? = some x := fun i hi => ⟨_, List.getElem?_eq_getElem hi⟩
  refine lc_it (n := ls.length) (fun i H' => Same HL H' ∧ H' D = some (.lst ((ls.take i).map F))) ⟨same_new hD, upd_same⟩
    (fun i H' hi h => ⟨h.1 _ _ eL, by rw [List.length_map]; exact hi⟩) (fun H' h => ⟨h.1 _ _ eL, by rw [List.length_map]; exact Nat.le_refl _⟩) (fun i v H' H2 hi h y => ?_) (fun H' h => ?_)
  · obtain ⟨sm, hk⟩ := h
    obtain ⟨rfl, k0, v0, e0, rfl⟩ := y
    obtain ⟨x, ex⟩ := at_ i hi
    rw [List.getElem?_map, ex] at e0
    cases e0
    refine hs1 x H2 (fun y H4 => ∃ acc, H4 D = some (.lst acc) ∧ acc.length < sizeLine ∧ (Same HL (upd H4 D (.lst (acc ++ [y]))) ∧ upd H4 D (.lst (acc ++ [y])) D = some (.lst ((ls.take (i + 1)).map F)))) (List.mem_of_getElem? ex) sm (fun H3 s3 => ⟨_, s3 _ _ hk, ?_, ?_⟩)
    · rw [List.length_map, List.length_take]
      exact Nat.lt_of_lt_of_le (show _ < 20000 by omega) (sl_le (by decide))
    · refine ⟨fun a o e => ?_, by rw [upd_same, List.take_add_one, ex, List.map_append]; rfl⟩
      rw [upd_ne (ne_of_none e hD)]
      exact s3 _ _ (sm _ _ e)
  · obtain ⟨sm, hk⟩ := h
    rw [List.take_length] at hk
    refine ⟨sm _ _ eL, hd _ D (fun b o e => ?_) hD0 ?_⟩
    · by_cases hb : b = d
      · rw [hb, hH] at e
        cases e
        rw [hb, upd_same]
      · rw [upd_ne hb]
        refine sm _ _ ?_
        rw [← hHL, upd_ne hb]
        exact e
    · rw [upd_ne nD]
      exact hk
end K6
/-! Cells and names as dicts. -/
namespace K6
open PySem PySem.Spec L2 Z K1 PyProof.Rows
def putc (cs : List (Int × Int)) (k v : Int) : List (Int × Int) := if k ∈ cs.map (·.1) then cs.map (fun p => if p.1 = k then (p.1, v) else p) else cs ++ [(k, v)]
theorem putK_kC (cs : List (Int × Int)) (k v : Int) : putK (kC cs) (Sum.inl k : Key) (.int v) = kC (putc cs k v) := by
  unfold putK putc
  have e : ((kC cs).any fun kv => decide (kv.1 = (Sum.inl k : Key))) = decide (k ∈ cs.map (·.1)) := by
    unfold kC
    rw [List.any_map, Bool.eq_iff_iff, List.any_eq_true, decide_eq_true_eq, List.mem_map]
    constructor
    · rintro ⟨p, hp, h⟩
      exact ⟨p, hp, by simpa using h⟩
    · rintro ⟨p, hp, h⟩
      exact ⟨p, hp, by simp [h]⟩
  rw [e]
  by_cases h : k ∈ cs.map (·.1)
  · rw [if_pos h, if_pos (decide_eq_true h)]
    unfold kC
    rw [List.map_map, List.map_map]
    refine List.map_congr_left fun p hp => ?_
    show (if (Sum.inl p.1 : Key) = Sum.inl k then ((Sum.inl p.1 : Key), V.int v) else (Sum.inl p.1, V.int p.2)) = _
    by_cases q : p.1 = k
    · rw [if_pos (by rw [q])]
      show _ = ((fun p : Int × Int => ((Sum.inl p.1 : Key), V.int p.2)) (if p.1 = k then (p.1, v) else p))
      rw [if_pos q]
    · rw [if_neg (fun z => q (Sum.inl.inj z))]
      show _ = ((fun p : Int × Int => ((Sum.inl p.1 : Key), V.int p.2)) (if p.1 = k then (p.1, v) else p))
      rw [if_neg q]
  · rw [if_neg h, if_neg (by simpa using h)]
    unfold kC
    rw [List.map_append]
    rfl
theorem putc_keys (cs : List (Int × Int)) (k v : Int) : (putc cs k v).map (·.1) = if k ∈ cs.map (·.1) then cs.map (·.1) else cs.map (·.1) ++ [k] := by
  unfold putc
  by_cases h : k ∈ cs.map (·.1)
  · rw [if_pos h, if_pos h, List.map_map]
    refine List.map_congr_left fun p _ => ?_
    show (if p.1 = k then (p.1, v) else p).1 = p.1
    split <;> rfl
  · rw [if_neg h, if_neg h, List.map_append]
    rfl
theorem putc_nd {cs : List (Int × Int)} (k v : Int) (n : (cs.map (·.1)).Nodup) : ((putc cs k v).map (·.1)).Nodup := by
  rw [putc_keys]
  split
  · exact n
  · rename_i h
    refine List.nodup_append.mpr ⟨n, by simp, fun a ha b hb e => ?_⟩
    cases List.mem_singleton.mp hb
    exact h (e ▸ ha)
theorem putc_len (cs : List (Int × Int)) (k v : Int) : (putc cs k v).length ≤ cs.length + 1 := by
  unfold putc
  split
  · rw [List.length_map]
    omega
  · rw [List.length_append]
    exact Nat.le_refl _
theorem putc_mem {cs : List (Int × Int)} {k v : Int} {p : Int × Int} (h : p ∈ putc cs k v) : p ∈ cs ∨ p = (k, v) := by
  unfold putc at h
  split at h
  · obtain ⟨q, hq, rfl⟩ := List.mem_map.mp h
    by_cases e : q.1 = k
    · rw [if_pos e]
      exact .inr (by rw [e])
    · rw [if_neg e]
      exact .inl hq
  · rcases List.mem_append.mp h with h | h
    · exact .inl h
    · exact .inr (List.mem_singleton.mp h)
theorem kC_len (cs : List (Int × Int)) : (kC cs).length = cs.length := List.length_map ..
theorem kN_len (ns : List (Nat × Int)) : (kN ns).length = ns.length := List.length_map ..
theorem ch_eq {a b : Nat} (h : ch a = ch b) : a = b := by
  have := ch_inj (a := a) (b := b)
  rw [h, beq_self_eq_true] at this
  exact of_decide_eq_true this.symm
theorem putK_kN {ns : List (Nat × Int)} {c : Nat} {v : Int} (h : c ∉ ns.map (·.1)) : putK (kN ns) (Sum.inr (ch c) : Key) (.int v) = kN (ns ++ [(c, v)]) := by
  rw [putK_new _ (valV_none fun z => ?_)]
  · unfold kN
    rw [List.map_append]
    rfl
  · unfold kN at z
    rw [List.map_map] at z
    obtain ⟨p, hp, e⟩ := List.mem_map.mp z
    exact h (List.mem_map.mpr ⟨p, hp, ch_eq (Sum.inr.inj e)⟩)
theorem val_c {cs : List (Int × Int)} {k : Int} (h : k ∈ cs.map (·.1)) : valV (kC cs) (Sum.inl k : Key) = some (.int (val cs k)) := by
  rw [find_c]
  unfold val
  cases e : cs.find? fun p => decide (p.1 = k) with
  | some p => rfl
  | none =>
    obtain ⟨p, hp, rfl⟩ := List.mem_map.mp h
    have := List.find?_eq_none.mp e p hp
    simp at this
theorem val_mem {cs : List (Int × Int)} {k : Int} (h : k ∈ cs.map (·.1)) : (k, val cs k) ∈ cs := by
  unfold val
  cases e : cs.find? fun p => decide (p.1 = k) with
  | some p =>
    have h1 := List.mem_of_find?_eq_some e
    have h2 := List.find?_some e
    have h3 : p.1 = k := by simpa using h2
    rw [← h3]
    exact h1
  | none =>
    obtain ⟨p, hp, rfl⟩ := List.mem_map.mp h
    have := List.find?_eq_none.mp e p hp
    simp at this
theorem ints_of_keys (cs : List (Int × Int)) : (kC cs).map (·.1) = (cs.map (·.1)).map (Sum.inl : Int → Key) := by
  unfold kC
  rw [List.map_map, List.map_map]
  rfl
theorem strs_of_keys (ns : List (Nat × Int)) : (kN ns).map (·.1) = (ns.map fun p => ch p.1).map (Sum.inr : Str → Key) := by
  unfold kN
  rw [List.map_map, List.map_map]
  rfl
/-- sorted keys -/
theorem keys_sorted {cs : List (Int × Int)} (n : (cs.map (·.1)).Nodup) {ys : List Int} (p : ys.Perm (cs.map (·.1))) (a : ys.Pairwise (· ≤ ·)) : ys = (srt cs).map (·.1) :=
  asc_uniq (asc_of a (p.nodup_iff.mpr n)) (srt_asc n) (p.trans ((srt_perm cs).map _).symm)
theorem lets_sorted {ns : List (Nat × Int)} (ok : NOk ns) {ys : List Str} (p : ys.Perm (ns.map fun p => ch p.1)) (s : sortedS ys = true) : ys = ns.map fun p => ch p.1 := by
  have e : (ns.map fun p => ch p.1) = (ns.map (·.1)).map ch := by rw [List.map_map]; rfl
  rw [e] at p ⊢
  have nd : (ns.map (·.1)).Nodup := ok.asc.imp fun h => Nat.ne_of_lt h
  obtain ⟨l, rfl, pl, as⟩ := sorted_ch p s nd
  rw [List.Perm.eq_of_pairwise (le := fun a b : Nat => a < b) (fun a b _ _ h3 h4 => by omega) as ok.asc pl]
end K6
/-! Texts. -/
namespace K6
open PySem PySem.Spec L2 Z K1
theorem joinL_app (S : List Nat) : ∀ (A B : List (List Nat)), A ≠ [] → B ≠ [] → TL.joinL S (A ++ B) = TL.joinL S A ++ S ++ TL.joinL S B
  | [], _, h, _ => absurd rfl h
  | [x], b :: B, _, _ => by
    show x ++ (S ++ TL.joinL S (b :: B)) = x ++ S ++ TL.joinL S (b :: B)
    rw [List.append_assoc]
  | x :: y :: A, B, _, hB => by
    show x ++ (S ++ TL.joinL S ((y :: A) ++ B)) = (x ++ (S ++ TL.joinL S (y :: A))) ++ S ++ TL.joinL S B
    rw [joinL_app S (y :: A) B (List.cons_ne_nil _ _) hB]
    simp only [List.append_assoc]
theorem join_app (y : Str) {A B : List Str} (hA : A ≠ []) (hB : B ≠ []) : Txt.join y (A ++ B) = Txt.join y A ++ y ++ Txt.join y B := by
  refine TL.ext_tl ?_
  rw [tl_glue, List.map_append, joinL_app _ _ _ (by simpa using hA) (by simpa using hB), TL.tl_append, TL.tl_append, tl_glue, tl_glue]
theorem join_one (y x : Str) : Txt.join y [x] = x := TL.ext_tl (by rw [tl_glue]; rfl)
def cellWords (cs : List (Int × Int)) : List Str := if cs = [] then [Str.ofString "none"] else cs.map cellW
theorem cellWords_ne (cs : List (Int × Int)) : cellWords cs ≠ [] := by
  unfold cellWords
  split
  · exact List.cons_ne_nil _ _
  · rename_i h
    simpa using h
theorem join_cells (cs : List (Int × Int)) : Txt.join sp1 (cellWords cs) = cTxt cs := by
  unfold cellWords cTxt
  split
  · exact join_one _ _
  · rfl
theorem join_store {ns : List (Nat × Int)} (ok : NOk ns) (cs : List (Int × Int)) : Txt.join (Str.ofString " ") (ns.map nameW ++ [Str.ofString "|"] ++ cellWords cs) = stTxt ns cs := by
  have n1 : ns.map nameW ≠ [] := fun z => by
    have h1 := congrArg List.length z
    rw [List.length_map] at h1
    have h2 := ok.one
    rw [h1] at h2
    exact absurd h2 (by decide)
  show Txt.join sp1 _ = _
  rw [join_app _ (by simp) (cellWords_ne cs), join_app _ n1 (List.cons_ne_nil _ _), join_one, join_cells]
  refine TL.ext_tl ?_
  unfold stTxt nTxt
  simp only [TL.tl_append]
  rw [sp_tl, show TL.tl (Str.ofString "|") = [124] by decide +kernel, show TL.tl (Str.ofString " | ") = [32, 124, 32] by decide +kernel]
  simp only [List.append_assoc, List.cons_append, List.nil_append]
theorem words_len {ns : List (Nat × Int)} {cs : List (Int × Int)} (ok : NOk ns) (ck : COk cs) (c9 : cs.length ≤ 11) : ((ns.map nameW ++ [Str.ofString "|"] ++ cellWords cs).map fun x => x.length).sum + (ns.map nameW ++ [Str.ofString "|"] ++ cellWords cs).length * (Str.ofString " ").length ≤ 16777216 := by
  have a1 := sum_len (k := 7) (ys := ns.map nameW ++ [Str.ofString "|"] ++ cellWords cs) fun y hy => by
    simp only [List.mem_append, List.mem_singleton] at hy
    rcases hy with (hy | rfl) | hy
    · obtain ⟨p, hp, rfl⟩ := List.mem_map.mp hy
      exact Nat.le_trans (nameW_len (ok.pl p hp).1 (ok.pl p hp).2) (by decide)
    · decide +kernel
    · unfold cellWords at hy
      split at hy
      · rw [List.mem_singleton.mp hy]
        decide +kernel
      · exact cs_le ck y hy
  have l1 : (ns.map nameW ++ [Str.ofString "|"] ++ cellWords cs).length ≤ 17 := by
    have := ok.four
    have l2 : (cellWords cs).length ≤ 11 := by
      unfold cellWords
      split
      · decide
      · rw [List.length_map]
        exact c9
    simp only [List.length_append, List.length_map, List.length_cons, List.length_nil]
    omega
  rw [sp1_len]
  omega
theorem all_true {α : Type} (l : List α) : l.filter (fun _ => true) = l := by simp
def sD (l : List Str) : List PyData := l.map PyData.str
theorem dp_strs {K : PySem.W.Frag} {H : Hp} (l : List Str) : DpAll K H (l.map V.str) (sD l) := by
  induction l with
  | nil => exact .nil
  | cons a l ih => exact .cons (.str _) ih
theorem strOk_small {x : Str} (h : ∀ c ∈ TL.tl x, c < 0x110000) : PyData.strOk x = true := by
  show x.cps.all (· < 0x110000) = true
  rw [Array.all_eq_true_iff_forall_mem]
  intro c hc
  exact decide_eq_true (h c (Array.mem_toList_iff.mpr hc))
theorem shape_strs (l : List Str) (h : ∀ x ∈ l, ∀ c ∈ TL.tl x, c < 0x110000) : SeqAt.shaped (.list (sD l)) = true := by
  have e1 : PyData.canLayAll0 (sD l) = true := by
    unfold sD
    induction l with
    | nil => simp [PyData.canLayAll0]
    | cons a t ih => rw [List.map_cons, PyData.canLayAll0, ih fun x hx => h x (List.mem_cons_of_mem _ hx), PyData.canLay0, strOk_small (h a List.mem_cons_self)]; rfl
  have e2 : PyData.depthAll (sD l) = 0 := by
    clear e1 h
    unfold sD
    induction l with
    | nil => simp [PyData.depthAll]
    | cons a t ih => simp only [List.map_cons, PyData.depthAll, PyData.depth, ih, Nat.max_self]
  unfold SeqAt.shaped
  rw [Bool.and_eq_true, decide_eq_true_eq]
  refine ⟨by simp only [PyData.canLay0, e1], ?_⟩
  simp only [PyData.depth, e2]
  decide
theorem eqv_snil (l : List Str) : PyData.eqv (.list (sD l)) (.list []) = decide (l = []) := by
  cases l with
  | nil => simp [sD, PyData.eqv, PyData.eqvAll]
  | cons a l => simp [sD, PyData.eqv, PyData.eqvAll]
theorem cellW_mem {p : Int × Int} (h1 : 0 ≤ p.1) (h2 : 0 ≤ p.2) {c : Nat} (hc : c ∈ TL.tl (cellW p)) : c < 0x110000 := by
  unfold cellW at hc
  rw [TL.tl_append, TL.tl_append] at hc
  rcases List.mem_append.mp hc with h | h
  · rcases List.mem_append.mp h with h | h
    · have := num_dig h1 c h
      omega
    · rw [show TL.tl (Str.ofString ">") = [62] by decide +kernel] at h
      rw [List.mem_singleton.mp h]
      decide
  · have := num_dig h2 c h
    omega
theorem shape_cells {cs : List (Int × Int)} (ck : COk cs) : SeqAt.shaped (.list (sD (cs.map cellW))) = true := shape_strs _ fun x hx c hc => by
  obtain ⟨p, hp, rfl⟩ := List.mem_map.mp hx
  obtain ⟨p1, p2, p3, p4⟩ := ck.pl p hp
  exact cellW_mem (by omega) p3 hc
end K6
/-! More walks. -/
namespace K6
open PySem PySem.Spec L2 Z K1
theorem dc_it {J : It} {n : Nat} {g : TG} {tt : TT} {tk tv : TE} {vs : List Nat} {σ : L2.St} {H1 : Hp} {D : Addr} {Qd : Hp → Prop} (Pv : Nat → Hp → Prop) (h0 : Pv 0 (upd H1 D (.dK []))) (go : ∀ i H, i < n → Pv i H → J.go i H) (stop : ∀ H, Pv n H → J.stop n H)
    (hs : ∀ i x H H', i < n → Pv i H → J.yld i H x H' → g x (wipe σ vs) H' fun σ2 H2 => wipe σ2 vs = wipe σ vs ∧ tt σ2 H2 fun b H3 =>
      if b = true then tk σ2 H3 fun y H4 => tv σ2 H4 fun z H5 => ∃ kvs k, y = kV k ∧ H5 D = some (.dK kvs) ∧ kvs.length < sizeLine ∧ Pv (i + 1) (upd H5 D (.dK (putK kvs k z))) else Pv (i + 1) H3) (hd : ∀ H, Pv n H → Qd H) :
    ∃ W : Nat → Nat → Hp → Prop, (∃ m, W 0 m (upd H1 D (.dK []))) ∧ ∀ i m H, W i m H →
      (J.stop i H ∧ Qd H) ∨ (J.go i H ∧ ∃ Nx : Hp → Prop, (∀ H', Nx H' → ∃ m', m' < m ∧ W (i + 1) m' H') ∧ ∀ x H', J.yld i H x H' → g x (wipe σ vs) H' fun σ2 H2 => wipe σ2 vs = wipe σ vs ∧ tt σ2 H2 fun b H3 =>
        if b = true then tk σ2 H3 fun y H4 => tv σ2 H4 fun z H5 => ∃ kvs k, y = kV k ∧ H5 D = some (.dK kvs) ∧ kvs.length < sizeLine ∧ Nx (upd H5 D (.dK (putK kvs k z))) else Nx H3) := by
  refine ⟨fun i m H => m = n - i ∧ i ≤ n ∧ Pv i H, ⟨n, by simp, Nat.zero_le _, h0⟩, ?_⟩
  rintro i m H ⟨rfl, hi, p⟩
  by_cases hlt : i < n
  · exact .inr ⟨go i H hlt p, Pv (i + 1), fun H' p' => ⟨n - (i + 1), by omega, rfl, hlt, p'⟩, fun x H' y => hs i x H H' hlt p y⟩
  · have e : i = n := by omega
    subst e
    exact .inl ⟨stop H p, hd H p⟩
theorem dcT {K : PySem.W.Frag} {gs : List Int} {v : Nat} {l : Addr} {g : TG} {tk tv : TE} {vs : List Nat} {σ : L2.St} {H : Hp} {Q : VK} (hv : σ[v]? = some (some (.ref l))) (hl : SqT K H l (gs.map V.int)) (hz : gs.length ≤ 1000)
    (hs : ∀ (i : Int) H' (R : V → V → Hp → Prop), Same H H' → R (.int i) (.bl true) H' → g (.int i) (wipe σ vs) H' fun σ2 H2 => wipe σ2 vs = wipe σ vs ∧ tk σ2 H2 fun y H4 => tv σ2 H4 fun z H5 => R y z H5)
    (hd : ∀ H' D kvs, Same H H' → H D = none → H' D = some (.dK kvs) → (∀ j : Int, (valV kvs (Sum.inl j : Key)).isSome = decide (j ∈ gs)) → Q (.ref D) H') : tDc (iTup K (tVar v)) g tYes tk tv vs σ H Q := by
  refine ⟨_, hv, l, rfl, ⟨_, hl⟩, fun D hD => ?_⟩
  refine dc_it (n := gs.length) (fun i H' => Same H H' ∧ ∃ kvs : List (Key × V), H' D = some (.dK kvs) ∧ kvs.length ≤ i ∧ ∀ j : Int, (valV kvs (Sum.inl j : Key)).isSome = decide (j ∈ gs.take i)) ⟨same_new hD, [], upd_same, Nat.le_refl _, fun j => by simp [valV_nil]⟩
    (fun i H' hi h => ⟨gs.map V.int, (gs.map V.int)[i]'(by simpa using hi), SqT.imm (.of h.1) hl, List.getElem?_eq_getElem _⟩) (fun H' h => ⟨gs.map V.int, SqT.imm (.of h.1) hl, by simp⟩) (fun i x H' H2 hi h y => ?_) (fun H' h => ?_)
  · obtain ⟨s2, kvs, hk, kl, hv⟩ := h
    obtain ⟨rfl, y⟩ := y
    obtain ⟨z, e4, rfl⟩ := map_at (y _ (SqT.imm (.of s2) hl))
    refine hs z H2 (fun y z2 H5 => ∃ kvs k, y = kV k ∧ H5 D = some (.dK kvs) ∧ kvs.length < sizeLine ∧ (Same H (upd H5 D (.dK (putK kvs k z2))) ∧ ∃ kvs' : List (Key × V), upd H5 D (.dK (putK kvs k z2)) D = some (.dK kvs') ∧ kvs'.length ≤ i + 1 ∧ ∀ j : Int, (valV kvs' (Sum.inl j : Key)).isSome = decide (j ∈ gs.take (i + 1)))) s2
      ⟨kvs, Sum.inl z, rfl, hk, ?_, fun c o e => ?_, _, upd_same, ?_, fun j => ?_⟩
    · exact small1000 (by omega)
    · rw [upd_ne (ne_of_none e hD)]
      exact s2 _ _ e
    · exact Nat.le_trans (length_putK _ _ _) (by omega)
    · rw [valV_put, List.take_add_one, e4]
      by_cases ej : j = z
      · subst ej
        rw [if_pos rfl]
        simp
      · rw [if_neg (fun q => ej (Sum.inl.inj q)), hv]
        simp [ej]
  · obtain ⟨s2, kvs, hk, _, hv⟩ := h
    rw [List.take_length] at hv
    exact hd H' D kvs s2 hD hk hv

theorem for_enumI {K : PySem.W.Frag} {xs : List V} {a : Addr} {g : TG} {tb : TS} {D : Ends} {σ : L2.St} {H H0 : Hp} (Pv : Nat → L2.St → Hp → Prop) (h0 : Pv 0 σ H) (hT : SqT K H0 a xs) (hI : ∀ i σ H, Pv i σ H → Same H0 H)
    (hs : ∀ i x σ H t, xs[i]? = some x → Pv i σ H → H t = none → g (.ref t) σ (upd H t (.tup [.int (i : Nat), x])) fun σ2 H2 => tb { D with nx := Pv (i + 1), ct := Pv (i + 1), bk := D.nx } σ2 H2) (hd : ∀ σ H, Pv xs.length σ H → D.nx σ H) :
    ∃ W : Nat → Nat → L2.St → Hp → Prop, (∃ m, W 0 m σ H) ∧ ∀ i m σ H, W i m σ H →
      ((IteT K a).stop i H ∧ D.nx σ H) ∨ ((IteT K a).go i H ∧ ∃ N : L2.St → Hp → Prop, (∀ σ' H', N σ' H' → ∃ m', m' < m ∧ W (i + 1) m' σ' H') ∧ ∀ x H', (IteT K a).yld i H x H' → g x σ H' fun σ2 H2 => tb { D with nx := N, ct := N, bk := D.nx } σ2 H2) := by
  refine K1.for_it (n := xs.length) Pv h0 (fun i σ H hi p => ⟨xs, xs[i], SqT.imm (.of (hI _ _ _ p)) hT, List.getElem?_eq_getElem _⟩) (fun σ H p => ⟨xs, SqT.imm (.of (hI _ _ _ p)) hT, rfl⟩) (fun i v σ H H' hi p y => ?_) hd
  obtain ⟨t, x, rfl, hn, rfl, y⟩ := y
  exact hs i x σ H t (y _ (SqT.imm (.of (hI _ _ _ p)) hT)) p hn
/-- some of a tuple's pairs -/
theorem lcPf {α : Type} {K : PySem.W.Frag} {te0 : TE} {g : TG} {tt : TT} {te : TE} {vs : List Nat} {σ : L2.St} {H : Hp} {Q : VK} {a : Addr} {rs : List Addr} (ls : List α) (emb : α → V × V) (c : α → Bool) (hz : ls.length ≤ 10000)
    (hT : PT H a (rs.map V.ref)) (hp : Paired (fun b (p : V × V) => SqT K H b [p.1, p.2]) rs (ls.map emb)) (hte : ∀ R : VK, R (.ref a) H → te0 σ H R)
    (hs : ∀ b p H' (R : V → Hp → Prop) (R1 : Hp → Prop), p ∈ ls → Same H H' → SqT K H' b [(emb p).1, (emb p).2] → (c p = true → R (.ref b) H') → (c p = false → R1 H') →
      g (.ref b) (wipe σ vs) H' fun σ2 H2 => wipe σ2 vs = wipe σ vs ∧ tt σ2 H2 fun b H3 => if b = true then te σ2 H3 R else R1 H3)
    (hd : ∀ H' D rs', Same H H' → H D = none → H' D = some (.lst (rs'.map V.ref)) → Paired (fun b (p : V × V) => SqT K H' b [p.1, p.2]) rs' ((ls.filter c).map emb) → Q (.ref D) H') : tLc (iTup K te0) g tt te vs σ H Q := by
  refine hte _ ⟨a, rfl, ⟨_, hT.sq⟩, fun D hD => ?_⟩
  have hl : rs.length = ls.length := by rw [Paired.len hp, List.length_map]
  refine lc_it (n := ls.length) (fun i H' => Same H H' ∧ ∃ rs', H' D = some (.lst (rs'.map V.ref)) ∧ Paired (fun b (p : V × V) => SqT K H' b [p.1, p.2]) rs' (((ls.take i).filter c).map emb)) ⟨same_new hD, [], upd_same, .nil⟩
    (fun i H' hi h => ⟨rs.map V.ref, (rs.map V.ref)[i]'(by rw [List.length_map, hl]; exact hi), (PT.same h.1 hT).sq, List.getElem?_eq_getElem _⟩) (fun H' h => ⟨rs.map V.ref, (PT.same h.1 hT).sq, by rw [List.length_map, hl]; exact Nat.le_refl _⟩) (fun i v H' H2 hi h y => ?_) (fun H' h => ?_)
  · obtain ⟨sm, rs', hk, hp'⟩ := h
    obtain ⟨rfl, y⟩ := y
    obtain ⟨b, q, rfl, eb, eq, hq⟩ := pairs_at (Paired.imm (.of sm) hp) (y _ (PT.same sm hT).sq)
    obtain ⟨p, ep, rfl⟩ := map_at eq
    refine hs b p H2 (fun y H4 => ∃ acc, H4 D = some (.lst acc) ∧ acc.length < sizeLine ∧ (Same H (upd H4 D (.lst (acc ++ [y]))) ∧ ∃ rs', upd H4 D (.lst (acc ++ [y])) D = some (.lst (rs'.map V.ref)) ∧ Paired (fun b (p : V × V) => SqT K (upd H4 D (.lst (acc ++ [y]))) b [p.1, p.2]) rs' (((ls.take (i + 1)).filter c).map emb)))
      (fun H4 => Same H H4 ∧ ∃ rs', H4 D = some (.lst (rs'.map V.ref)) ∧ Paired (fun b (p : V × V) => SqT K H4 b [p.1, p.2]) rs' (((ls.take (i + 1)).filter c).map emb)) (List.mem_of_getElem? ep) sm hq (fun hc => ⟨_, hk, ?_, ?_⟩) (fun hc => ⟨sm, rs', hk, ?_⟩)
    · rw [List.length_map, Paired.len hp', List.length_map]
      have := List.length_filter_le c (ls.take i)
      rw [List.length_take] at this
      exact Nat.lt_of_lt_of_le (show _ < 20000 by omega) (sl_le (by decide))
    · have im : Imm H2 (upd H2 D (.lst (rs'.map V.ref ++ [V.ref b]))) := Chg.imm Chg.upd hk trivial
      refine ⟨fun a o e => ?_, rs' ++ [b], by rw [upd_same, List.map_append]; rfl, ?_⟩
      · rw [upd_ne (ne_of_none e hD)]
        exact sm _ _ e
      · rw [List.take_add_one, ep, List.filter_append, List.map_append]
        show Paired _ _ (_ ++ (List.filter c [p]).map emb)
        rw [List.filter_cons_of_pos hc]
        exact Paired.snoc (F := fun b (p : V × V) => SqT K _ b [p.1, p.2]) (x := b) (y := emb p) (SqT.imm im hq) (Paired.imm im hp')
    · rw [List.take_add_one, ep, List.filter_append]
      show Paired _ _ ((_ ++ List.filter c [p]).map emb)
      rw [List.filter_cons_of_neg (by simp [hc])]
      simpa using hp'
  · obtain ⟨sm, rs', hk, hp'⟩ := h
    rw [List.take_length] at hp'
    exact hd H' D rs' sm hD hk hp'
end K6
/-! Parts, and laying them together. -/
namespace K6
open PySem PySem.Spec L2 Z K1
theorem eqBB (a b : Bool) : decide (V.bl a = V.bl b) = decide (a = b) := by cases a <;> cases b <;> rfl
theorem pick_ok {ks : List Int} {b : Bool} {cs : List (Int × Int)} (ck : COk cs) : COk (pick ks b cs) :=
  ⟨Nat.le_trans (List.length_filter_le _ _) ck.few, fun p hp => ck.pl p (List.mem_filter.mp hp).1, ck.asc.sublist (List.filter_sublist.map _)⟩
theorem catP {K : PySem.W.Frag} {H : Hp} {a b : Addr} {xs ys : List V} {Q : VK} (ha : SqT K H a xs) (hb : SqT K H b ys) (hz : xs.length + ys.length ≤ sizeLine) (k : ∀ t H', Same H H' → SqT K H' t (xs ++ ys) → Q (.ref t) H') : rCatP K (.ref a) (.ref b) H Q := by
  refine ⟨a, b, xs, ys, rfl, rfl, ha, hb, hz, fun e => ?_, fun _ e => ?_, fun _ _ p o hp ho => ?_⟩
  · exact k b H (fun _ _ h => h) (by rw [e]; exact hb)
  · exact k a H (fun _ _ h => h) (by rw [e, List.append_nil]; exact ha)
  · exact k p _ (same_new hp) (PT.sq (PT.new ho))
theorem paired_zip {K : PySem.W.Frag} {H : Hp} : ∀ {rs : List Addr} {ps : List (Int × Int)}, Paired (fun b (p : V × V) => SqT K H b [p.1, p.2]) rs (ps.map cV) → (rs.zip ps).map (·.1) = rs ∧ (rs.zip ps).map (·.2) = ps ∧ ∀ z ∈ rs.zip ps, SqT K H z.1 [.int z.2.1, .int z.2.2]
  | [], [], _ => ⟨rfl, rfl, fun _ h => nomatch h⟩
  | r :: rs, p :: ps, .cons h t => by
    obtain ⟨h1, h2, h3⟩ := paired_zip t
    refine ⟨by rw [List.zip_cons_cons, List.map_cons, h1], by rw [List.zip_cons_cons, List.map_cons, h2], fun z hz => ?_⟩
    rcases List.mem_cons.mp hz with rfl | hz
    · exact h
    · exact h3 z hz
theorem zip_paired {K : PySem.W.Frag} {H : Hp} : ∀ {L : List (Addr × (Int × Int))}, (∀ z ∈ L, SqT K H z.1 [.int z.2.1, .int z.2.2]) → Paired (fun b (p : V × V) => SqT K H b [p.1, p.2]) (L.map (·.1)) ((L.map (·.2)).map cV)
  | [], _ => .nil
  | z :: L, h => .cons (h z (.head _)) (zip_paired fun y hy => h y (.tail _ hy))
theorem lex_keys {L : List (Addr × (Int × Int))} (h : L.Pairwise (fun z w => SrtO.lexB w.2 z.2 = false)) : ((L.map (·.2)).map (·.1)).Pairwise (· ≤ ·) := by
  rw [List.map_map, List.pairwise_map]
  refine h.imp fun {z w} e => ?_
  have := SrtO.lexB_no.mp e
  show z.2.1 ≤ w.2.1
  omega
theorem nd_app {as bs : List (Int × Int)} (h1 : (as.map (·.1)).Pairwise (· < ·)) (h2 : (bs.map (·.1)).Pairwise (· < ·)) (h : ∀ p ∈ as, p.1 ∉ bs.map (·.1)) : ((as ++ bs).map (·.1)).Nodup := by
  rw [List.map_append]
  refine List.nodup_append.mpr ⟨h1.imp fun e => by omega, h2.imp fun e => by omega, fun a ha b hb e => ?_⟩
  obtain ⟨p, hp, rfl⟩ := List.mem_map.mp ha
  exact h p hp (e ▸ hb)
theorem sorted_app {as bs : List (Int × Int)} {L' : List (Addr × (Int × Int))} {L : List (Addr × (Int × Int))} (n : ((as ++ bs).map (·.1)).Nodup) (p : L'.Perm L) (e : L.map (·.2) = as ++ bs) (s : L'.Pairwise (fun z w => SrtO.lexB w.2 z.2 = false)) : L'.map (·.2) = srt (as ++ bs) := by
  have pm : (L'.map (·.2)).Perm (as ++ bs) := e ▸ p.map _
  exact pair_uniq (asc_of (lex_keys s) ((pm.map _).nodup_iff.mpr n)) (srt_asc n) (pm.trans (srt_perm _).symm)
theorem srt_app_ok {as bs : List (Int × Int)} (ca : COk as) (cb : COk bs) (l : as.length + bs.length ≤ 400) (n : ((as ++ bs).map (·.1)).Nodup) : COk (srt (as ++ bs)) := by
  refine ⟨?_, fun p hp => ?_, srt_asc n⟩
  · rw [(srt_perm _).length_eq, List.length_append]
    exact l
  · rcases List.mem_append.mp ((srt_perm _).mem_iff.mp hp) with h | h
    · exact ca.pl p h
    · exact cb.pl p h
theorem isC_not {bs : List (Int × Int)} {i : Int} (h : i ∉ bs.map (·.1)) : isC bs i = false := by
  unfold isC
  rw [List.any_eq_false]
  intro p hp
  have : p.1 ≠ i := fun e => h (e ▸ List.mem_map_of_mem hp)
  simpa using this
end K6
/-! What is shown. -/
namespace K6
open PySem PySem.Spec L2 Z K1
theorem showsD {K : PySem.W.Frag} {H : Hp} {v : V} {d : PyData} {Q : VK} (hd : Dp K H v d) {n m : Nat} (F : Fit d n m) (hn : n ≤ 100000) (hm : m ≤ 50) (k : Q (.str d.shown) H) : rShow K [v] H Q :=
  ⟨v, d, rfl, .of hd F.nod, F.ok, Nat.le_trans F.dep (by omega), sl_le (Nat.le_trans F.len hn), k⟩
theorem isC_srt (cs : List (Int × Int)) (i : Int) : isC (srt cs) i = isC cs i := by
  unfold isC
  rw [Bool.eq_iff_iff, List.any_eq_true, List.any_eq_true]
  exact ⟨fun ⟨p, h, e⟩ => ⟨p, (srt_perm cs).mem_iff.mp h, e⟩, fun ⟨p, h, e⟩ => ⟨p, (srt_perm cs).mem_iff.mpr h, e⟩⟩
theorem gone_eq (ns : List (Nat × Int)) (cs : List (Int × Int)) (i : Int) : goneB ns (srt cs) i = (decide (i ∈ ns.map (·.2) ++ cs.map (·.2)) && (!decide (i = 0) && !isC cs i)) := by
  unfold goneB
  rw [isC_srt]
  have e : decide (i ∈ goals ns (srt cs)) = decide (i ∈ ns.map (·.2) ++ cs.map (·.2)) := by
    unfold goals
    rw [decide_eq_decide, List.mem_append, List.mem_append, ((srt_perm cs).map _).mem_iff]
  rw [e]
  cases decide (i = 0) <;> cases isC cs i <;> cases decide (i ∈ ns.map (·.2) ++ cs.map (·.2)) <;> rfl
theorem rd_frz {H : Hp} {d : Addr} {od : Obj} {kvs : List (Key × V)} {k : Key} {v : V} (h : H d = some (.frz od (.dK kvs))) (e : valV kvs k = some v) : DGet H d (kV k) (some v) := .inl ⟨kvs, k, .inr ⟨od, h⟩, rfl, e.symm⟩
theorem val_cs {cs : List (Int × Int)} (n : (cs.map (·.1)).Nodup) {p : Int × Int} (h : p ∈ cs) : valV (kC cs) (Sum.inl p.1 : Key) = some (.int p.2) := by
  have := val_c (List.mem_map_of_mem (f := (·.1)) h)
  rw [val_of n h] at this
  exact this
end K6
/-! The law's end for a law that makes lambdas and is called while no repr runs. -/
namespace Z
open PySem PySem.Spec PyProof.Rows L2 LamX
/-- a table of code objects, empty -/
abbrev noTab : Obj := { cls := .none, data := .fields #[] }
abbrev lstO (vs : List Value) : Obj := { cls := .type "list", data := .seq vs.toArray }
/-- what may be tracked at the start: the script, the tables -/
def OnlyT (ts : List Addr) (H : Hp) : Prop := ∀ b, H b = none ∨ b ∈ ts ∨ ∃ o xs, H b = some (.frz o (.lst xs))
theorem law_callGT {P : Program} {w : World} {K : PySem.W.Frag} {mg mb : Str → Option Value} {k : Nat} {fa a : Addr} {cs : List (Addr × Addr)} {fd : FuncData} {x : Str} {sp : Sp} {s₁ : Shared} {vs : List Value} {ns : List Int}
    (KX : K.In s₁.heap) (hns : s₁.heap.Ns mainGlobals mg) (hb : s₁.heap.Ns builtinsNs mb) (hbb : ∀ x : Str, x ≠ "__name__" → mb x = bootBuiltins x) (hlim : s₁.heap.NoLimit) (hg : s₁.gens = #[])
    (hT : ∀ p ∈ cs, s₁.heap.get? p.2 = some noTab) (nT : ∀ p ∈ cs, K.lookup p.2 = none)
    (hC : ∀ p ∈ cs, PySem.W.CodeHd s₁.heap p.1 p.2)
    (hbm : ∃ (bm : Addr) (ob : Obj), mg "__builtins__" = some (.ref bm) ∧ bm ≠ builtinsNs ∧
      s₁.heap.get? bm = some ob ∧ ob.cls = .type "module" ∧ ob.dict = some builtinsNs ∧ ob.data = .plain)
    (ha : s₁.heap.get? a = some (lstO vs)) (hi : IntsAre vs ns) (hl : ns.length ≤ sizeLine) (hr : Room k callerA)
    (F : ∀ base : Heap, K.In base → base.Ns mainGlobals mg → (∀ p ∈ cs, TabB base mg p.1 p.2) → FnG P w K mg base k fa fd [x] sp)
    (hbind : ∀ (s : Shared) (u : Value), BindsTo s fd ⟨[u], []⟩ [(x, u)])
    (hsp : ∀ H : Hp, (∀ p ∈ cs, H p.2 = some (.tbl #[])) → SqL K H a (ns.map V.int) → sp [.ref a] H (fun v _ => v = .bl true) fun _ _ _ => False) :
    codeAny (model P w) callerA (.call (.ref fa) ⟨[.ref a], []⟩)
      (fun r s' => r = .ok (.ret (.bool true)) ∧ OldK s₁.heap s'.heap ∧ s'.os = s₁.os ∧ AllBare s'.gens) s₁ := by
  have rv := vals_ints hi
  have lenV := hi.length
  obtain ⟨ts, hts⟩ : ∃ ts, ts = cs.map (·.2) := ⟨_, rfl⟩
  have tab : ∀ b ∈ ts, ∃ p ∈ cs, p.2 = b := fun b m => by
    rw [hts] at m
    obtain ⟨p, hp, e⟩ := List.mem_map.mp m
    exact ⟨p, hp, e⟩
  have tabO : ∀ b ∈ ts, s₁.heap.get? b = some noTab := fun b m => by
    obtain ⟨p, hp, rfl⟩ := tab b m
    exact hT p hp
  have inT : ∀ p ∈ cs, p.2 ∈ ts := fun p hp => by
    rw [hts]
    exact List.mem_map_of_mem hp
  have aT : a ∉ ts := fun z => by
    have q := tabO a z
    rw [ha] at q
    exact nomatch (show Data.seq vs.toArray _ = Data.fields #[] from congrArg Obj.data (Option.some.inj q))
  suffices core : ∀ H : Hp, (∀ p ∈ cs, H p.2 = some (.tbl #[])) → OnlyT ts H → SqL K H a (ns.map V.int) → HOk P w H s₁.heap →
      (∀ b, H b ≠ none → b = a ∨ b ∈ ts) → (H a ≠ none → K.lookup a = none) →
      codeAny (model P w) callerA (.call (.ref fa) ⟨[.ref a], []⟩)
        (fun r s' => r = .ok (.ret (.bool true)) ∧ OldK s₁.heap s'.heap ∧ s'.os = s₁.os ∧ AllBare s'.gens) s₁ by
    have tbls : Hp := fun b => if b ∈ ts then some (.tbl #[]) else none
    cases hk : K.lookup a with
    | some o =>
      have e := KX a o hk
      rw [ha] at e
      cases e
      refine core (fun b => if b ∈ ts then some (.tbl #[]) else none) (fun p hp => if_pos (inT p hp)) (fun b => ?_) (.inr ⟨_, vs.toArray, _, hk, rfl, rfl, rfl, ?_, by simpa using rv⟩) (fun b u z => ?_) (fun b z => ?_) (fun z => absurd (if_neg aT) z)
      · by_cases m : b ∈ ts
        · exact .inr (.inl m)
        · exact .inl (if_neg m)
      · rw [List.size_toArray, lenV]
        exact hl
      · by_cases m : b ∈ ts
        · cases (if_pos m).symm.trans z
          exact tabO b m
        · cases (if_neg m).symm.trans z
      · by_cases m : b ∈ ts
        · exact .inr m
        · exact absurd (if_neg m) z
    | none =>
      let sc : HO := .frz (lstO vs) (.lst (ns.map V.int))
      refine core (fun b => if b = a then some sc else if b ∈ ts then some (.tbl #[]) else none) (fun p hp => ?_) (fun b => ?_) (.inl (.inr ⟨lstO vs, if_pos rfl⟩)) (fun b u z => ?_) (fun b z => ?_) fun _ => hk
      · exact (if_neg (show ¬ p.2 = a from fun z => aT (z ▸ inT p hp))).trans (if_pos (inT p hp))
      · by_cases e : b = a
        · exact .inr (.inr ⟨_, _, if_pos e⟩)
        · by_cases m : b ∈ ts
          · exact .inr (.inl m)
          · exact .inl ((if_neg e).trans (if_neg m))
      · by_cases e : b = a
        · subst e
          cases (show some sc = some u from (if_pos rfl).symm.trans z)
          exact ⟨ha, by rw [List.length_map]; exact hl, vs, _, rv, ha⟩
        · have z1 := (if_neg e).symm.trans z
          by_cases m : b ∈ ts
          · cases (if_pos m).symm.trans z1
            exact tabO b m
          · cases (if_neg m).symm.trans z1
      · by_cases e : b = a
        · exact .inl e
        · by_cases m : b ∈ ts
          · exact .inr m
          · exact absurd ((if_neg e).trans (if_neg m)) z
  intro H hH hO hS hok hA hK
  have free : ∀ {b : Addr} {o : Obj}, s₁.heap.get? b = some o → (∀ xs n, o.data ≠ .seq xs n) → o.data ≠ .fields #[] → H b = none := fun {b o} e h1 h2 => by
    by_cases z : H b = none
    · exact z
    · rcases hA b z with rfl | m
      · rw [ha] at e
        cases e
        exact (h1 _ _ rfl).elim
      · rw [tabO b m] at e
        cases e
        exact (h2 rfl).elim
  have freeD : ∀ {b : Addr} {o : Obj} {es : Array DictEntry} {ep : Nat}, s₁.heap.get? b = some o → o.data = .dict es ep → H b = none := fun e d =>
    free e (fun xs n z => by rw [d] at z; cases z) (fun z => by rw [d] at z; cases z)
  have nsK : ∀ {b : Addr} {m : Str → Option Value}, s₁.heap.Ns b m → (hidT s₁.heap H).Ns b m := fun n => by
    obtain ⟨o, es, ep, e, d, r⟩ := n
    exact ⟨o, es, ep, hidT_get e (freeD e d), d, r⟩
  have hKb : K.In (hidT s₁.heap H) := fun b o e => hidT_get (KX b o e) (by
    by_cases z : H b = none
    · exact z
    · rcases hA b z with rfl | m
      · rw [hK z] at e
        cases e
      · obtain ⟨p, hp, rfl⟩ := tab b m
        rw [nT p hp] at e
        cases e)
  have hM : Mod K mg (hidT s₁.heap H) := ⟨hKb, nsK hns, ⟨mb, nsK hb, hbb⟩, let ⟨mc, h1, h2⟩ := hlim; ⟨mc, nsK h1, h2⟩⟩
  have TB : ∀ p ∈ cs, TabB (hidT s₁.heap H) mg p.1 p.2 := fun p hp => by
    have isT := hT p hp
    refine ⟨?_, ?_, fun z => ?_⟩
    · obtain ⟨o, us, file, tf, flags, tg, inF, text, tt, e1, r1, r2, r3, rest⟩ := hC p hp
      refine ⟨o, us, file, tf, flags, tg, inF, text, tt, hidT_get e1 (free e1 (fun xs n z => ?_) fun z => ?_), r1, r2, r3, rest⟩
      · rw [r2] at z
        cases z
      · rw [r2] at z
        cases z
        simp at r3
    · obtain ⟨bm, ob, b1, b2, b3, b4, b5, b6⟩ := hbm
      refine ⟨bm, ob, b1, b2, fun q => ?_, fun q => ?_, hidT_get b3 (free b3 (fun xs n z => by rw [b6] at z; cases z) (fun z => by rw [b6] at z; cases z)), b4, b5, b6⟩
      · obtain ⟨o, es, ep, e, hd, _⟩ := hns
        rw [q, e] at b3
        cases b3
        rw [hd] at b6
        cases b6
      · rw [q, isT] at b3
        cases b3
        cases b6
    · obtain ⟨o, es, ep, e, hd, _⟩ := hns
      rw [z, isT] at e
      cases e
      cases hd
  have nil0 : ∀ b : Addr, b ∉ ([] : List Addr) := fun b => by simp
  have e0 : Env0 P w K mg (hidT s₁.heap H) callerA [] s₁ H := ⟨rfl, hM, fun b o e => of_hidT e, Nat.le_of_eq (hidT_size _ _), trivial, fun b hb => absurd hb (nil0 b), hok, .of_eq hg⟩
  refine codeAny_mono ((F _ hKb (nsK hns) TB).run callerA [] s₁ H ⟨[.ref a], []⟩ [.ref a] [.ref a] _ _ hr rfl e0 (hbind s₁ (.ref a)) (.cons rfl .nil) (hsp H hH hS)) fun r s' h => ?_
  match r, h with
  | .error e, h => exact False.elim h
  | .ok .next, h => exact False.elim h
  | .ok .brk, h => exact False.elim h
  | .ok .cont, h => exact False.elim h
  | .ok (.ret u), h =>
    obtain ⟨v, H', os, bare, un, hok', r', q⟩ := h
    cases (show v = .bl true from q)
    cases (show u = Value.bool true from r')
    have keep : ∀ b o, b ∉ ts → s₁.heap.get? b = some o → s'.heap.get? b = some o := fun b o m e => by
      by_cases z : H b = none
      · exact un.keep b o e z (nil0 b) (by simp)
      · rcases hO b with y | y | ⟨ob, xs, y⟩
        · exact absurd y z
        · exact absurd y m
        · obtain ⟨e1, _⟩ := hok b _ y
          obtain ⟨e2, _⟩ := hok' b _ (un.frzs b ob _ y)
          rw [e] at e1
          cases e1
          exact e2
    have grown : ∀ p ∈ cs, ∃ more : Array Value, s'.heap.get? p.2 = some { cls := .none, data := .fields more } := fun p hp => by
      obtain ⟨more, z⟩ := un.tbls p.2 #[] (hH p hp)
      exact ⟨_, hok' p.2 _ z⟩
    refine ⟨rfl, ⟨fun b o e => ?_, fun b o e => ?_⟩, os, bare⟩
    · by_cases m : b ∈ ts
      · obtain ⟨p, hp, rfl⟩ := tab b m
        obtain ⟨more, hm⟩ := grown p hp
        rw [hT p hp] at e
        cases e
        refine .inr (.inl ⟨((hC p hp).tab (hT p hp)).isCodeTable, rfl, #[], more, rfl, ?_⟩)
        rw [Array.empty_append]
        exact hm
      · exact .inl (keep b o m e)
    · by_cases m : b ∈ ts
      · obtain ⟨p, hp, rfl⟩ := tab b m
        obtain ⟨more, hm⟩ := grown p hp
        exact ⟨_, hm⟩
      · exact ⟨o, keep b o m e⟩
/-- what is known of the law's promise at the head's heap -/
def LawAtG (l : PySem.W.OpenLaw) (w : World) (K : PySem.W.Frag) (k n : Nat) (x : Str) (mg : Str → Option Value) (fa : Addr) (h : Heap) : Prop :=
  ∃ (fd : FuncData) (cs : List (Addr × Addr)) (sp : Sp), (∀ p ∈ cs, h.get? p.2 = some noTab) ∧
    (∀ p ∈ cs, K.lookup p.2 = none) ∧ (∀ p ∈ cs, PySem.W.CodeHd h p.1 p.2) ∧
    (∀ (s : Shared) (u : Value), BindsTo s fd ⟨[u], []⟩ [(x, u)]) ∧
    (∀ (H : Hp) (a : Addr) (ns : List Int), ns.length ≤ n → (∀ p ∈ cs, H p.2 = some (.tbl #[])) → SqL K H a (ns.map V.int) → sp [.ref a] H (fun v _ => v = .bl true) fun _ _ _ => False) ∧
    ∀ base : Heap, K.In base → base.Ns mainGlobals mg → (∀ p ∈ cs, TabB base mg p.1 p.2) → FnG l.prog w K mg base k fa fd [x] sp
theorem walkGT {l : PySem.W.OpenLaw} {n k : Nat} {q : Program} {loose : List Str} {XP : (Str → Option Value) → Heap → Prop} {YP : World → Heap → Prop} {d : DefRec} {K : Params → PySem.W.Frag} {x : Str}
    (hn : l.most = some n) (hn2 : n ≤ sizeLine) (hdf : d.params.defaults = []) (hr : Room k callerA)
    (hY : ∀ (w : World) (h : Heap), YP w h → (K w.params).In h)
    (F : ∀ (w : World) (mg : Str → Option Value) (fa : Addr) (h : Heap), YP w h → (K w.params).In h → h.Ns mainGlobals mg → mg d.name = some (.ref fa) → LawAtG l w (K w.params) k n x mg fa h) :
    PySem.W.WalkO q loose XP YP l.row.toRowW d [] (fun f vs => PySem.call f vs) := by
  refine Att.attach_call hn hdf fun w s₀ s₁ mg mb fa o pm cd doc a vs ns G Y ho hd hcd hmg hobj hints hlen hg => ?_
  have KX := hY w _ Y
  obtain ⟨fd, cs, sp, hT, nT, hC, hb, hsp, hF⟩ := F w mg fa _ Y KX G.T.g hmg
  exact law_callGT KX G.T.g G.T.b G.T.builtins G.T.nolimit hg hT nT hC G.T.bmain hobj hints (Nat.le_trans hlen hn2) hr hF hb fun H hH hS => hsp H a ns hlen hH hS
end Z
/-! A def that calls the lambda that it got, and tells what came: try: return [S1, repr(a())] / except x as n: return [S2, repr(n.F)]. -/
namespace Z
open PySem PySem.Spec PyProof.Rows L2 LamX
/-- what the def tells: a list of a word and a text -/
def Tells (K : PySem.W.Frag) (S : Str) (v : V) (H : Hp) (Q : VK) : Prop := rShow K [v] H fun t H2 => [V.str S, t].length ≤ sizeLine ∧ ∀ p, H2 p = none → Q (.ref p) (upd H2 p (.lst [.str S, t]))
theorem Tells.intro {K : PySem.W.Frag} {S : Str} {v : V} {H : Hp} {Q : VK} {d : PyData} (h : Sh K H v d) (s : d.showable = true) (dp : d.depth ≤ 60) (z : d.shown.length ≤ sizeLine) (k : ∀ p, H p = none → Q (.ref p) (upd H p (.lst [.str S, .str d.shown]))) : Tells K S v H Q :=
  ⟨v, d, rfl, h, s, dp, z, by show 2 ≤ sizeLine; exact (by decide +kernel), k⟩
def TShow (K : PySem.W.Frag) (CS : Addr) (F S1 S2 : Str) : (XK → Hp → VK → Prop) → Hp → VK → Prop := fun tl H Q =>
  tl (fun cls d H' => cls = .ref CS ∧ ∃ dd v, d = some dd ∧ H' dd = some (.xd [(F, v)]) ∧ Tells K S2 v H' Q) H (fun v H' => Tells K S1 v H' Q)
section
variable {X : Cx}
theorem takes_len {W : WX} (tk : Takes X W) (n : Nat) (hn : X.N.length = n) : Takes X (fun cls d σ H => σ.length = n → W cls d σ H) := fun u s' ⟨a, B, sI, pins, σ, H, cls, d, e, I, nb, up, sky, na, os, ag, w⟩ =>
  tk u s' ⟨a, B, sI, pins, σ, H, cls, d, e, I, nb, up, sky, na, os, ag, w (by rw [I.len, hn])⟩
theorem show_gives {Ng : List Str} {x a e n q F S1 S2 : Str} {sg : Scope} {g CS : Addr} {cdg : Value} {j1 j2 : Nat} {p1 p2 p3 p4 p5 p6 p7 p8 p9 pa pb pc pd pe pf pg ph : Pos}
    (hge : sg.names.lookup e = some .globalImplicit) (hme : X.mg e = some (.ref CS)) (hde : (e == ("__debug__" : Str)) = false) (h0 : ∀ f : Addr, (L2.start Ng [V.ref f])[0]? = some (some (V.ref f)))
    (hgr : sg.names.lookup ("repr" : Str) = some .globalImplicit) (hmr : X.mg "repr" = none) (nd : Ng.Nodup) (hl : Ng.length = 2) (hn : Ng[1]? = some n) (hnl : sg.names.lookup n = some .local) (hdn : (n == ("__debug__" : Str)) = false) (hcn : (n == ("__classdict__" : Str)) = false)
    (te : PySem.W.exmOne X.K (.ref CS) (.ref CS) = some true) (xf : XfC X.K CS) (no : PySem.W.findIn X.K (.ref CS) F = some none) (hgd : X.A.guards = some []) (hu : X.A.units + 80 < cLine) :
    GivesTo X Ng x sg g cdg [.Try [.Return (some (.List [.Constant (.str S1) j1 p3, .Call (.Name "repr" p4) [.Call (.Name a p1) [] [] p2] [] p5] p6)) p7]
      [.ExceptHandler (some (.Name e p8)) (some n) [.Return (some (.List [.Constant (.str S2) j2 p9, .Call (.Name "repr" pa) [.Attribute (.Name n pb) F pc] [] pd] pe)) pf] pg] [] [] ph] a q (TShow X.K CS F S1 S2) := by
  intro f c' s H Q tl act hc h
  let Z := (cxOf C8.CX0 X.prog X.w X.K X.mg X.base Ng x sg g cdg X.A X.stack s H C8.E0).nox
  have hgl : Gl Z e := hge
  have hglr : Gl Z "repr" := hgr
  have hgdZ : Z.A.guards = some [] := by
    show (X.A.deeper _).guards = some []
    simpa [Around.deeper] using hgd
  have huZ : Z.A.units + 64 < cLine := by
    show (X.A.deeper _).units + 64 < cLine
    simp only [Around.deeper]
    omega
  have hb : bootBuiltins ("repr" : Str) = some (.builtin "repr") := by decide +kernel
  let cl : List Clause := [(.ref CS, 1, fun a cls d => tRet (tLst (tCons (tC (.str S2)) (tCons (tCB (rShow X.K) (tCons (tXf a cls d CS F (tVar 1)) tNil)) tNil))))]
  refine ⟨_, pss_one (ps_try_each (X := Z) (l := cl) (tb := fun W D σ H => σ.length = 2 → ∃ Ech : XK, (∀ cls d σ' H', Ech cls d H' → σ'.length = 2 → W cls d σ' H') ∧ σ[0]? = some (some (.ref f)) ∧ H c' = some (CodeO c' q) ∧ tl Ech H (fun v H' => Tells X.K S1 v H' D.rt))
      rfl rfl nd LamX.takes0 (fun W pn xe tk _ => ?_)
      (.cons (i := 1) hn (show sg.names.lookup n = some .local from hnl) ⟨hgl, hde, .inl hme⟩ (fun a oe cls d pn hz hf => pss_one (ps_ret (pe_lst (pa_cons pe_str (pa_cons (pe_callB (id := "repr") (r := rShow X.K) (call_show (X := Z.suite a ((a, oe) :: pn)) hgdZ huZ) hglr hmr hb (pa_cons (pe_xf xf no hz hf (pe_var (i := 1) hn (Or.inl hnl) hdn hcn)) pa_nil)) pa_nil))))) .nil)), ?_⟩
  · refine ⟨fun pins s' σ H' D I h' => ?_⟩
    have e2 : σ.length = 2 := I.len.trans hl
    obtain ⟨Ech, hW, h1, h2, h3⟩ := h' e2
    have hp := act (fun cls d σ H => σ.length = 2 → W cls d σ H) pn xe Ech p1 p2 (takes_len tk 2 hl) hW
    have hq := pss_one (ps_ret (pos := p7) (pe_lst (pos := p6) (pa_cons (pe_str (x := S1) (j := j1) (pos := p3)) (pa_cons (pe_callB (p := p4) (pos := p5) (call_show (X := Z.tr pn xe) hgdZ huZ) hglr hmr hb (pa_cons hp pa_nil)) pa_nil))))
    refine hq.run pins s' σ H' D I ?_
    exact ⟨h1, h2, h3⟩
  · intro hs
    refine ⟨_, fun cls d σ' H' he hl' => ?_, h0 f, hc, h⟩
    obtain ⟨rfl, dd, v, rfl, hd, k⟩ := he
    refine .inl ⟨te, fun a ha => ?_⟩
    have hset : (σ'.set 1 (some (.ref a)))[1]? = some (some (V.ref a)) := by
      rw [List.getElem?_set_self (by omega)]
    exact ⟨_, hset, rfl, rfl, dd, _, v, rfl, hd, by simp, k⟩
end
end Z
/-! A def whose code object is known; a lambda handed to a def that tells what its call did. -/
namespace Z
open PySem PySem.Spec PyProof.Rows L2 LamX
section
variable {P : Program} {w : World} {K : PySem.W.Frag} {mg : Str → Option Value} {base : Heap}
/-- as okG, where the frame's code object is the def's own -/
theorem okGC {x qual : Str} {st : Stmt} {f : Addr} {fd : FuncData} {N ps : List Str} {k : Nat} {sp : Sp} {c : Addr} (F : Fun K x qual st f fd) (hc : fd.code = .ref c) (S : FnScope N ps (defScope st)) (len : ∀ vs H Q E, sp vs H Q E → vs.length = ps.length)
    (hbody : ∀ (A : Around) (outer : List Env) (s : Shared) (H : Hp) (vs : List V) (Q : VK) (E : XK), Room k (A.deeper (envOfC qual (defScope st) s.heap.objs.size f (.ref c))) →
      (A.deeper (envOfC qual (defScope st) s.heap.objs.size f (.ref c))).guards = some [] → sp vs H Q E →
      ∃ t, PSs (cxOf CX0 P w K mg base N qual (defScope st) f (.ref c) A outer s H E).nox (defBody st) t ∧ t { nx := fun _ H' => Q .non H', rt := Q } (start N vs) H) : FnG P w K mg base (k + 1) f fd ps sp := by
  obtain ⟨oc, od, kV, doc, pm, an, cdv, ct, osl, rfl, lk, hcd⟩ := F.ex
  obtain rfl : cdv = .ref c := hc
  refine ⟨len, fun A outer s H args us vs Q E hr hgd e0 hb r hsp => ?_⟩
  have keepB : ∀ b o, base.get? b = some o → s.heap.get? b = some o := fun b o e => (e0.bs b o e).1
  have KX : K.In s.heap := e0.mod.kin.keeps keepB
  have lim : s.heap.NoLimit := e0.mod.nolimit.keeps keepB
  refine codeAny_call_function hr.depth (KX _ _ lk) rfl S.co S.gen rfl (PySem.W.codeRec_of KX hcd) (hb _ _ _ _ ?_)
  refine wpAny_newFunctionEnv_cells S.kind (fun y hy => ?_) fun env he s1 x => ?_
  · rcases S.par y.1 (List.of_mem_zip (a := y.1) (b := y.2) hy).1 with q | q
    · exact .inl q
    · exact .inr ⟨q, PySem.W.cellsFrom_some _ _ _ (.inl q)⟩
  subst he
  refine ⟨lim.keeps x.toInCall.keep, codeAny_func ?_⟩
  obtain ⟨t, ht, hq⟩ := hbody A outer s H vs Q E (hr.deeper _) (by simpa [Around.deeper] using hgd) hsp
  have I0 := inv_start (CX := CX0) (E := E) (cd := .ref c) (qual := qual) (f := f) (N := N) S hr.hd e0 (len _ _ _ _ hsp) r x
  refine wpAny_mono (ht.nox.run [] s1 (start N vs) H _ I0 hq) (fun fl s' hs => ?_) fun e s' hs => hs
  have fin : ∀ {σ' : L2.St} {H' : Hp} {v : V} {u : Value}, Inv (cxOf CX0 P w K mg base N qual (defScope st) f (.ref c) A outer s H E) [] σ' H' s' → RelV v u → Q v H' → CE outer P w H s Q u s' :=
    fun J rv q => ⟨_, _, J.os, J.bare, J.base, J.hok, rv, q⟩
  match fl, hs with
  | .ret u, ⟨v, σ', H', J, rv, q⟩ => exact fin J rv q
  | .next, ⟨σ', H', J, q⟩ => exact fin (v := V.non) (u := Value.none) J rfl q
  | .brk, ⟨_, _, _, q⟩ => exact q.elim
  | .cont, ⟨_, _, _, q⟩ => exact q.elim
end
section
variable {X : Cx} {T : List (Addr × Str)} {x a e n F S1 S2 : Str} {st : Stmt} {g CS c P : Addr} {k : Nat} {fd : FuncData} {Ng : List Str} {params : Arguments} {body : Expr} {scope : Scope} {t : XK → TE} {p lpos pos : Pos} {j1 j2 : Nat} {p1 p2 p3 p4 p5 p6 p7 p8 p9 pa pb pc pd pe pf pg ph : Pos}
/-- x(lambda: body), x a def that tells what the call did -/
theorem pe_lamTell (Fg : Fun X.K x x st g fd) (hg : Gl X x) (hm : X.mg x = some (.ref g)) (hb : L2.Binds X.K fd [a] []) (Sg : FnScope Ng [a] (defScope st)) (hNg : Ng[0]? = some a) (hva : Vis (defScope st) a)
    (hbd : defBody st = [.Try [.Return (some (.List [.Constant (.str S1) j1 p3, .Call (.Name "repr" p4) [.Call (.Name a p1) [] [] p2] [] p5] p6)) p7]
      [.ExceptHandler (some (.Name e p8)) (some n) [.Return (some (.List [.Constant (.str S2) j2 p9, .Call (.Name "repr" pa) [.Attribute (.Name n pb) F pc] [] pd] pe)) pf] pg] [] [] ph])
    (hge : (defScope st).names.lookup e = some .globalImplicit) (hme : X.mg e = some (.ref CS)) (hgr : (defScope st).names.lookup ("repr" : Str) = some .globalImplicit) (hmr : X.mg "repr" = none) (h0 : ∀ f : Addr, (L2.start Ng [V.ref f])[0]? = some (some (V.ref f)))
    (hl : Ng.length = 2) (hn : Ng[1]? = some n) (hnl : (defScope st).names.lookup n = some .local)
    (te : PySem.W.exmOne X.K (.ref CS) (.ref CS) = some true) (xf : XfC X.K CS) (no : PySem.W.findIn X.K (.ref CS) F = some none) (hgd : X.A.guards = some []) (hu : X.A.units + 80 < cLine)
    (TB : TabB X.base X.mg c P) (hcode : X.env.code = .ref c) (hmT : (P, X.env.qual ++ "<lambda>") ∈ T) (hu2 : ∀ p ∈ T, p.1 = P → p.2 = X.env.qual ++ "<lambda>") (hr : Room (k + 2) X.A) (L : LamS X.env.scope scope) (hdef : defaultsOf params X.env = ([], []))
    (hbind : ∀ (q : Str) (cl : List (Str × Addr)) (pm cv ctv : Value), bindArgs (PySem.W.kla_fn "<lambda>" q params body scope cl pm cv ctv) ⟨[], []⟩ = pure [])
    (hbody : ∀ (A : Around) (outer : List Env) (s : Shared) (H : Hp) (E : XK) (f c' : Addr), Room k (A.deeper (lamEnv X scope s.heap.objs.size f c')) → PE (lamCx X A outer s H E scope f c') body (t E))
    (hde : (e == ("__debug__" : Str)) = false := by decide) (hdn : (n == ("__debug__" : Str)) = false := by decide) (hcn : (n == ("__classdict__" : Str)) = false := by decide)
    (hdb : (x == ("__debug__" : Str)) = false := by decide) (hd : (a == ("__debug__" : Str)) = false := by decide) (hcd : (a == ("__classdict__" : Str)) = false := by decide) :
    PE X (.Call (.Name x p) [.Lambda params body scope lpos] [] pos) (tLam T (TShow X.K CS F S1 S2) t) := by
  obtain ⟨oc, od, kV, doc, pm, an, cdv, ct, osl, rfl, lk, hcd2⟩ := Fg.ex
  have G := show_gives (X := X) (x := x) (q := X.env.qual ++ "<lambda>") (g := g) (cdg := cdv) (j1 := j1) (j2 := j2) (p1 := p1) (p2 := p2) (p3 := p3) (p4 := p4) (p5 := p5) (p6 := p6) (p7 := p7) (p8 := p8) (p9 := p9) (pa := pa) (pb := pb) (pc := pc) (pd := pd) (pe := pe) (pf := pf) (pg := pg) (ph := ph) (a := a) (S1 := S1) (S2 := S2) hge hme hde h0 hgr hmr Sg.nd hl hn hnl hdn hcn te xf no hgd hu
  rw [← hbd] at G
  exact pe_lamcall hg hm Fg.kp lk hcd2 hb Sg hNg hva G TB hcode hmT hu2 hr L hdef hbind hbody hdb hd hcd
end
end Z
/-! `x in l`, l a list of texts, x any thing that can be shown (a dict too). -/
namespace Z
open PySem PySem.Spec PyProof.Rows L2 PySem.SeqAt
open PyProof
theorem dict_eq_declines_str (a : Addr) (es : Array DictEntry) (ep : Nat) (b : Str) (u : Tok) :
    Meets (Builtin.«dict.__eq__» ⟨[.ref a, .str b u], []⟩) (fun _ R s => s.heap.get? a = some { cls := .type "dict", dict := none, data := .dict es ep, slots := #[] } ∧ R (.ok (.ret .notImplemented)) s) :=
  .of_wp fun prog w A R s h => by
    obtain ⟨hp, g, d, tk, os⟩ := s
    obtain ⟨hl, h⟩ := h
    have f1 := F.sub_str_dict
    wp_walk using wpAny_load hl
    exact ⟨_, rfl, h⟩
theorem str_eq_declines_dict (b : Str) (u : Tok) (a : Addr) (es : Array DictEntry) (ep : Nat) :
    Meets (Builtin.«str.__eq__» ⟨[.str b u, .ref a], []⟩) (fun _ R s => s.heap.get? a = some { cls := .type "dict", dict := none, data := .dict es ep, slots := #[] } ∧ R (.ok (.ret .notImplemented)) s) :=
  .of_wp fun prog w A R s h => by
    obtain ⟨hp, g, d, tk, os⟩ := s
    obtain ⟨hl, h⟩ := h
    wp_walk using wpAny_load hl
    exact ⟨_, rfl, h⟩
section
variable {A : Around} {s : Shared}
theorem rc_str_dict {a : Addr} {es : Array DictEntry} {ep : Nat} (b : Str) (u : Tok) (ho : s.heap.get? a = some { cls := .type "dict", dict := none, data := .dict es ep, slots := #[] }) (hu : A.units < cLine) : RcAt A s (.str b u) (.ref a) false := fun prog w E Q h =>
  rc_eq_decline_or (k := false) (typeIs_str s b u) ⟨_, ho, rfl⟩ (by decide) F.sub_dict_str F.slot_str_eq F.slot_dict_eq_refl
    (fun _ hq => call_meets F.slot_str_eq (typeIs_str s b u) F.entry_str_eq (F.args_str_eq_2 _ _) (str_eq_declines_dict b u a es ep) ⟨ho, hq⟩)
    (fun _ hq => call_meets F.slot_dict_eq_refl ⟨_, ho, rfl⟩ F.entry_dict_eq (F.args_dict_eq_2 _ _) (dict_eq_declines_str a es ep b u) ⟨ho, hq⟩)
    (fun _ hq => wpAny_of_eq (rfl : isSame (.str b u) (.ref a) = pure false) hq) (.inr hu) h
theorem eq_str_dict {a : Addr} {es : Array DictEntry} {ep : Nat} (b : Str) (u : Tok) (ho : s.heap.get? a = some { cls := .type "dict", dict := none, data := .dict es ep, slots := #[] }) (hu : A.units < cLine) : EqAt A s (.str b u) (.ref a) false := fun prog w E Q h => by
  unfold eqBool
  refine wpAny_holding ?_
  refine wpAny_ite_split (fun hab => absurd (eq_of_beq hab) nofun) (fun _ => ?_)
  exact wpAny_bind (rc_str_dict b u ho hu prog w E _ (wpAny_truthy_bool h))
end
section
variable {X : Cx}
/-- is the thing one of the texts -/
def rInT (K : PySem.W.Frag) : R2 := fun x y H Q => ∃ (p : Addr) (ws : List Str), y = .ref p ∧ SqL K H p (ws.map V.str) ∧ (∀ z ∈ ws, PyData.strOk z = true) ∧ ((∃ d, Dp K H x d ∧ SeqAt.shaped d = true ∧ Q (.bl (ws.any fun z => PyData.eqv (.str z) d)) H) ∨ ∃ a kvs, x = .ref a ∧ H a = some (.dK kvs) ∧ Q (.bl false) H)
theorem dp_strs {K : PySem.W.Frag} {H : Hp} : ∀ ws : List Str, DpAll K H (ws.map V.str) (ws.map PyData.str)
  | [] => .nil
  | x :: r => .cons (.str x) (dp_strs r)
theorem shaped_strs (ws : List Str) (ok : ∀ z ∈ ws, PyData.strOk z = true) : SeqAt.shaped (.list (ws.map PyData.str)) = true := by
  have h1 : ∀ ws : List Str, (∀ z ∈ ws, PyData.strOk z = true) → PyData.canLayAll0 (ws.map PyData.str) = true ∧ PyData.depthAll (ws.map PyData.str) ≤ 1 := by
    intro ws
    induction ws with
    | nil => exact fun _ => ⟨rfl, by simp [PyData.depthAll]⟩
    | cons x r ih => exact fun k => ⟨by simp [PyData.canLayAll0, PyData.canLay0, (ih fun z hz => k z (List.mem_cons_of_mem _ hz)).1, k x List.mem_cons_self], by simp [PyData.depthAll, PyData.depth]; exact (ih fun z hz => k z (List.mem_cons_of_mem _ hz)).2⟩
  have h2 := (h1 ws ok).2
  have h3 := (h1 ws ok).1
  unfold SeqAt.shaped
  rw [show (PyData.list (ws.map PyData.str)).canLay0 = true from by simpa [PyData.canLay0] using h3]
  have h4 : (PyData.list (ws.map PyData.str)).depth ≤ 2 := by
    simp only [PyData.depth]
    omega
  simp only [Bool.true_and, decide_eq_true_eq]
  omega
theorem reads_strs {h : Heap} : ∀ (ws : List Str) (vs : List Value) (as : List Addr), ReadsAll h vs (ws.map PyData.str) as → ∀ y ∈ vs, ∃ b u, y = .str b u
  | [], _, _, r, y, hy => by cases r; cases hy
  | x :: ws, _, _, r, y, hy => by
    cases r with
    | cons r1 r2 =>
      rcases List.mem_cons.mp hy with rfl | hy
      · cases r1
        exact ⟨_, _, rfl⟩
      · exact reads_strs ws _ _ r2 y hy
theorem op_inT (hu : X.A.units + 65 < cLine) : OpR X (compareOp .In) (rInT X.K) := by
  intro pins s σ H x y v u Q I rx ry h
  obtain ⟨p, ws, rfl, hl, ok, ⟨d, hd, sd, q⟩ | ⟨a, kvs, rfl, ha, q⟩⟩ := h
  · refine op_inD hu pins s σ H x (.ref p) v u Q I rx ry ⟨d, ws.map PyData.str, hd, .lst hl (dp_strs ws), sd, shaped_strs ws ok, ?_⟩
    rw [List.any_map]
    exact q
  · cases rx
    obtain ⟨bs, r2⟩ := Dp.reads I (.list (ws.map PyData.str)) (.ref p) u (.lst hl (dp_strs ws)) ry
    obtain ⟨_, _, _, _, ⟨cl, dd, dt, sl⟩, es, ep, ho, ⟨x1, x2, x3⟩, hdat, _⟩ := dk_of I.hok ha
    simp only at x1 x2 x3 hdat
    subst x1 x2 x3 hdat
    cases r2 with
    | list h1 h2 h3 h4 =>
      refine in_listAt (fun _ => false) ⟨_, h1, h2, _, h3⟩ (fun y hy => ?_) ?_
      · obtain ⟨b, t, rfl⟩ := reads_strs ws _ _ h4 y (by simpa using hy)
        exact eq_str_dict b t ho (by show X.A.units + 1 < cLine; omega)
      · rw [show Array.any _ (fun _ => false) = false from by simp]
        exact ⟨.bl false, H, I, rfl, q⟩
end
end Z
/-! The law's end with tables: what the top says of a def's code object and its table. -/
namespace Z
open PySem PySem.Spec PyProof.Rows L2 LamX
/-- the def of that name stands at an address, with a code object whose table is empty -/
def TabOf (mg : Str → Option Value) (h : Heap) (nm : Str) : Prop := ∃ (a : Addr) (o : Obj) (fd : FuncData) (c P : Addr), mg nm = some (.ref a) ∧ h.get? a = some o ∧ o.data = .func fd ∧ fd.code = .ref c ∧ h.IsCode c P #[] ∧ h.TableAt c P #[]
/-- read by a part that holds the def and its code object -/
theorem TabOf.read {K : PySem.W.Frag} {mg : Str → Option Value} {h : Heap} {nm : Str} {f c P : Addr} {oc : Value} {od : Option Addr} {fd : FuncData} {osl : Array (Option Value)} {cl : Value} {cd : Option Addr} {vs : Array Value} {csl : Array (Option Value)}
    (t : TabOf mg h nm) (KX : K.In h) (hm : mg nm = some (.ref f)) (lk : K.lookup f = some ⟨oc, od, .func fd, osl⟩) (hc : fd.code = .ref c) (lc : K.lookup c = some ⟨cl, cd, .fields vs, csl⟩) (hp : vs[11]? = some (.ref P)) :
    h.get? P = some noTab ∧ PySem.W.CodeHd h c P := by
  obtain ⟨a, o, fd', c', P', h1, h2, h3, h4, h5, h6⟩ := t
  rw [hm] at h1
  cases h1
  rw [KX _ _ lk] at h2
  cases h2
  cases h3
  rw [hc] at h4
  cases h4
  have X := PySem.W.CodeHd.of h5 h6
  obtain ⟨⟨o2, vs2, e1, e2, e3, e4⟩, e5⟩ := h6
  rw [KX _ _ lc] at e1
  cases e1
  cases e3
  rw [hp] at e4
  cases e4
  exact ⟨e5, X⟩
theorem walkGT2 {l : PySem.W.OpenLaw} {n k : Nat} {q : Program} {loose : List Str} {XP : (Str → Option Value) → Heap → Prop} {YP : World → Heap → Prop} {d : DefRec} {K : Params → PySem.W.Frag} {x : Str}
    (hn : l.most = some n) (hn2 : n ≤ sizeLine) (hdf : d.params.defaults = []) (hr : Room k callerA)
    (hY : ∀ (w : World) (h : Heap), YP w h → (K w.params).In h) (nms : List Str) (hrec : (nms.all fun nm => (recsOf q).any fun e => e.name == nm) = true)
    (F : ∀ (w : World) (mg : Str → Option Value) (fa : Addr) (h : Heap), (K w.params).In h → h.Ns mainGlobals mg → mg d.name = some (.ref fa) → (∀ nm ∈ nms, TabOf mg h nm) → LawAtG l w (K w.params) k n x mg fa h) :
    PySem.W.WalkO q loose XP YP l.row.toRowW d [] (fun f vs => PySem.call f vs) := by
  refine Att.attach_call hn hdf fun w s₀ s₁ mg mb fa o pm cd doc a vs ns G Y ho hd hcd hmg hobj hints hlen hg => ?_
  have KX := hY w _ Y
  have tabs : ∀ nm ∈ nms, TabOf mg s₁.heap nm := fun nm hm => by
    obtain ⟨dL, h1, h2⟩ := List.any_eq_true.mp (List.all_eq_true.mp hrec nm hm)
    have e := G.T.tab dL h1
    rw [beq_iff_eq.mp h2] at e
    exact e
  obtain ⟨fd, cs, sp, hT, nT, hC, hb, hsp, hF⟩ := F w mg fa _ KX G.T.g hmg tabs
  exact law_callGT KX G.T.g G.T.b G.T.builtins G.T.nolimit hg hT nT hC G.T.bmain hobj hints (Nat.le_trans hlen hn2) hr hF hb fun H hH hS => hsp H a ns hlen hH hS
end Z
/-! sorted of a list of tuples of ints, each with one item or more: by their first items, then the second ones, and so on. -/
namespace Z
open PySem PySem.Spec L2 PyProof.Rows
def lexF (fin : Bool) : List Int → List Int → Bool
  | x :: xs, y :: ys => if x = y then lexF fin xs ys else decide (x < y)
  | _, _ => fin
/-- a tuple before another one -/
def lexL : List Int → List Int → Bool
  | _, [] => false
  | [], _ :: _ => true
  | x :: xs, y :: ys => if x = y then lexL xs ys else decide (x < y)
theorem lexF_L : ∀ (a b : List Int), lexF (decide (a.length < b.length)) a b = lexL a b
  | [], [] => rfl
  | [], y :: ys => by simp [lexF, lexL]
  | x :: xs, [] => by simp [lexF, lexL]
  | x :: xs, y :: ys => by
    have e : decide ((x :: xs).length < (y :: ys).length) = decide (xs.length < ys.length) := by simp
    rw [e]
    unfold lexF lexL
    by_cases h : x = y
    · rw [if_pos h, if_pos h]
      exact lexF_L xs ys
    · rw [if_neg h, if_neg h]
theorem lexL_asym : ∀ (a b : List Int), lexL a b = true → lexL b a = false
  | _, [], h => by cases ‹List Int› <;> simp [lexL] at h
  | [], y :: ys, _ => by simp [lexL]
  | x :: xs, y :: ys, h => by
    unfold lexL at h ⊢
    by_cases e : x = y
    · rw [if_pos e] at h
      rw [if_pos e.symm]
      exact lexL_asym xs ys h
    · rw [if_neg e] at h
      rw [if_neg (fun z => e z.symm)]
      have := of_decide_eq_true h
      exact decide_eq_false (by omega)
theorem lexL_tr : ∀ (a b c : List Int), lexL b a = false → lexL c b = false → lexL c a = false
  | [], _, c, _, _ => by cases c <;> simp [lexL]
  | x :: xs, [], c, h, _ => by simp [lexL] at h
  | x :: xs, y :: ys, [], _, h => by simp [lexL] at h
  | x :: xs, y :: ys, z :: zs, h1, h2 => by
    unfold lexL at h1 h2 ⊢
    by_cases e1 : y = x
    · rw [if_pos e1] at h1
      by_cases e2 : z = y
      · rw [if_pos e2] at h2
        rw [if_pos (e2.trans e1)]
        exact lexL_tr xs ys zs h1 h2
      · rw [if_neg e2] at h2
        have := of_decide_eq_false h2
        rw [if_neg (by omega)]
        exact decide_eq_false (by omega)
    · rw [if_neg e1] at h1
      have h1 := of_decide_eq_false h1
      by_cases e2 : z = y
      · rw [if_neg (by omega)]
        exact decide_eq_false (by omega)
      · rw [if_neg e2] at h2
        have := of_decide_eq_false h2
        rw [if_neg (by omega)]
        exact decide_eq_false (by omega)
theorem swo_lexL {α : Type} (k : α → List Int) : SrtO.Swo fun v u => lexL (k v) (k u) := ⟨fun x y h => lexL_asym _ _ h, fun x y z h1 h2 => lexL_tr _ _ _ h1 h2⟩
theorem ints_uniq {xs : List Value} {ns ms : List Int} (h : IntsAre xs ns) (g : IntsAre xs ms) : ns = ms := by
  induction h generalizing ms with
  | nil => cases g; rfl
  | cons p t h ih => cases g with | cons q u g => rw [ih g]
theorem tupI_uniq {h : Heap} {v : Value} {ns ms : List Int} (a : TS.TupInts h v ns) (b : TS.TupInts h v ms) : ns = ms := by
  obtain ⟨p, xs, rfl, ⟨o, ho, _, n, hd⟩, i⟩ := a
  obtain ⟨q, ys, e, ⟨o', ho', _, n', hd'⟩, j⟩ := b
  cases e
  rw [ho] at ho'
  cases ho'
  rw [hd] at hd'
  cases hd'
  exact ints_uniq i j
open Classical in
noncomputable def kT (h : Heap) (v : Value) : List Int := if e : ∃ ns, TS.TupInts h v ns then Classical.choose e else []
theorem kT_of {h : Heap} {v : Value} {ns : List Int} (t : TS.TupInts h v ns) : kT h v = ns := by
  have e : ∃ ns, TS.TupInts h v ns := ⟨ns, t⟩
  unfold kT
  rw [dif_pos e]
  exact tupI_uniq (Classical.choose_spec e) t
section
variable {prog : Program} {w : World} {A : Around} {s : Shared}
theorem kat_lexL {b fin : Bool} {xs ys : List Value} {ns ms : List Int} {Q : Bool → Shared → Prop} (i : Nat) (hx : IntsAre xs ns) (hy : IntsAre ys ms) (h : Q (lexF fin ns ms) s) : PySem.W.KatLex prog w A b fin Q (xs.zip ys) i s := by
  induction hx generalizing ys ms i with
  | nil => exact PySem.W.kat_nil (by cases hy <;> exact h)
  | @cons p t xs ns hx ih =>
    cases hy with
    | nil => exact PySem.W.kat_nil h
    | @cons q u ys ms hy =>
      show PySem.W.KatLex prog w A b fin Q ((Value.int p t, Value.int q u) :: xs.zip ys) i s
      refine PySem.W.kat_cons (wpAny_eqBool_int ?_)
      by_cases e : p = q
      · subst e
        rw [beq_self_eq_true]
        refine PySem.W.kat_yes ?_
        rw [lexF, if_pos rfl] at h
        exact ih (i + 1) hy h
      · rw [show (p == q) = false from beq_eq_false_iff_ne.mpr e]
        rw [lexF, if_neg e] at h
        exact PySem.W.kat_no (TS.oneLt_ints _ h)
theorem tup_cmp {h0 : Heap} {vs : List Value} (hp : ∀ v ∈ vs, TS.TupInts s.heap v (kT h0 v)) : SrtO.Cmp prog w A s (PyProof.Rows.tuples' true) (fun p => p.1 ∈ vs) (SrtO.lt2 fun v u => lexL (kT h0 v) (kT h0 u)) := by
  intro p q hm hm'
  obtain ⟨a, xs, e, ⟨o, ho, hc, n, hd⟩, i⟩ := hp _ hm
  obtain ⟨a', xs', e', ⟨o', ho', hc', n', hd'⟩, i'⟩ := hp _ hm'
  show wpAny (model prog w) A (PyProof.Rows.keyLt' (PyProof.Rows.tuples' true) p.1 q.1) (fun r s' => s' = s ∧ r = lexL (kT h0 p.1) (kT h0 q.1)) (fun _ _ => False) s
  generalize kT h0 p.1 = ns at i ⊢
  generalize kT h0 q.1 = ms at i' ⊢
  rw [e, e']
  refine PySem.W.kat_lt ho hd ho' hd' (kat_lexL 0 i i' ⟨rfl, ?_⟩)
  have l1 : xs.size = ns.length := by rw [← i.length]; simp
  have l2 : xs'.size = ms.length := by rw [← i'.length]; simp
  rw [l1, l2]
  exact lexF_L ns ms
theorem firsts_any {h : Heap} : ∀ vs : List Value, (∀ v ∈ vs, ∃ n ns, TS.TupInts h v (n :: ns)) → ∃ fs, PySem.W.KatTups h vs fs ∧ fs.length = vs.length ∧ ∀ f, f ∈ fs → ∃ n t, f = Value.int n t
  | [], _ => ⟨[], PySem.W.KatTups.nil, rfl, fun f hf => by simp at hf⟩
  | v :: vs, x => by
    obtain ⟨fs, k, hl, hi⟩ := firsts_any vs fun u hu => x u (List.mem_cons_of_mem _ hu)
    obtain ⟨n0, ns, ⟨a, xs, rfl, ⟨o, ho, hc, n, hdt⟩, i⟩⟩ := x v (List.mem_cons_self ..)
    obtain ⟨y, ys, e⟩ : ∃ y ys, xs.toList = y :: ys := by
      cases q : xs.toList with
      | nil =>
        rw [q] at i
        cases i
      | cons y ys => exact ⟨y, ys, rfl⟩
    obtain ⟨m, t, hy⟩ := i.all y (by rw [e]; exact List.mem_cons_self ..)
    refine ⟨y :: fs, PySem.W.KatTups.cons ho hc hdt ?_ k, by simp [hl], ?_⟩
    · have z := congrArg (fun l : List Value => l[0]?) e
      simpa using z
    · intro f hf
      rcases List.mem_cons.mp hf with rfl | hf
      · exact ⟨m, t, hy⟩
      · exact hi f hf
theorem tups_sortableO {h0 : Heap} {a : Addr} {vs : List Value} (hl : 0 < vs.length) (hp : ∀ v ∈ vs, TS.TupInts s.heap v (kT h0 v)) (hne : ∀ v ∈ vs, kT h0 v ≠ []) (ha : ∀ o, s.heap.get? a = some o → o.cls ≠ .type "tuple") : SrtO.SortableO prog w A s a vs fun v u => lexL (kT h0 v) (kT h0 u) := by
  intro h' keep
  have hp' : ∀ v ∈ vs, TS.TupInts h' v (kT h0 v) := fun v hm => (hp v hm).keeps fun b o e c => keep b o (fun z => by subst z; exact ha o e c) e
  obtain ⟨fs, h1, h2, h3⟩ := firsts_any vs fun v hm => by
    obtain ⟨n, ns, e⟩ := List.exists_cons_of_ne_nil (hne v hm)
    exact ⟨n, ns, e ▸ hp' v hm⟩
  refine ⟨PyProof.Rows.tuples' true, fun Q E hq => ?_, tup_cmp hp'⟩
  refine PySem.W.kat_kind (T := .type "int") h1 (by omega) (fun f hm => ?_) (by rfl) ?_
  · obtain ⟨x, t, rfl⟩ := h3 f hm
    exact PySem.W.Looks.now
  · have e : (Value.type "int" != Value.type "tuple") = true := by first | decide +kernel | rfl | decide
    rw [e]
    exact hq
end
/-- sorted(l), l a list of tuples of ints -/
def rSortedL (K : PySem.W.Frag) : List V → Hp → VK → Prop := fun vs H Q => ∃ (a : Addr) (L : List (Addr × List Int)), vs = [V.ref a] ∧ SqL K H a (L.map fun z => V.ref z.1) ∧ (∀ z ∈ L, SqT K H z.1 (z.2.map V.int) ∧ z.2 ≠ []) ∧
  ∀ (L' : List (Addr × List Int)) (p : Addr), L'.Perm L → L'.Pairwise (fun z w => lexL w.2 z.2 = false) → H p = none → Q (.ref p) (upd H p (.lst (L'.map fun z => V.ref z.1)))
theorem cr_sortedL {X : Cx} : CallR X (.builtin "sorted") (rSortedL X.K) := by
  intro pins s σ H vs us Q I r h
  obtain ⟨a, L, rfl, hs, hx, q⟩ := h
  obtain ⟨its, rv, hl, hz⟩ := I.list hs
  obtain ⟨u, rfl, ru⟩ := vals1 r
  obtain rfl : u = Value.ref a := ru
  obtain rfl := refs_vals _ rv
  have hT : ∀ z ∈ L, TS.TupInts s.heap (.ref z.1) z.2 := fun z m => by
    obtain ⟨js, rj, hj, _⟩ := I.tuple (hx z m).1
    exact ⟨_, _, rfl, hj, by simpa using ints_vals rj⟩
  have hk : ∀ z ∈ L, kT s.heap (.ref z.1) = z.2 := fun z m => kT_of (hT z m)
  have hz' : (L.map fun z => Value.ref z.1).length ≤ sizeLine := by
    rw [List.length_map] at hz ⊢
    exact hz
  refine SrtO.sorted_ord (swo_lexL (kT s.heap)) hl.isList hz' (fun h2 h₁ d ha kk => ?_) fun out h1 h2 => ?_
  · refine tups_sortableO (s := { s with heap := h₁ }) (by omega) (fun v hm => ?_) (fun v hm => ?_) fun o e => ?_
    · obtain ⟨z, mz, rfl⟩ := List.mem_map.mp hm
      rw [hk z mz]
      exact (hT z mz).keeps fun b o e _ => (kk b o e).2
    · obtain ⟨z, mz, rfl⟩ := List.mem_map.mp hm
      rw [hk z mz]
      exact (hx z mz).2
    · have e' : some o = some (seqObj "list" _ 0) := e.symm.trans ha
      cases e'
      intro c
      exact absurd (Value.type.inj c) (by decide)
  · obtain ⟨L', g3, g4⟩ := perm_lift (fun z : Addr × List Int => Value.ref z.1) h2.perm L rfl
    subst g4
    obtain ⟨n, hn⟩ := sortedAll_at s.heap (L.map fun z => Value.ref z.1) (L'.map fun z => Value.ref z.1).toArray
    have hl' : (L'.map fun z => V.ref z.1).length ≤ sizeLine := by
      rw [List.length_map, g3.length_eq]
      rw [List.length_map] at hz'
      exact hz'
    have rl : Vals (L'.map fun z => V.ref z.1) (L'.map fun z => Value.ref z.1) := vals_maps (fun z : Addr × List Int => V.ref z.1) (fun z => Value.ref z.1) L' fun z _ => rfl
    refine ⟨.ref (s.heap.objs.size + 1), upd H (s.heap.objs.size + 1) (.lst (L'.map fun z => V.ref z.1)), I.laid (t' := s.toks) (fun b o e => sortedAll_old e) (Nat.le_succ _) ⟨hl', _, n, rl, hn⟩, rfl, q L' _ g3 ?_ (I.hok.fresh (Nat.le_succ _))⟩
    have g5 := List.pairwise_map.mp h1
    refine g5.imp_of_mem fun {z w} mz mw e => ?_
    dsimp only at e
    rw [hk w (g3.mem_iff.mp mw), hk z (g3.mem_iff.mp mz)] at e
    exact e
end Z
/-! Ways that come back: rings. -/
namespace K1
open PySem PySem.Spec L2 Z
def Path (cs : List (Int × Int)) : Int → List Int → Int → Prop
  | p, [], e => p = e
  | p, q :: w, e => q = p ∧ Path cs (nx cs p) w e
theorem path_app {cs : List (Int × Int)} : ∀ {u v : List Int} {p q e : Int}, Path cs p u q → Path cs q v e → Path cs p (u ++ v) e
  | [], v, p, q, e, h, g => by
    obtain rfl : p = q := h
    exact g
  | a :: u, v, p, q, e, h, g => ⟨h.1, path_app h.2 g⟩
theorem path_split {cs : List (Int × Int)} : ∀ {u v : List Int} {p e : Int}, Path cs p (u ++ v) e → ∃ q, Path cs p u q ∧ Path cs q v e
  | [], v, p, e, h => ⟨p, rfl, h⟩
  | a :: u, v, p, e, h => by
    obtain ⟨q, h1, h2⟩ := path_split (u := u) h.2
    exact ⟨q, ⟨h.1, h1⟩, h2⟩
theorem path_at {cs : List (Int × Int)} {u v : List Int} {p e m : Int} (h : Path cs p (u ++ m :: v) e) : Path cs p u m ∧ Path cs m (m :: v) e := by
  obtain ⟨q, h1, h2⟩ := path_split h
  obtain rfl : m = q := h2.1
  exact ⟨h1, h2⟩
theorem path_map {cs ds : List (Int × Int)} : ∀ {w : List Int} {p e : Int}, Path cs p w e → (∀ q ∈ w, nx cs q = nx ds q) → Path ds p w e
  | [], _, _, h, _ => h
  | a :: w, p, e, h, g => by
    obtain ⟨rfl, h2⟩ := h
    refine ⟨rfl, ?_⟩
    rw [← g a List.mem_cons_self]
    exact path_map h2 fun q hq => g q (List.mem_cons_of_mem _ hq)
theorem steps_path {cs : List (Int × Int)} : ∀ (k : Nat) (a : List Int) (p : Int), ∃ w, (steps cs k a p).1 = a ++ w ∧ Path cs p w (steps cs k a p).2
  | 0, a, p => ⟨[], by simp [steps], rfl⟩
  | k + 1, a, p => by
    by_cases hc : isC cs p = true ∧ p ∉ a
    · rw [steps_go hc.1 hc.2]
      obtain ⟨w, h1, h2⟩ := steps_path k (a ++ [p]) (nx cs p)
      exact ⟨p :: w, by rw [h1, List.append_assoc]; rfl, rfl, h2⟩
    · have he : isC cs p = false ∨ p ∈ a := by
        cases e : isC cs p with
        | false => exact .inl rfl
        | true => exact .inr (Classical.byContradiction fun z => hc ⟨e, z⟩)
      rw [steps_end he]
      exact ⟨[], by simp, rfl⟩
theorem steps_walk {cs : List (Int × Int)} : ∀ (w : List Int) (k : Nat) (a : List Int) (p e : Int), Path cs p w e → (a ++ w).Nodup → (∀ q ∈ w, isC cs q = true) → (isC cs e = false ∨ e ∈ a ++ w) → w.length ≤ k → steps cs k a p = (a ++ w, e)
  | [], k, a, p, e, h, _, _, hs, _ => by
    obtain rfl : p = e := h
    rw [List.append_nil] at hs ⊢
    exact steps_end hs k
  | q :: w, 0, _, _, _, _, _, _, _, hk => by simp at hk
  | q :: w, k + 1, a, p, e, h, nd, hc, hs, hk => by
    obtain ⟨rfl, h2⟩ := h
    have n1 : q ∉ a := fun z => (List.nodup_append.mp nd).2.2 q z q List.mem_cons_self rfl
    rw [steps_go (hc q List.mem_cons_self) n1, steps_walk w k (a ++ [q]) _ e h2 (by rw [List.append_assoc]; exact nd) (fun r hr => hc r (List.mem_cons_of_mem _ hr)) (by rw [List.append_assoc]; exact hs) (by simpa using hk), List.append_assoc]
    rfl
theorem along_of {cs : List (Int × Int)} {p e : Int} {w : List Int} (h : Path cs p w e) (nd : w.Nodup) (hc : ∀ q ∈ w, isC cs q = true) (hs : isC cs e = false ∨ e ∈ w) : along cs p = (w, e) := by
  have := seen_len nd hc
  have := steps_walk w (cs.length + 1) [] p e h (by simpa using nd) hc (by simpa using hs) (by omega)
  rw [List.nil_append] at this
  exact this
theorem along_path (cs : List (Int × Int)) (p : Int) : Path cs p (along cs p).1 (along cs p).2 := by
  obtain ⟨w, h1, h2⟩ := steps_path (cs := cs) (cs.length + 1) [] p
  rw [List.nil_append] at h1
  show Path cs p (steps cs (cs.length + 1) [] p).1 _
  rw [h1]
  exact h2
/-- e stands on the ring r -/
def Cyc (cs : List (Int × Int)) (e : Int) (r : List Int) : Prop := along cs e = (r, e) ∧ isC cs e = true
theorem Cyc.all {cs : List (Int × Int)} {e : Int} {r : List Int} (h : Cyc cs e r) : Path cs e r e ∧ r.Nodup ∧ (∀ q ∈ r, isC cs q = true) ∧ e ∈ r := by
  have a := along_path cs e
  have b := along_stop cs e
  rw [h.1] at a b
  refine ⟨a, b.2.1, b.2.2, ?_⟩
  rcases b.1 with z | z
  · rw [show isC cs (r, e).2 = isC cs e from rfl, h.2] at z
    cases z
  · exact z
theorem Cyc.of {cs : List (Int × Int)} {e : Int} {r : List Int} (h : Path cs e r e) (nd : r.Nodup) (hc : ∀ q ∈ r, isC cs q = true) (he : e ∈ r) : Cyc cs e r := ⟨along_of h nd hc (.inr he), hc e he⟩
theorem Cyc.head {cs : List (Int × Int)} {e : Int} {r : List Int} (h : Cyc cs e r) : ∃ t, r = e :: t := by
  obtain ⟨a, _, _, d⟩ := h.all
  cases r with
  | nil => cases d
  | cons q t => exact ⟨t, by rw [a.1]⟩
theorem cyc_split {cs : List (Int × Int)} {p e : Int} {u v : List Int} (h : Path cs p (u ++ e :: v) e) (nd : (u ++ e :: v).Nodup) (hc : ∀ q ∈ u ++ e :: v, isC cs q = true) : Cyc cs e (e :: v) :=
  Cyc.of (path_at h).2 (List.nodup_append.mp nd).2.1 (fun q hq => hc q (List.mem_append_right _ hq)) List.mem_cons_self
theorem cyc_rot {cs : List (Int × Int)} {e m : Int} {u v : List Int} (h : Cyc cs e (u ++ m :: v)) : Cyc cs m (m :: v ++ u) := by
  obtain ⟨a, b, c, _⟩ := h.all
  obtain ⟨p1, p2⟩ := path_at a
  have pm : (m :: v ++ u).Perm (u ++ m :: v) := List.perm_append_comm
  exact Cyc.of (path_app p2 p1) (pm.nodup_iff.mpr b) (fun q hq => c q (pm.mem_iff.mp hq)) (by simp)
theorem cyc_at {cs : List (Int × Int)} {e q : Int} {r : List Int} (h : Cyc cs e r) (hq : q ∈ r) : ∃ r', Cyc cs q r' ∧ r'.Perm r := by
  obtain ⟨u, v, rfl⟩ := List.append_of_mem hq
  exact ⟨_, cyc_rot h, List.perm_append_comm⟩
theorem cyc_nx {cs : List (Int × Int)} {e q : Int} {r : List Int} (h : Cyc cs e r) (hq : q ∈ r) : nx cs q ∈ r := by
  obtain ⟨r', h', pm⟩ := cyc_at h hq
  rw [← pm.mem_iff]
  obtain ⟨t, rfl⟩ := h'.head
  obtain ⟨⟨_, a⟩, _, _, _⟩ := h'.all
  cases t with
  | nil =>
    rw [show nx cs q = q from a]
    exact List.mem_cons_self
  | cons z t =>
    rw [← a.1]
    exact List.mem_cons_of_mem _ List.mem_cons_self
theorem cyc_in {cs : List (Int × Int)} {e : Int} {r : List Int} (h : Cyc cs e r) : ∀ {w : List Int} {q z : Int}, q ∈ r → Path cs q w z → z ∈ r
  | [], q, z, hq, p => by
    obtain rfl : q = z := p
    exact hq
  | a :: w, q, z, hq, p => cyc_in h (cyc_nx h hq) p.2
theorem cyc_uniq {cs : List (Int × Int)} {e : Int} {r r' : List Int} (h : Cyc cs e r) (h' : Cyc cs e r') : r = r' := congrArg Prod.fst (h.1.symm.trans h'.1)
theorem closed_path {cs : List (Int × Int)} {A : List Int} (cl : ∀ q ∈ A, nx cs q ∈ A ∨ isC cs (nx cs q) = false) : ∀ {w : List Int} {z e : Int}, z ∈ A → Path cs z w e → (∀ q ∈ w, isC cs q = true) → ∀ q ∈ w, q ∈ A
  | [], _, _, _, _, _ => fun q hq => by cases hq
  | a :: w, z, e, hz, p, hc => fun q hq => by
    obtain ⟨rfl, p2⟩ := p
    rcases List.mem_cons.mp hq with rfl | hq
    · exact hz
    · cases w with
      | nil => cases hq
      | cons b w =>
        have hb : b = nx cs a := p2.1
        have hn : nx cs a ∈ A := by
          rcases cl a hz with x | x
          · exact x
          · rw [← hb, hc b (List.mem_cons_of_mem _ List.mem_cons_self)] at x
            cases x
        exact closed_path cl hn p2 (fun q hq => hc q (List.mem_cons_of_mem _ hq)) q hq
theorem closed_ring {cs : List (Int × Int)} {A : List Int} (cl : ∀ q ∈ A, nx cs q ∈ A ∨ isC cs (nx cs q) = false) {e z : Int} {r : List Int} (h : Cyc cs e r) (hz : z ∈ r) (hA : z ∈ A) : ∀ q ∈ r, q ∈ A := fun q hq => by
  obtain ⟨r', h', pm⟩ := cyc_at h hz
  obtain ⟨a, _, c, _⟩ := h'.all
  exact closed_path cl hA a c q (pm.mem_iff.mpr hq)
structure RInv (cs : List (Int × Int)) (A : List Int) (R : List (List Int)) : Prop where
  nd : A.Nodup
  ce : ∀ q ∈ A, isC cs q = true
  cl : ∀ q ∈ A, nx cs q ∈ A ∨ isC cs (nx cs q) = false
  hd : ∀ r ∈ R, ∃ m ∈ A, Cyc cs m r ∧ ∀ q ∈ r, m ≤ q
  al : ∀ m ∈ A, ∀ r, Cyc cs m r → (∀ q ∈ r, m ≤ q) → r ∈ R
  nr : R.Nodup
theorem RInv.start (cs : List (Int × Int)) : RInv cs [] [] := ⟨List.nodup_nil, by simp, by simp, by simp, by simp, List.nodup_nil⟩
/-- the way from p on, over what was passed -/
theorem way_on {cs : List (Int × Int)} {A : List Int} (nd : A.Nodup) (ce : ∀ q ∈ A, isC cs q = true) (cl : ∀ q ∈ A, nx cs q ∈ A ∨ isC cs (nx cs q) = false) (p : Int) : ∃ (w : List Int) (E : Int), steps cs (cs.length + 1) A p = (A ++ w, E) ∧ Path cs p w E ∧ (A ++ w).Nodup ∧ (∀ q ∈ A ++ w, isC cs q = true) ∧ (isC cs E = false ∨ E ∈ A ++ w) ∧ (∀ q ∈ A ++ w, nx cs q ∈ A ++ w ∨ isC cs (nx cs q) = false) ∧ (isC cs p = true → p ∈ A ++ w) := by
  obtain ⟨w, h1, h2⟩ := steps_path (cs := cs) (cs.length + 1) A p
  have s := steps_stop (cs.length + 1) A p nd ce (by omega)
  have c := steps_closed (cs.length + 1) A p nd ce (by omega) fun r hr => (cl r hr).elim .inl fun z => .inr (.inr z)
  rw [h1] at s c
  refine ⟨w, _, Prod.ext h1 rfl, h2, s.2.1, s.2.2, s.1, c, fun hp => ?_⟩
  cases w with
  | nil =>
    have e : p = (steps cs (cs.length + 1) A p).2 := h2
    rcases s.1 with z | z
    · rw [← e, hp] at z
      cases z
    · rw [e]
      exact z
  | cons q w =>
    rw [h2.1]
    exact List.mem_append_right _ List.mem_cons_self
theorem RInv.no {cs : List (Int × Int)} {A w : List Int} {R : List (List Int)} {p E : Int} (h : RInv cs A R) (hp : Path cs p w E) (nd : (A ++ w).Nodup) (ce : ∀ q ∈ A ++ w, isC cs q = true) (hs : isC cs E = false ∨ E ∈ A ++ w) (cl : ∀ q ∈ A ++ w, nx cs q ∈ A ++ w ∨ isC cs (nx cs q) = false) (hE : E ∉ w) : RInv cs (A ++ w) R := by
  refine ⟨nd, ce, cl, fun r hr => ?_, fun m hm r hc hl => ?_, h.nr⟩
  · obtain ⟨m, a, b⟩ := h.hd r hr
    exact ⟨m, List.mem_append_left _ a, b⟩
  · rcases List.mem_append.mp hm with x | x
    · exact h.al m x r hc hl
    · obtain ⟨u, v, rfl⟩ := List.append_of_mem x
      have pE := (path_at hp).2
      have hr := cyc_in hc hc.all.2.2.2 pE
      have EA : E ∈ A := by
        rcases hs with y | y
        · rw [hc.all.2.2.1 E hr] at y
          cases y
        · rcases List.mem_append.mp y with z | z
          · exact z
          · exact absurd z hE
      have mA := closed_ring h.cl hc hr EA m hc.all.2.2.2
      exact absurd rfl ((List.nodup_append.mp nd).2.2 m mA m x)
theorem RInv.yes {cs : List (Int × Int)} {A u v x y : List Int} {R : List (List Int)} {p E m : Int} (h : RInv cs A R) (hp : Path cs p (u ++ E :: v) E) (nd : (A ++ (u ++ E :: v)).Nodup) (ce : ∀ q ∈ A ++ (u ++ E :: v), isC cs q = true) (cl : ∀ q ∈ A ++ (u ++ E :: v), nx cs q ∈ A ++ (u ++ E :: v) ∨ isC cs (nx cs q) = false)
    (hm : E :: v = x ++ m :: y) (hl : ∀ q ∈ E :: v, m ≤ q) : RInv cs (A ++ (u ++ E :: v)) (R ++ [m :: y ++ x]) := by
  have cE : Cyc cs E (E :: v) := cyc_split hp (List.nodup_append.mp nd).2.1 fun q hq => ce q (List.mem_append_right _ hq)
  have cm : Cyc cs m (m :: y ++ x) := cyc_rot (e := E) (hm ▸ cE)
  have pm : (m :: y ++ x).Perm (E :: v) := by rw [hm]; exact List.perm_append_comm
  have mw : m ∈ u ++ E :: v := List.mem_append_right _ (pm.mem_iff.mp (by simp))
  have lm : ∀ q ∈ m :: y ++ x, m ≤ q := fun q hq => hl q (pm.mem_iff.mp hq)
  refine ⟨nd, ce, cl, fun r hr => ?_, fun m' hm' r hc hl' => ?_, ?_⟩
  · rcases List.mem_append.mp hr with z | z
    · obtain ⟨m', a, b⟩ := h.hd r z
      exact ⟨m', List.mem_append_left _ a, b⟩
    · cases List.mem_singleton.mp z
      exact ⟨m, List.mem_append_right _ mw, cm, lm⟩
  · rcases List.mem_append.mp hm' with z | z
    · exact List.mem_append_left _ (h.al m' z r hc hl')
    · obtain ⟨u', v', e⟩ := List.append_of_mem z
      have pE : Path cs m' (m' :: v') E := (path_at (e ▸ hp)).2
      have hr := cyc_in hc hc.all.2.2.2 pE
      obtain ⟨r', cE', pm'⟩ := cyc_at hc hr
      obtain rfl := cyc_uniq cE' cE
      have e2 : m' = m := by
        have a1 := hl' m (pm'.mem_iff.mp (pm.mem_iff.mp (by simp)))
        have a2 := hl m' (pm'.mem_iff.mpr hc.all.2.2.2)
        omega
      subst e2
      rw [cyc_uniq hc cm]
      exact List.mem_append_right _ List.mem_cons_self
  · refine List.nodup_append.mpr ⟨h.nr, by simp, fun r hr s hs e => ?_⟩
    cases List.mem_singleton.mp hs
    subst e
    obtain ⟨m', a, b, _⟩ := h.hd _ hr
    obtain ⟨t, et⟩ := b.head
    have e3 : m = m' := (List.cons.inj et).1
    subst e3
    exact (List.nodup_append.mp nd).2.2 m a m mw rfl
/-! ### the lost cells alone -/
def lostC (cs : List (Int × Int)) (C : List Int) : List (Int × Int) := cs.filter fun p => !decide (p.1 ∈ C)
theorem isC_lost {cs : List (Int × Int)} {C : List Int} {q : Int} : isC (lostC cs C) q = true ↔ isC cs q = true ∧ q ∉ C := by
  rw [isC_mem, isC_mem]
  unfold lostC
  constructor
  · intro h
    obtain ⟨p, hp, rfl⟩ := List.mem_map.mp h
    obtain ⟨a, b⟩ := List.mem_filter.mp hp
    exact ⟨List.mem_map_of_mem a, by simpa using b⟩
  · rintro ⟨h, n⟩
    obtain ⟨p, hp, rfl⟩ := List.mem_map.mp h
    exact List.mem_map_of_mem (List.mem_filter.mpr ⟨hp, by simpa using n⟩)
theorem find_filter {cs : List (Int × Int)} {C : List Int} {q : Int} (n : q ∉ C) : (lostC cs C).find? (fun p => decide (p.1 = q)) = cs.find? fun p => decide (p.1 = q) := by
  unfold lostC
  rw [List.find?_filter]
  congr 1
  funext p
  by_cases e : p.1 = q
  · rw [decide_eq_true e, e, decide_eq_false n]; rfl
  · rw [decide_eq_false e]; simp
theorem nx_lost {cs : List (Int × Int)} {C : List Int} {q : Int} (n : q ∉ C) : nx (lostC cs C) q = nx cs q := by
  unfold nx
  rw [find_filter n]
theorem cyc_lost {cs : List (Int × Int)} {C : List Int} (cl : ∀ q ∈ C, nx cs q ∈ C ∨ isC cs (nx cs q) = false) {m : Int} {r : List Int} : Cyc (lostC cs C) m r ↔ Cyc cs m r ∧ m ∉ C := by
  constructor
  · intro h
    obtain ⟨a, b, c, d⟩ := h.all
    refine ⟨Cyc.of (path_map a fun q hq => nx_lost (isC_lost.mp (c q hq)).2) b (fun q hq => (isC_lost.mp (c q hq)).1) d, (isC_lost.mp (c m d)).2⟩
  · rintro ⟨h, n⟩
    obtain ⟨a, b, c, d⟩ := h.all
    have nC : ∀ q ∈ r, q ∉ C := fun q hq hC => n (closed_ring cl h hq hC m d)
    exact Cyc.of (path_map a fun q hq => (nx_lost (nC q hq)).symm) b (fun q hq => isC_lost.mpr ⟨c q hq, nC q hq⟩) d
theorem come_closed (cs : List (Int × Int)) : ∀ (ns : List (Nat × Int)) (a : List Int), a.Nodup → (∀ q ∈ a, isC cs q = true) → (∀ q ∈ a, nx cs q ∈ a ∨ isC cs (nx cs q) = false) →
    ∀ q ∈ ns.foldl (fun a p => (steps cs (cs.length + 1) a p.2).1) a, nx cs q ∈ ns.foldl (fun a p => (steps cs (cs.length + 1) a p.2).1) a ∨ isC cs (nx cs q) = false
  | [], a, _, _, cl => cl
  | p :: ns, a, nd, h, cl => by
    have s := come_step p.2 nd h cl
    exact come_closed cs ns _ s.2.1 s.2.2.1 s.2.2.2
theorem come_cl (cs : List (Int × Int)) (ns : List (Nat × Int)) : ∀ q ∈ come cs ns, nx cs q ∈ come cs ns ∨ isC cs (nx cs q) = false := come_closed cs ns [] List.nodup_nil (by simp) (by simp)
theorem mem_come_go (cs : List (Int × Int)) (z : Int) : ∀ (ns : List (Nat × Int)) (a : List Int), a.Nodup → (∀ q ∈ a, isC cs q = true) → (∀ q ∈ a, nx cs q ∈ a ∨ isC cs (nx cs q) = false) →
    (z ∈ ns.foldl (fun a p => (steps cs (cs.length + 1) a p.2).1) a ↔ z ∈ a ∨ ∃ p ∈ ns, z ∈ (along cs p.2).1)
  | [], a, _, _, _ => by simp
  | p :: ns, a, nd, h, cl => by
    have s := come_step p.2 nd h cl
    have ih := mem_come_go cs z ns _ s.2.1 s.2.2.1 s.2.2.2
    show z ∈ ns.foldl _ (steps cs (cs.length + 1) a p.2).1 ↔ _
    rw [ih, s.1]
    constructor
    · rintro (x | ⟨q, hq, x⟩)
      · rcases List.mem_append.mp x with y | y
        · exact .inl y
        · exact .inr ⟨p, List.mem_cons_self, (List.mem_filter.mp y).1⟩
      · exact .inr ⟨q, List.mem_cons_of_mem _ hq, x⟩
    · rintro (x | ⟨q, hq, x⟩)
      · exact .inl (List.mem_append_left _ x)
      · rcases List.mem_cons.mp hq with rfl | hq
        · by_cases y : z ∈ a
          · exact .inl (List.mem_append_left _ y)
          · exact .inl (List.mem_append_right _ (List.mem_filter.mpr ⟨x, by simp [y]⟩))
        · exact .inr ⟨q, hq, x⟩
theorem mem_come {cs : List (Int × Int)} {ns : List (Nat × Int)} {z : Int} : z ∈ come cs ns ↔ ∃ p ∈ ns, z ∈ (along cs p.2).1 := by
  have := mem_come_go cs z ns [] List.nodup_nil (by simp) (by simp)
  show z ∈ ns.foldl _ [] ↔ _
  rw [this]
  simp only [List.not_mem_nil, false_or]
/-! ### both lists of rings are one -/
theorem perm_uniq {α : Type} {R : α → α → Prop} (anti : ∀ a b, R a b → R b a → a = b) : ∀ {a b : List α}, a.Perm b → a.Pairwise R → b.Pairwise R → a = b
  | [], b, h, _, _ => List.Perm.nil_eq h
  | x :: t, [], h, _, _ => by have := h.length_eq; simp at this
  | x :: t, y :: u, h, ha, hb => by
    obtain ⟨a1, a2⟩ := List.pairwise_cons.mp ha
    obtain ⟨b1, b2⟩ := List.pairwise_cons.mp hb
    have e : x = y := by
      rcases List.mem_cons.mp (h.mem_iff.mp List.mem_cons_self) with z | z
      · exact z
      · rcases List.mem_cons.mp (h.mem_iff.mpr List.mem_cons_self) with w | w
        · exact w.symm
        · exact anti _ _ (a1 y w) (b1 x z)
    subst e
    rw [perm_uniq anti (List.Perm.cons_inv h) a2 b2]
theorem lexL_anti : ∀ (a b : List Int), lexL b a = false → lexL a b = false → a = b
  | [], [], _, _ => rfl
  | [], _ :: _, _, h => by simp [lexL] at h
  | _ :: _, [], h, _ => by simp [lexL] at h
  | x :: xs, y :: ys, h1, h2 => by
    unfold lexL at h1 h2
    by_cases e : x = y
    · subst e
      rw [if_pos rfl] at h1 h2
      rw [lexL_anti xs ys h1 h2]
    · rw [if_neg (fun z => e z.symm)] at h1
      rw [if_neg e] at h2
      have := of_decide_eq_false h1
      have := of_decide_eq_false h2
      omega
/-- the law's look at one cell -/
def ringB (cs : List (Int × Int)) (C : List Int) (m : Int) : Bool := !decide (m ∈ C) && (decide ((along cs m).2 = m) && (along cs m).1.all fun q => decide (m ≤ q))
def rings (cs : List (Int × Int)) (C : List Int) (ks : List Int) : List (List Int) := (ks.filter (ringB cs C)).map fun m => (along cs m).1
theorem rings_eq {cs : List (Int × Int)} {C A ks : List Int} {R R' : List (List Int)} (cl : ∀ q ∈ C, nx cs q ∈ C ∨ isC cs (nx cs q) = false) (hk : ∀ q, q ∈ ks ↔ isC cs q = true) (asc : ks.Pairwise (· < ·)) (h : RInv (lostC cs C) A R) (all : ∀ q, isC (lostC cs C) q = true → q ∈ A)
    (hp : R'.Perm R) (hs : R'.Pairwise fun z w => lexL w z = false) : R' = rings cs C ks := by
  have look : ∀ m, isC cs m = true → (ringB cs C m = true ↔ ∃ r, Cyc (lostC cs C) m r ∧ (∀ q ∈ r, m ≤ q) ∧ r = (along cs m).1) := fun m hm => by
    unfold ringB
    rw [Bool.and_eq_true, Bool.and_eq_true, decide_eq_true_eq, List.all_eq_true]
    constructor
    · rintro ⟨a, b, c⟩
      refine ⟨(along cs m).1, (cyc_lost cl).mpr ⟨⟨Prod.ext rfl b, hm⟩, by simpa using a⟩, fun q hq => of_decide_eq_true (c q hq), rfl⟩
    · rintro ⟨r, a, b, rfl⟩
      obtain ⟨x, y⟩ := (cyc_lost cl).mp a
      exact ⟨by simpa using y, congrArg Prod.snd x.1, fun q hq => decide_eq_true (b q hq)⟩
  have pw : (rings cs C ks).Pairwise fun z w => lexL w z = false := by
    refine List.pairwise_map.mpr ((asc.sublist List.filter_sublist).imp_of_mem fun {a b} ha hb e => ?_)
    obtain ⟨a1, a2⟩ := List.mem_filter.mp ha
    obtain ⟨b1, b2⟩ := List.mem_filter.mp hb
    obtain ⟨ra, ca, _, ea⟩ := (look a ((hk a).mp a1)).mp a2
    obtain ⟨rb, cb, _, eb⟩ := (look b ((hk b).mp b1)).mp b2
    obtain ⟨ta, xa⟩ := ca.head
    obtain ⟨tb, xb⟩ := cb.head
    rw [← ea, ← eb, xa, xb]
    unfold lexL
    rw [if_neg (by omega)]
    exact decide_eq_false (by omega)
  have nd : (rings cs C ks).Nodup := by
    refine List.pairwise_map.mpr ((asc.sublist List.filter_sublist).imp_of_mem fun {a b} ha hb e z => ?_)
    obtain ⟨a1, a2⟩ := List.mem_filter.mp ha
    obtain ⟨b1, b2⟩ := List.mem_filter.mp hb
    obtain ⟨ra, ca, _, ea⟩ := (look a ((hk a).mp a1)).mp a2
    obtain ⟨rb, cb, _, eb⟩ := (look b ((hk b).mp b1)).mp b2
    obtain ⟨ta, xa⟩ := ca.head
    obtain ⟨tb, xb⟩ := cb.head
    rw [← ea, ← eb, xa, xb] at z
    have := (List.cons.inj z).1
    omega
  refine perm_uniq (fun a b x y => lexL_anti a b x y) (hp.trans ?_) hs pw
  refine (List.perm_ext_iff_of_nodup h.nr nd).mpr fun r => ⟨fun hr => ?_, fun hr => ?_⟩
  · obtain ⟨m, mA, c, l⟩ := h.hd r hr
    obtain ⟨x, y⟩ := (cyc_lost cl).mp c
    have e : r = (along cs m).1 := (congrArg Prod.fst x.1).symm
    refine List.mem_map.mpr ⟨m, List.mem_filter.mpr ⟨(hk m).mpr x.2, (look m x.2).mpr ⟨r, c, l, e⟩⟩, e.symm⟩
  · obtain ⟨m, hm, rfl⟩ := List.mem_map.mp hr
    obtain ⟨a1, a2⟩ := List.mem_filter.mp hm
    obtain ⟨r, c, l, e⟩ := (look m ((hk m).mp a1)).mp a2
    rw [← e]
    exact h.al m (all m c.2) r c l
end K1
/-! list(d.values()). -/
namespace Z
open PySem PySem.Spec PyProof.Rows L2
def tListVals (te : TE) : TE := fun σ H Q => te σ H fun x H1 => ∃ (d : Addr) (kvs : List (Key × V)), x = .ref d ∧ H1 d = some (.dK kvs) ∧ ∀ p, H1 p = none → Q (.ref p) (upd H1 p (.lst (kvs.map (·.2))))
theorem kv_vals : ∀ {kvs : List (Key × V)} {vs : List (Key × Value)}, KV kvs vs → Vals (kvs.map (·.2)) (vs.map (·.2))
  | [], [], .nil => .nil
  | _ :: _, _ :: _, .cons h t => .cons h.2 (kv_vals t)
section
variable {X : Cx} {e : Expr} {te : TE} {p apos cpos pos : Pos}
theorem pe_listVals (hc : X.calm = true) (he : PE X e te) (hg : Gl X "list") (hm : X.mg "list" = none) (hv : bootBuiltins "list" = some (.type "list")) (hbase : attributeBase e "values" X.env (eval e X.env) = eval e X.env := by rfl) (hline : (apos.endLine == cpos.line) = true := by rfl)
    (hs : starEach [.Call (.Attribute e "values" apos) [] [] cpos] X.env = (false, eval (.Call (.Attribute e "values" apos) [] [] cpos) X.env) :: starEach [] X.env := by rfl) :
    PE X (.Call (.Name "list" p) [.Call (.Attribute e "values" apos) [] [] cpos] [] pos) (tListVals te) := by
  refine ⟨fun pins s σ H Q I hq => ?_⟩
  refine wpAny_Call_Name_kw (ld_blt I hg hm hv ?_)
  refine PyProof.Rows.callWith_type1 ?_ hs rfl
  rw [hs]
  show wpAny _ _ (spliced ((false, eval (.Call (.Attribute e "values" apos) [] [] cpos) X.env) :: backTo pos (starEach [] X.env))) _ _ s
  refine Calls.spliced_cons ?_
  refine wpAny_Call_method (T := "dict") (id := "dict.values") hbase rfl hline F.plainAttrs_dict F.slot_dict_values F.type_dict_values (thn (he.run pins s σ H _ I hq) fun u s1 ⟨x, H1, I1, rx, d, kvs, ex, hd, q⟩ => ?_)
  subst ex
  obtain rfl : u = Value.ref d := rx
  obtain ⟨hz, hs0, vs, kv, hdo⟩ := I1.hok d _ hd
  obtain ⟨ep, hat⟩ := hdo.dictAt
  have lk : kvs.length = vs.length := Paired.length kv
  have I2 : Inv X pins σ H1 { s1 with heap := s1.heap.push { cls := .type "dict_values", data := .fields #[.ref d] } } := I1.kept (t' := s1.toks) fun b ob q => Heap.get?_push_of_some _ q
  refine ⟨hdo.typeIs, hdo.mapOf.noDict, ?_⟩
  show wpAny _ _ (callWith cpos (.builtin "dict.values") [.ref d] [] []) _ X.xe s1
  refine method_meetsIn F.slot_dict_values F.entry_dict_values rfl (PySem.evalArgs_none ⟨rfl, hdo.typeIs, F.args_dict_values_1 _, _, meets_dict_values (mixKind X.prog X.w) d hs0, ⟨vs, hdo⟩, ?_⟩)
  refine Calls.spliced_nil ?_
  refine PySem.W.kdl_call (PySem.W.kdl_values (knd := mixKind X.prog X.w) (r := s1.heap.objs.size) (kvs := vs) (ep := ep)) (I1.ok.hd hc) ⟨⟨_, Heap.get?_push_size _ rfl, rfl, rfl⟩, hat.push _⟩ (by omega) fun h' tk acc c hk hS hacc => ?_
  have e := PySem.W.kdl_vals_eq acc.toList (by rw [Array.length_toList]; exact hacc.1) fun j v g => hacc.2 j v (by rw [← Array.getElem?_toList]; exact g)
  have rv : Vals (kvs.map (·.2)) acc.toList := by
    rw [e]
    exact kv_vals kv
  refine ⟨.ref _, upd H1 _ (.lst (kvs.map (·.2))), I2.laid (t' := tk) hk (Nat.le_refl _) (show ObjOk X.prog X.w _ _ _ (.lst (kvs.map (·.2))) from ⟨by rw [List.length_map]; exact hz, acc.toList, c, rv, by rw [Array.toArray_toList]; exact hS⟩), rfl, q _ (I2.hok.fresh (Nat.le_refl _))⟩
end
end Z
/-! Arrows and lost rings: what is promised. -/
namespace Z
open PySem PySem.Spec L2
theorem pe_fldK {X : Cx} {K : PySem.W.Frag} {e : Expr} {ta : TE} {f : Str} {pos : Pos} (h : X.K = K) (he : PE X e ta) (hb : attributeBase e f X.env (eval e X.env) = eval e X.env) : PE X (.Attribute e f pos) (tFld K ta f) := h ▸ pe_fld he hb
end Z
namespace K9
open PySem PySem.Spec L2 Z K1 K6
/-- a tuple (RT) or a list (RL) of tuples of ints -/
def RT (K : PySem.W.Frag) (H : Hp) (t : Addr) (L : List (List Int)) : Prop := ∃ rs : List Addr, PT H t (rs.map V.ref) ∧ Paired (fun b (l : List Int) => SqT K H b (l.map V.int)) rs L
def RL (K : PySem.W.Frag) (H : Hp) (t : Addr) (L : List (List Int)) : Prop := ∃ rs : List Addr, H t = some (.lst (rs.map V.ref)) ∧ Paired (fun b (l : List Int) => SqT K H b (l.map V.int)) rs L
theorem prd_imm {K : PySem.W.Frag} {H H' : Hp} (e : Imm H H') : ∀ {rs : List Addr} {L : List (List Int)}, Paired (fun b (l : List Int) => SqT K H b (l.map V.int)) rs L → Paired (fun b (l : List Int) => SqT K H' b (l.map V.int)) rs L
  | _, _, .nil => .nil
  | _, _, .cons h t => .cons (SqT.imm e h) (prd_imm e t)
theorem RT.same {K : PySem.W.Frag} {H H' : Hp} {t : Addr} {L : List (List Int)} (e : Same H H') (h : RT K H t L) : RT K H' t L := by
  obtain ⟨rs, a, b⟩ := h
  exact ⟨rs, PT.same e a, prd_imm (.of e) b⟩
theorem RL.same {K : PySem.W.Frag} {H H' : Hp} {t : Addr} {L : List (List Int)} (e : Same H H') (h : RL K H t L) : RL K H' t L := by
  obtain ⟨rs, a, b⟩ := h
  exact ⟨rs, e _ _ a, prd_imm (.of e) b⟩
def cnt (cs : List (Int × Int)) (i : Int) : Nat := (cs.map (·.2)).count i
/-- a dict of counts -/
def Cnts (kk : List (Key × V)) (l : List Int) : Prop := ∀ i : Int, valV kk (Sum.inl i : Key) = if l.count i = 0 then none else some (.int (l.count i : Nat))
theorem Cnts.nil : Cnts [] [] := fun i => rfl
theorem Cnts.get {kk : List (Key × V)} {l : List Int} (h : Cnts kk l) (z : Int) : (valV kk (Sum.inl z : Key)).getD (.int 0) = .int (l.count z : Nat) := by
  rw [h z]
  by_cases e : l.count z = 0
  · rw [if_pos e, e]; rfl
  · rw [if_neg e]; rfl
theorem Cnts.put {kk : List (Key × V)} {l : List Int} {z : Int} (h : Cnts kk l) : Cnts (putK kk (Sum.inl z : Key) (.int (((l.count z : Nat) : Int) + 1))) (l ++ [z]) := fun i => by
  rw [valV_put, List.count_append, h i]
  by_cases e : i = z
  · subst e
    rw [if_pos rfl, List.count_singleton_self, if_neg (by omega)]
    rfl
  · have e1 : ¬ (Sum.inl i : Key) = Sum.inl z := fun w => e (Sum.inl.inj w)
    have e2 : List.count i [z] = 0 := by rw [List.count_singleton]; simp [Ne.symm e]
    rw [if_neg e1, e2, Nat.add_zero]
section
variable (K : PySem.W.Frag) (C : Addr)
def q_reached_from : Sp := fun vs H Q _ => ∃ (v : V) (d : Addr) (ns : List (Nat × Int)) (cs : List (Int × Int)), vs = [v, .ref d] ∧ TP K H v (ns.map nV) ∧ H d = some (.dK (kC cs)) ∧ NOk ns ∧ COk cs ∧ ∀ (H' : Hp) (d : Addr), Same H H' → H d = none → H' d = some (.dK (kT (come cs ns))) → Q (.ref d) H'
def q_led_to : Sp := fun vs H Q _ => ∃ (l d : Addr) (cs : List (Int × Int)), vs = [.ref l, .ref d] ∧ H l = some (.lst []) ∧ H d = some (.dK (kC cs)) ∧ cs.length ≤ 400 ∧ ∀ (H' : Hp) (b : Addr) (kk : List (Key × V)), Same H H' → H b = none → H' b = some (.dK kk) → Cnts kk (cs.map (·.2)) → Q (.ref b) H'
def q_arrows_into : Sp := fun vs H Q _ => ∃ (x : Addr) (ns : List (Nat × Int)) (cs : List (Int × Int)) (i : Int), vs = [.ref x, .int i] ∧ St K C H x ns cs ∧ 0 ≤ i ∧ i ≤ 999 ∧ ∀ H', Same H H' → Q (.int (cnt cs i : Nat)) H'
def q_unasked : Sp := fun vs H Q _ => ∃ (x : Addr) (ns : List (Nat × Int)) (cs : List (Int × Int)), vs = [.ref x] ∧ St K C H x ns cs ∧ ∀ (H' : Hp) (t : Addr), Same H H' → PT H' t (((cs.map (·.1)).filter fun z => !decide (z ∈ goals ns cs)).map V.int) → Q (.ref t) H'
def q_lost_rings : Sp := fun vs H Q _ => ∃ (x : Addr) (ns : List (Nat × Int)) (cs : List (Int × Int)), vs = [.ref x] ∧ St K C H x ns cs ∧ ∀ (H' : Hp) (t : Addr), Same H H' → RT K H' t (rings cs (come cs ns) (cs.map (·.1))) → Q (.ref t) H'
def q_way : Sp := fun vs H Q _ => ∃ (s : Addr) (p : Int) (ns : List (Nat × Int)) (cs : List (Int × Int)), vs = [.ref s, .int p] ∧ LS H s ns cs ∧ DOk cs ∧ ∀ (H' : Hp) (t l : Addr), Same H H' → H l = none → H' t = some (.tup [.ref l, .int (along cs p).2]) → H' l = some (.lst ((along cs p).1.map V.int)) → Q (.ref t) H'
def q_reached : Sp := fun vs H Q _ => ∃ (s : Addr) (ns : List (Nat × Int)) (cs : List (Int × Int)), vs = [.ref s] ∧ LS H s ns cs ∧ NOk ns ∧ DOk cs ∧ ∀ (H' : Hp) (p : Addr) (ys : List Int), Same H H' → H p = none → H' p = some (.lst (ys.map V.int)) → (∀ z, z ∈ ys ↔ z ∈ come cs ns) → Q (.ref p) H'
def q_rings : Sp := fun vs H Q _ => ∃ (s : Addr) (ns : List (Nat × Int)) (cs : List (Int × Int)), vs = [.ref s] ∧ LS H s ns cs ∧ NOk ns ∧ DOk cs ∧ ∀ (H' : Hp) (p : Addr), Same H H' → H p = none → RL K H' p (rings cs (come cs ns) ((srt cs).map (·.1))) → Q (.ref p) H'
def q_crowd : Sp := fun vs H Q _ => ∃ (j l : Addr) (ls : List Nat), vs = [.ref j, .ref l, .int 9] ∧ JugAt H j ∧ H l = some (.lst (ls.map fun c => V.str (ch c))) ∧ l ≠ j ∧ 1 ≤ ls.length ∧ ls.length ≤ 4 ∧ (∀ c ∈ ls, 97 ≤ c ∧ c ≤ 122) ∧ ls.Pairwise (· < ·) ∧
  ∀ (H' : Hp) (s : Addr) (ns : List (Nat × Int)) (cs : List (Int × Int)), Chg j H H' → JugAt H' j → H s = none → LS H' s ns cs → NOk ns → DOk cs → Q (.ref s) H'
end
/-- a dict made of a tuple of ints, by an expression -/
theorem dcTF {K : PySem.W.Frag} {gs : List Int} {v : Nat} {l : Addr} {g : TG} {tk tv : TE} {vs : List Nat} {σ : L2.St} {H : Hp} {Q : VK} (F : Int → V) (nd : gs.Nodup) (hv : σ[v]? = some (some (.ref l))) (hl : SqT K H l (gs.map V.int)) (hz : gs.length ≤ 1000)
    (hs : ∀ (i : Int) H' (R : V → V → Hp → Prop), i ∈ gs → Same H H' → R (.int i) (F i) H' → g (.int i) (wipe σ vs) H' fun σ2 H2 => wipe σ2 vs = wipe σ vs ∧ tk σ2 H2 fun y H4 => tv σ2 H4 fun z H5 => R y z H5)
    (hd : ∀ H' D, Same H H' → H D = none → H' D = some (.dK (gs.map fun z => ((Sum.inl z : Key), F z))) → Q (.ref D) H') : tDc (iTup K (tVar v)) g tYes tk tv vs σ H Q := by
  refine ⟨_, hv, l, rfl, ⟨_, hl⟩, fun D hD => ?_⟩
  refine K1.dc_it (n := gs.length) (fun i H' => Same H H' ∧ H' D = some (.dK ((gs.take i).map fun z => ((Sum.inl z : Key), F z)))) ⟨same_new hD, upd_same⟩
    (fun i H' hi h => ⟨gs.map V.int, (gs.map V.int)[i]'(by simpa using hi), SqT.imm (.of h.1) hl, List.getElem?_eq_getElem _⟩) (fun H' h => ⟨gs.map V.int, SqT.imm (.of h.1) hl, by simp⟩) (fun i x H' H2 hi h y => ?_) (fun H' h => ?_)
  · obtain ⟨s2, hk⟩ := h
    obtain ⟨rfl, y⟩ := y
    obtain ⟨z, e4, rfl⟩ := map_at (y _ (SqT.imm (.of s2) hl))
    have zn : z ∉ gs.take i := fun hz => by
      have n2 : (gs.take (i + 1)).Nodup := nd.sublist (List.take_sublist _ _)
      rw [List.take_add_one, e4] at n2
      exact (List.nodup_append.mp n2).2.2 z hz z (by simp) rfl
    have ev : valV ((gs.take i).map fun z => ((Sum.inl z : Key), F z)) (Sum.inl z : Key) = none := by
      cases e : valV ((gs.take i).map fun z => ((Sum.inl z : Key), F z)) (Sum.inl z : Key) with
      | none => rfl
      | some q =>
        have hm := valV_in e
        rw [List.map_map] at hm
        obtain ⟨y, hy, ey⟩ := List.mem_map.mp hm
        cases Sum.inl.inj ey
        exact absurd hy zn
    refine hs z H2 (fun y z2 H5 => ∃ kvs k, y = kV k ∧ H5 D = some (.dK kvs) ∧ kvs.length < sizeLine ∧ (Same H (upd H5 D (.dK (putK kvs k z2))) ∧ upd H5 D (.dK (putK kvs k z2)) D = some (.dK ((gs.take (i + 1)).map fun z => ((Sum.inl z : Key), F z))))) (List.mem_of_getElem? e4) s2
      ⟨_, Sum.inl z, rfl, hk, ?_, fun c o e => ?_, ?_⟩
    · rw [List.length_map, List.length_take]
      exact small1000 (by omega)
    · rw [upd_ne (ne_of_none e hD)]
      exact s2 _ _ e
    · rw [upd_same, putK_new _ ev, List.take_add_one, e4, List.map_append]
      rfl
  · have := h.2
    rw [List.take_length] at this
    exact hd H' D h.1 hD this
theorem cut_from {xs : List V} {i : Nat} (h : i ≤ xs.length) : cutV xs (some (i : Int)) none = xs.drop i := by
  unfold cutV
  rw [HT.sIx_nat]
  show (xs.drop (min i xs.length)).take (xs.length - min i xs.length) = xs.drop i
  rw [Nat.min_eq_left h, List.take_of_length_le (by rw [List.length_drop]; exact Nat.le_refl _)]
theorem forT {K : PySem.W.Frag} {v : Nat} {l : Addr} {xs : List V} {g : TG} {tb : TS} {D : Ends} {σ : L2.St} {H : Hp} (Pv : Nat → L2.St → Hp → Prop) (hv : σ[v]? = some (some (.ref l))) (h0 : Pv 0 σ H) (hl : ∀ i σ H, i ≤ xs.length → Pv i σ H → SqT K H l xs)
    (hs : ∀ i x σ H, xs[i]? = some x → Pv i σ H → g x σ H fun σ2 H2 => tb { D with nx := Pv (i + 1), ct := Pv (i + 1), bk := D.nx } σ2 H2) (hd : ∀ σ H, Pv xs.length σ H → D.nx σ H) : tFor (iTup K (tVar v)) g tb D σ H :=
  ⟨_, hv, l, rfl, ⟨_, hl 0 _ _ (Nat.zero_le _) h0⟩, for_tup Pv h0 hl hs hd⟩
theorem rzip {α β : Type} {F : α → β → Prop} : ∀ {rs : List α} {R : List β}, Paired F rs R → ∃ L : List (α × β), L.map (·.1) = rs ∧ L.map (·.2) = R ∧ ∀ z ∈ L, F z.1 z.2
  | _, _, .nil => ⟨[], rfl, rfl, by simp⟩
  | _, _, .cons (a := x) (b := y) h t => by
    obtain ⟨L, a, b, c⟩ := rzip t
    exact ⟨(x, y) :: L, by rw [List.map_cons, a], by rw [List.map_cons, b], fun z hz => by
      rcases List.mem_cons.mp hz with rfl | hz
      · exact h
      · exact c z hz⟩
theorem unzip {α β : Type} {F : α → β → Prop} : ∀ {L : List (α × β)}, (∀ z ∈ L, F z.1 z.2) → Paired F (L.map (·.1)) (L.map (·.2))
  | [], _ => .nil
  | _ :: _, h => .cons (h _ List.mem_cons_self) (unzip fun z hz => h z (List.mem_cons_of_mem _ hz))
theorem by_tail1 {Z : Prop} (P T : Prop) (use : (P → T) → Z) (tail : P → T) : Z := use tail
theorem split_ix {w : List Int} {n : Nat} {z : Int} (h : w[n]? = some z) : n < w.length ∧ w.drop n = z :: w.drop (n + 1) ∧ w = w.take n ++ z :: w.drop (n + 1) := by
  obtain ⟨h1, h2⟩ := List.getElem?_eq_some_iff.mp h
  have e : w.drop n = z :: w.drop (n + 1) := by rw [List.drop_eq_getElem_cons h1, h2]
  exact ⟨h1, e, by rw [← e, List.take_append_drop]⟩
def putn (ns : List (Nat × Int)) (c : Nat) (v : Int) : List (Nat × Int) := ns.map fun p => if p.1 = c then (p.1, v) else p
theorem putK_old {ns : List (Nat × Int)} {c : Nat} {v : Int} (h : c ∈ ns.map (·.1)) : putK (kN ns) (Sum.inr (ch c) : Key) (.int v) = kN (putn ns c v) := by
  unfold putK putn
  have e : ((kN ns).any fun kv => decide (kv.1 = (Sum.inr (ch c) : Key))) = true := by
    unfold kN
    rw [List.any_map, List.any_eq_true]
    obtain ⟨p, hp, rfl⟩ := List.mem_map.mp h
    exact ⟨p, hp, by simp⟩
  rw [if_pos e]
  unfold kN
  rw [List.map_map, List.map_map]
  refine List.map_congr_left fun p hp => ?_
  show (if (Sum.inr (ch p.1) : Key) = Sum.inr (ch c) then ((Sum.inr (ch p.1) : Key), V.int v) else (Sum.inr (ch p.1), V.int p.2)) = ((fun p : Nat × Int => ((Sum.inr (ch p.1) : Key), V.int p.2)) (if p.1 = c then (p.1, v) else p))
  by_cases q : p.1 = c
  · rw [if_pos (by rw [q]), if_pos q]
  · rw [if_neg (fun w => q (ch_eq (Sum.inr.inj w))), if_neg q]
theorem putn_keys (ns : List (Nat × Int)) (c : Nat) (v : Int) : (putn ns c v).map (·.1) = ns.map (·.1) := by
  unfold putn
  rw [List.map_map]
  refine List.map_congr_left fun p hp => ?_
  show (if p.1 = c then (p.1, v) else p).1 = p.1
  split <;> rfl
theorem putn_ok {ns : List (Nat × Int)} {c : Nat} {v : Int} (ok : NOk ns) (h0 : 0 ≤ v) (h9 : v ≤ 999) : NOk (putn ns c v) := by
  have hl : (putn ns c v).length = ns.length := by unfold putn; rw [List.length_map]
  refine ⟨by rw [hl]; exact ok.one, by rw [hl]; exact ok.four, fun p hp => ?_, fun p hp => ?_, by rw [putn_keys]; exact ok.asc⟩
  · have : p.1 ∈ (putn ns c v).map (·.1) := List.mem_map_of_mem hp
    rw [putn_keys] at this
    obtain ⟨q, hq, e⟩ := List.mem_map.mp this
    rw [← e]
    exact ok.let_ q hq
  · obtain ⟨q, hq, e⟩ := List.mem_map.mp hp
    split at e
    · rw [← e]
      exact ⟨h0, h9⟩
    · rw [← e]
      exact ok.pl q hq
theorem nx_of {cs : List (Int × Int)} {p : Int × Int} (n : (cs.map (·.1)).Nodup) (hp : p ∈ cs) : nx cs p.1 = p.2 := val_of n hp
end K9
/-! A comprehension over a list of ints, with a test. -/
namespace K1
open PySem PySem.Spec L2 Z
theorem lcI {K : PySem.W.Frag} {gs : List Int} {i : Nat} {te0 : TE} {tt : TT} {σ : L2.St} {H : Hp} {Q : VK} (c : Int → Bool) (hte : ∀ R : VK, (∀ l H1, Same H H1 → H1 l = some (.lst (gs.map V.int)) → R (.ref l) H1) → te0 σ H R) (hz : gs.length ≤ 1000)
    (hi : i < σ.length) (ht : ∀ z H' (R : Bool → Hp → Prop), Same H H' → R (c z) H' → tt ((σ.set i none).set i (some (.int z))) H' R)
    (hd : ∀ H' D, Same H H' → H D = none → H' D = some (.lst ((gs.filter c).map V.int)) → Q (.ref D) H') : tLc (iList K te0) (gName i) tt (tVar i) [i] σ H Q := by
  refine hte _ fun l H1 s1 hl => ⟨l, rfl, ⟨_, .inl (.inl hl)⟩, fun D hD => ?_⟩
  have hD0 := none_of s1 hD
  refine lc_it (n := gs.length) (fun k H' => Same H1 H' ∧ H' D = some (.lst (((gs.take k).filter c).map V.int))) ⟨same_new hD, upd_same⟩
    (fun k H' hk h => ⟨gs.map V.int, (gs.map V.int)[k]'(by simpa using hk), .inl (.inl (h.1 _ _ hl)), List.getElem?_eq_getElem _⟩) (fun H' h => ⟨gs.map V.int, .inl (.inl (h.1 _ _ hl)), by simp⟩) (fun k x H' H2 hk h y => ?_) (fun H' h => ?_)
  · obtain ⟨sm, hDl⟩ := h
    obtain ⟨rfl, y⟩ := y
    obtain ⟨z, ez, rfl⟩ := map_at (y _ (.inl (.inl (sm _ _ hl))))
    refine ⟨?_, ht z H2 _ (s1.trans sm) ?_⟩
    · show ((σ.set i none).set i (some (V.int z))).set i none = σ.set i none
      rw [List.set_set, List.set_set]
    · cases hc : c z with
      | true =>
        refine iteT ⟨.int z, ?_, _, hDl, ?_, fun b o e => ?_, ?_⟩
        · rw [List.getElem?_set_self (by show i < (σ.set i none).length; rw [List.length_set]; exact hi)]
        · rw [List.length_map]
          refine small1000 ?_
          have := List.length_filter_le c (gs.take k)
          rw [List.length_take] at this
          omega
        · rw [upd_ne (ne_of_none e hD)]
          exact sm _ _ e
        · rw [upd_same, List.take_add_one, ez, List.filter_append, List.map_append]
          simp [hc]
      | false =>
        refine iteF ⟨sm, ?_⟩
        rw [hDl, List.take_add_one, ez, List.filter_append]
        simp [hc]
  · have := h.2
    rw [List.take_length] at this
    exact hd H' D (s1.trans h.1) hD0 this
def sp_law_common_right (K : PySem.W.Frag) (C : Addr) : Sp := fun vs H Q _ => ∃ (x : Addr) (v : V) (d : Addr) (ns : List (Nat × Int)) (cs : List (Int × Int)), vs = [.ref x, v, .ref d] ∧ St K C H x ns cs ∧ TP K H v (ns.map nV) ∧ H d = some (.dK (kC cs)) ∧ ∀ H', Same H H' → Q (.bl true) H'
theorem common_eq (cs : List (Int × Int)) (p q : Int) : common cs p q = ((along cs p).1.filter fun z => decide (z ∈ (along cs q).1)).head? := by
  unfold common
  rw [List.head?_filter]
theorem shape_ints (l : List Int) : SeqAt.shaped (.list (l.map PyData.int)) = true := by
  have e1 : PyData.canLayAll0 (l.map PyData.int) = true := shaped_all (dat := PyData.int) (fun a => by simp only [PyData.canLay0]) l
  have e2 : PyData.depthAll (l.map PyData.int) = 0 := by
    induction l with
    | nil => simp [PyData.depthAll]
    | cons a t ih => simp only [List.map_cons, PyData.depthAll, PyData.depth, ih (shaped_all (dat := PyData.int) (fun a => by simp only [PyData.canLay0]) t), Nat.max_self]
  unfold SeqAt.shaped
  rw [Bool.and_eq_true, decide_eq_true_eq]
  refine ⟨by simp only [PyData.canLay0, e1], ?_⟩
  simp only [PyData.depth, e2]
  decide
def cmD : Option Int → PyData
  | some z => .int z
  | none => .none
theorem dp_cm {K : PySem.W.Frag} {H : Hp} : ∀ o : Option Int, Dp K H (cmV o) (cmD o)
  | some z => .int z
  | none => .non
theorem common_range {cs : List (Int × Int)} (ck : COk cs) {p q : Int} (h : 0 ≤ p) (h2 : p ≤ 999) {z : Int} (e : common cs p q = some z) : 0 ≤ z ∧ z ≤ 999 :=
  (along_range ck h h2).2 z (List.mem_of_find?_eq_some e)
theorem fit_cm {cs : List (Int × Int)} (ck : COk cs) {p q : Int} (h : 0 ≤ p) (h2 : p ≤ 999) : ∀ d ∈ [cmD (common cs p q), cmD (common cs p q)], Fit d 5 0 := fun d hd => by
  have key : Fit (cmD (common cs p q)) 5 0 := by
    cases e : common cs p q with
    | none => exact fit_non
    | some z => exact fit_int (common_range ck h h2 e).1 (common_range ck h h2 e).2
  rcases List.mem_cons.mp hd with rfl | hd
  · exact key
  · rcases List.mem_cons.mp hd with rfl | hd
    · exact key
    · cases hd
/-- for over a tuple of pairs that a local holds -/
theorem forP {K : PySem.W.Frag} {v : Nat} {rs : List Addr} {ls : List (V × V)} {a : Addr} {g : TG} {tb : TS} {D : Ends} {σ : L2.St} {H H0 : Hp} (Pv : Nat → L2.St → Hp → Prop) (hv : σ[v]? = some (some (.ref a))) (h0 : Pv 0 σ H)
    (hT : PT H0 a (rs.map V.ref)) (hp : Paired (fun b (p : V × V) => SqT K H0 b [p.1, p.2]) rs ls) (hI : ∀ i σ H, Pv i σ H → Imm H0 H)
    (hs : ∀ i b p σ H, rs[i]? = some b → ls[i]? = some p → SqT K H b [p.1, p.2] → Pv i σ H → g (.ref b) σ H fun σ2 H2 => tb { D with nx := Pv (i + 1), ct := Pv (i + 1), bk := D.nx } σ2 H2) (hd : ∀ σ H, Pv ls.length σ H → D.nx σ H) : tFor (iTup K (tVar v)) g tb D σ H :=
  ⟨_, hv, a, rfl, ⟨_, (PT.imm (hI 0 _ _ h0) hT).sq⟩, for_pairs Pv h0 hT hp hI hs hd⟩
/-- for over a list that an expression makes -/
theorem forE {K : PySem.W.Frag} {te : TE} {g : TG} {tb : TS} {D : Ends} {σ : L2.St} {H : Hp} (Pre : Addr → Hp → Prop) (hte : ∀ R : VK, (∀ l H1, Pre l H1 → R (.ref l) H1) → te σ H R)
    (hb : ∀ l H1, Pre l H1 → ∃ (xs : List V) (Pv : Nat → L2.St → Hp → Prop), Pv 0 σ H1 ∧ (∀ i σ H, i ≤ xs.length → Pv i σ H → SqL K H l xs) ∧
      (∀ i x σ H, xs[i]? = some x → Pv i σ H → g x σ H fun σ2 H2 => tb { D with nx := Pv (i + 1), ct := Pv (i + 1), bk := D.nx } σ2 H2) ∧ (∀ σ H, Pv xs.length σ H → D.nx σ H)) : tFor (iList K te) g tb D σ H := by
  refine hte _ fun l H1 pre => ?_
  obtain ⟨xs, Pv, h0, hl, hs, hd⟩ := hb l H1 pre
  exact ⟨l, rfl, ⟨_, hl 0 _ _ (Nat.zero_le _) h0⟩, for_list Pv h0 hl hs hd⟩
end K1
/-! What the law compares. -/
namespace K9
open PySem PySem.Spec L2 Z K1 K6
theorem nx_srt {cs : List (Int × Int)} (n : (cs.map (·.1)).Nodup) (q : Int) : nx (srt cs) q = nx cs q := by
  by_cases h : isC cs q = true
  · obtain ⟨p, hp, rfl⟩ := List.mem_map.mp (isC_mem.mp h)
    rw [nx_of n hp, nx_of ((((srt_perm cs).map _).nodup_iff).mpr n) ((srt_perm cs).mem_iff.mpr hp)]
  · have e : ∀ ds : List (Int × Int), isC ds q ≠ true → nx ds q = 0 := fun ds h => by
      unfold nx
      cases e : ds.find? fun p => decide (p.1 = q) with
      | none => rfl
      | some p => exact absurd (isC_mem.mpr (by
          have h1 := List.mem_of_find?_eq_some e
          have h2 := List.find?_some e
          rw [← of_decide_eq_true h2]
          exact List.mem_map_of_mem h1)) h
    rw [e _ h, e _ (by rw [isC_srt]; exact h)]
theorem steps_srt {cs : List (Int × Int)} (n : (cs.map (·.1)).Nodup) : ∀ (k : Nat) (a : List Int) (p : Int), steps (srt cs) k a p = steps cs k a p
  | 0, _, _ => rfl
  | k + 1, a, p => by
    unfold steps
    rw [isC_srt, nx_srt n, steps_srt n k]
theorem along_srt {cs : List (Int × Int)} (n : (cs.map (·.1)).Nodup) (p : Int) : along (srt cs) p = along cs p := by
  unfold along
  rw [steps_srt n, (srt_perm cs).length_eq]
theorem come_srt {cs : List (Int × Int)} {ns : List (Nat × Int)} (n : (cs.map (·.1)).Nodup) (z : Int) : z ∈ come (srt cs) ns ↔ z ∈ come cs ns := by
  rw [mem_come, mem_come]
  simp only [along_srt n]
theorem rings_srt {cs : List (Int × Int)} {ns : List (Nat × Int)} (n : (cs.map (·.1)).Nodup) (ks : List Int) : rings (srt cs) (come (srt cs) ns) ks = rings cs (come cs ns) ks := by
  unfold rings
  have e : ∀ m, ringB (srt cs) (come (srt cs) ns) m = ringB cs (come cs ns) m := fun m => by
    unfold ringB
    rw [along_srt n, decide_eq_decide.mpr (come_srt n m)]
  rw [funext e]
  exact List.map_congr_left fun m _ => by rw [along_srt n]
theorem cnt_srt (cs : List (Int × Int)) (i : Int) : cnt (srt cs) i = (cs.map (·.2)).count i := ((srt_perm cs).map _).count_eq i
theorem shF {K : PySem.W.Frag} {H : Hp} {v : V} {d : PyData} (hd : Dp K H v d) {n m : Nat} (F : Fit d n m) (hn : n ≤ 100000 := by decide) (hm : m ≤ 50 := by decide) : Sh K H v d ∧ d.showable = true ∧ d.depth ≤ 60 ∧ d.shown.length ≤ sizeLine :=
  ⟨.of hd F.nod, F.ok, Nat.le_trans F.dep (by omega), sl_le (Nat.le_trans F.len hn)⟩
/-- how a list of rings is shown -/
def rD (L : List (List Int)) : PyData := .tuple (L.map fun l => .tuple (l.map PyData.int))
theorem dp_r {K : PySem.W.Frag} {H : Hp} {t : Addr} {L : List (List Int)} (h : RT K H t L) : Dp K H (.ref t) (rD L) := by
  obtain ⟨rs, a, b⟩ := h
  refine .tup a.sq ?_
  clear a
  induction b with
  | nil => exact .nil
  | cons h t ih => exact .cons (.tup h (dp_ints _)) ih
theorem fit_r {L : List (List Int)} (hl : L.length ≤ 20) (h : ∀ l ∈ L, l.length ≤ 20 ∧ ∀ i ∈ l, 0 ≤ i ∧ i ≤ 999) : Fit (rD L) 4000 2 := by
  have F := fit_tup (k := 145) (m := 1) (ds := L.map fun l => PyData.tuple (l.map PyData.int)) fun d hd => by
    obtain ⟨l, hl, rfl⟩ := List.mem_map.mp hd
    have G := fit_tup (fit_ints (h l hl).2)
    rw [List.length_map] at G
    exact fit_le G (by have := (h l hl).1; omega) (by decide)
  rw [List.length_map] at F
  exact fit_le F (by omega) (by decide)
theorem rings_fit {cs : List (Int × Int)} (dk : DOk cs) (C : List Int) (ks : List Int) (hk : ks.length ≤ 11) : Fit (rD (rings cs C ks)) 4000 2 := by
  refine fit_r ?_ fun l hl => ?_
  · unfold rings
    rw [List.length_map]
    have := List.length_filter_le (ringB cs C) ks
    omega
  · obtain ⟨m, _, rfl⟩ := List.mem_map.mp hl
    have a := along_stop cs m
    have := seen_len a.2.1 a.2.2
    have := dk.few
    refine ⟨by omega, fun i hi => ?_⟩
    obtain ⟨p, hp, rfl⟩ := List.mem_map.mp (isC_mem.mp (a.2.2 i hi))
    obtain ⟨a, b, _, _⟩ := dk.pl p hp
    exact ⟨by omega, b⟩
theorem PT.ints_fit {l : List Int} (hl : l.length ≤ 100) (h : ∀ i ∈ l, 0 ≤ i ∧ i ≤ 999) : Fit (.tuple (l.map PyData.int)) 4000 2 := by
  have F := fit_tup (fit_ints h)
  rw [List.length_map] at F
  exact fit_le F (by omega) (by decide)
theorem two_list {K : PySem.W.Frag} {H : Hp} {a : Addr} {u v : V} {d : PyData} (h : H a = some (.lst [u, v])) (hu : Dp K H u d) (hv : Dp K H v d) : Dp K H (.ref a) (.list [d, d]) := .lst (.inl (.inl h)) (.cons hu (.cons hv .nil))
theorem two_fit {d : PyData} (h : Fit d 4000 2) : Fit (.list [d, d]) 9000 3 := fit_le (fit_list (k := 4000) (m := 2) fun x hx => by
  simp only [List.mem_cons, List.not_mem_nil, or_false] at hx
  rcases hx with rfl | rfl <;> exact h) (by show (4000 + 2) * 2 + 3 ≤ 9000; decide) (by decide)
end K9
namespace K1
open PySem PySem.Spec L2 Z K6 K9
section
variable {P : Program} {w : World} {K : PySem.W.Frag} {mg : Str → Option Value} {base : Heap} {C : Addr}
theorem ok_law_take (T : Txt K mg C)  : Pr P w K mg base "_law_take" s_law_take 1 ["_law_urn_here", "_law_size"] q_take := by
  obtain ⟨f, fd, F, gl, bd⟩ := T.d__law_take
  refine ⟨f, fd, F, gl, bd, F.ok sc_law_take (fun vs H Q E h => ?_) (fun cdv A outer s H vs Q E hr h => ?_)⟩
  · obtain ⟨j, m, rfl, _⟩ := h
    rfl
  · obtain ⟨j, m, rfl, ⟨g, s0, c, hj, b1, b2⟩, m1, m2, k⟩ := h
    have hu := hu_of hr
    refine ⟨_, (pss_cons (ps_if (pt_cmpR op_gt (pe_ix ix_list (pv 0) pe_int (fun _ _ => rfl)) pe_int (nomark _)) (pss_cons (ps_asg (pe_callB call_divmod (by rfl) T.b_divmod (by decide +kernel) (pa_cons (pe_ix ix_list (pv 0) pe_int (fun _ _ => rfl)) (pa_cons (pv 1) pa_nil))) (pg_tup rfl (pgs_cons (pg_sub (pv 0) pe_int set_list) (pgs_cons (pg_name (i := 2) sc_law_take.nd rfl (Or.inl rfl)) pgs_nil))))
      (pss_one (ps_ret (pv 2)))) pss_nil)
      (pss_cons (ps_asg (pe_op op_add (pe_ix ix_list (pv 0) pe_int (fun _ _ => rfl)) pe_int) (pg_sub (pv 0) pe_int set_list))
      (pss_cons (ps_set (i := 3) sc_law_take.nd rfl (Or.inl rfl) (pe_op op_add (pe_op op_modN (pe_callTy call_int1 (by rfl) T.b_int (by decide +kernel) (pa_cons (pe_ix ix_list (pv 0) pe_int (fun _ _ => rfl)) pa_nil)) pe_int) pe_int))
      (pss_cons (ps_asg (pe_op op_modN (pe_callTy call_int1 (by rfl) T.b_int (by decide +kernel) (pa_cons (pe_op op_add (pe_op op_add (pe_op op_mul (pe_ix ix_list (pv 0) pe_int (fun _ _ => rfl)) (pv 3)) (pe_op op_mul pe_int (pe_ix ix_list (pv 0) pe_int (fun _ _ => rfl)))) pe_int) pa_nil)) pe_int) (pg_sub (pv 0) pe_int set_list))
      (pss_one (ps_ret (pe_op op_modN (pe_callTy call_int1 (by rfl) T.b_int (by decide +kernel) (pa_cons (pe_op op_fdivN (pe_ix ix_list (pv 0) pe_int (fun _ _ => rfl)) pe_int) pa_nil)) (pv 1)))))))), ?_⟩
    refine ⟨_, rfl, j, _, 0, _, rfl, rfl, .inl (.inl hj), at_first, _, _, rfl, rfl, _, rfl, ?_⟩
    by_cases hg : 0 < g
    · rw [decide_eq_true hg]
      refine iteT ⟨_, rfl, j, _, 0, _, rfl, rfl, .inl (.inl hj), at_first, _, rfl, _, _, rfl, ⟨by omega, by omega⟩, fun t ht => ?_⟩
      have nt : j ≠ t := ne_of_none hj ht
      refine ⟨t, _, rfl, .inl (.inl upd_same), rfl, _, _, rfl, _, rfl, j, _, 0, 0, rfl, rfl, by rw [upd_ne nt]; exact hj, rfl, _, _, rfl, rfl, _, rfl, ?_⟩
      exact k _ (g % m) ((Chg.of (same_new ht)).trans Chg.upd) ⟨g / m, s0, c, upd_same, b1, b2⟩ (Int.emod_nonneg _ (by omega)) (Int.emod_lt_of_pos _ (by omega))
    · rw [decide_eq_false hg]
      refine iteF ⟨_, rfl, j, _, 2, _, rfl, rfl, .inl (.inl hj), at_third, _, _, rfl, rfl, _, rfl, j, _, 2, 2, rfl, rfl, hj, rfl, ?_⟩
      have j1 : upd H j (.lst ([V.int g, V.int s0, V.int c].set 2 (V.int (c + 1)))) j = some (.lst [V.int g, V.int s0, V.int (c + 1)]) := upd_same
      have c1 : Chg j H (upd H j (.lst ([V.int g, V.int s0, V.int c].set 2 (V.int (c + 1))))) := Chg.upd
      generalize upd H j (.lst ([V.int g, V.int s0, V.int c].set 2 (V.int (c + 1)))) = H1 at j1 c1 ⊢
      refine ⟨_, rfl, j, _, 1, _, rfl, rfl, .inl (.inl j1), at_snd, .inl ⟨_, rfl, _, _, rfl, rfl, by show (20011 : Int) ≠ 0; decide, _, _, rfl, rfl, ?_⟩⟩
      have hs := fm_range (i := s0) (m := 20011) (by decide)
      refine ⟨_, rfl, j, _, 1, _, rfl, rfl, .inl (.inl j1), at_snd, _, rfl, _, _, rfl, rfl, .inr ⟨by omega, by omega⟩, ?_⟩
      refine ⟨_, rfl, j, _, 2, _, rfl, rfl, .inl (.inl j1), at_third, _, _, rfl, rfl, .inl ⟨by decide, by decide⟩, _, _, rfl, rfl, _, _, rfl, rfl, .inl ⟨_, rfl, _, _, rfl, rfl, by show (2147483587 : Int) ≠ 0; decide, _, rfl, j, _, 1, 1, rfl, rfl, j1, rfl, ?_⟩⟩
      generalize hv : s0 * (s0.fmod 20011 + 30011) + 70001 * (c + 1) + 7 = v
      have hr := fm_range (i := v) (m := 2147483587) (by decide)
      refine ⟨_, rfl, j, _, 1, _, rfl, rfl, .inl (.inl upd_same), at_snd, _, _, rfl, rfl, ⟨by decide, by decide⟩, .inl ⟨_, rfl, _, rfl, _, _, rfl, rfl, by show m ≠ 0; omega, ?_⟩⟩
      have fr := fm_range (i := (v.fmod 2147483587).fdiv 89) (m := m) (by omega)
      exact k _ _ (c1.trans Chg.upd) ⟨_, _, _, upd_same, Int.lt_of_lt_of_le (by decide) hr.1, Int.lt_trans hr.2 (by decide)⟩ fr.1 fr.2
end
end K1
namespace K1
open PySem PySem.Spec L2 Z K6 K9
section
variable {P : Program} {w : World} {K : PySem.W.Frag} {mg : Str → Option Value} {base : Heap} {C : Addr}
theorem ok_law_of (T : Txt K mg C) (G__law_take : Pr P w K mg base "_law_take" s_law_take 1 ["_law_urn_here", "_law_size"] q_take) : Pr P w K mg base "_law_of" s_law_of 2 ["_law_urn_here", "_law_some"] (sp_law_one_of K) := by
  obtain ⟨f, fd, F, gl, bd⟩ := T.d__law_of
  refine ⟨f, fd, F, gl, bd, F.ok sc_law_of (fun vs H Q E h => ?_) (fun cdv A outer s H vs Q E hr h => ?_)⟩
  · obtain ⟨j, l, xs, rfl, _⟩ := h
    rfl
  · obtain ⟨j, l, xs, rfl, hj, hne, hl, hx, hm, k⟩ := h
    have hu := hu_of hr
    refine ⟨_, (pss_one (ps_ret (pe_ix ix_list (pv 1) (pcall G__law_take (hr.mono (by decide)) (pa_cons (pv 0) (pa_cons (pe_callB call_len_seq (by rfl) T.b_len (by decide +kernel) (pa_cons (pv 1) pa_nil)) pa_nil))) (fun _ _ => rfl)))), ?_⟩
    have hp := List.length_pos_iff.mpr hx
    refine ⟨_, rfl, _, rfl, _, rfl, l, xs, rfl, .inl hl, j, (xs.length : Int), rfl, hj, by omega, by omega, fun H' i cg hj' i0 im => ?_⟩
    obtain ⟨y, hy, hat⟩ := at_of (xs := xs) i0 im
    exact ⟨l, xs, i, y, rfl, rfl, SqL.chg cg hne hl, hat, k H' y cg hj' hy⟩
end
end K1
namespace K1
open PySem PySem.Spec L2 Z K6 K9
section
variable {P : Program} {w : World} {K : PySem.W.Frag} {mg : Str → Option Value} {base : Heap} {C : Addr}
theorem ok_law_places (T : Txt K mg C) (G__law_of : Pr P w K mg base "_law_of" s_law_of 2 ["_law_urn_here", "_law_some"] (sp_law_one_of K)) (G__law_take : Pr P w K mg base "_law_take" s_law_take 1 ["_law_urn_here", "_law_size"] q_take) : Pr P w K mg base "_law_places" s_law_places 3 ["_law_urn_here", "_law_many"] q_places := by
  obtain ⟨f, fd, F, gl, bd⟩ := T.d__law_places
  refine ⟨f, fd, F, gl, bd, F.ok sc_law_places (fun vs H Q E h => ?_) (fun cdv A outer s H vs Q E hr h => ?_)⟩
  · obtain ⟨j, m, rfl, _⟩ := h
    rfl
  · obtain ⟨j, m, rfl, hj, m1, m2, k⟩ := h
    have hu := hu_of hr
    refine ⟨_, (pss_cons (ps_par (i := 2) (j := 3) rfl sc_law_places.nd rfl rfl (by decide) rfl rfl (pa_cons (pe_callB (call_max2 rfl) (by rfl) T.b_max (by decide +kernel) (pa_cons (pv 1) (pa_cons (pcall G__law_of (hr.mono (by decide)) (pa_cons (pv 0) (pa_cons (pe_lst (pa_cons pe_int (pa_cons pe_int (pa_cons pe_int (pa_cons pe_int pa_nil))))) pa_nil))) pa_nil))) (pa_cons (pe_lst pa_nil) pa_nil)) (by rfl))
      (pss_cons (ps_for PassesOwn.never rfl (pi_range1 rfl T.b_range (pa_cons (pv 1) pa_nil)) (pg_name (i := 4) sc_law_places.nd rfl (Or.inl rfl))
      (pss_cons (ps_set (i := 5) sc_law_places.nd rfl (Or.inl rfl) (pe_op op_add pe_int (pcall G__law_take (hr.mono (by decide)) (pa_cons (pv 0) (pa_cons (pv 2) pa_nil)))))
      (pss_cons (ps_for PassesOwn.never rfl (pi_range1 rfl T.b_range (pa_cons (pv 1) pa_nil)) (pg_name (i := 6) sc_law_places.nd rfl (Or.inl rfl))
      (pss_one (ps_set (i := 5) sc_law_places.nd rfl (Or.inl rfl) (pe_ifExp (pt_cmpR op_in_seq (pv 5) (pv 3) (by rfl)) (pe_op op_add (pe_op op_modN (pe_callTy call_int1 (by rfl) T.b_int (by decide +kernel) (pa_cons (pv 5) pa_nil)) (pv 2)) pe_int) (pv 5)))))
      (pss_one (ps_expr (pe_bm PySem.F.plainAttrs_list PySem.F.slot_list_append PySem.F.type_list_append mt_append (pv 3) (pa_cons (pv 5) pa_nil)))))))
      (pss_one (ps_ret (pv 3))))), ?_⟩
    refine ⟨_, rfl, _, rfl, sl_le (show 4 ≤ 100000 by decide), fun l4 h4 => ⟨j, l4, _, rfl, hj.same (same_new h4), hj.ne h4, .inl (.inl upd_same), List.cons_ne_nil _ _, by show 4 < 1000000; decide, fun H1 x c1 j1 hx => ?_⟩⟩
    obtain ⟨w0, rfl, w1, w2⟩ : ∃ w0 : Int, x = .int w0 ∧ 9 ≤ w0 ∧ w0 ≤ 999 := by
      simp only [List.mem_cons, List.not_mem_nil, or_false] at hx
      rcases hx with rfl | rfl | rfl | rfl
      · exact ⟨_, rfl, by decide, by decide⟩
      · exact ⟨_, rfl, by decide, by decide⟩
      · exact ⟨_, rfl, by decide, by decide⟩
      · exact ⟨_, rfl, by decide, by decide⟩
    refine ⟨_, _, rfl, ?_⟩
    obtain ⟨W, hW, W1, W2⟩ : ∃ W : Int, W = (if w0 > m then w0 else m) ∧ 9 ≤ W ∧ W ≤ 999 := ⟨_, rfl, by split <;> omega, by split <;> omega⟩
    dsimp only
    rw [← hW]
    clear hW
    refine ⟨Nat.zero_le _, fun p hp => ⟨_, _, rfl, ?_⟩⟩
    have c01 : Chg j H H1 := (Chg.of (same_new h4)).trans c1
    have hp0 := none_chg c01 j1 hp
    have np : p ≠ j := j1.ne hp
    refine ⟨_, rfl, m, rfl, by omega, by omega, ?_⟩
    refine for_range (lo := 0) (n := m.toNat) (fun i σ H' => Chg j H H' ∧ JugAt H' j ∧ ∃ ps : List Int, ∃ x4 x5 x6, σ = [some (.ref j), some (.int m), some (.int W), some (.ref p), x4, x5, x6] ∧ H' p = some (.lst (ps.map V.int)) ∧ ps.length = i ∧ ∀ c ∈ ps, 1 ≤ c ∧ c ≤ 999)
      ⟨c01.trans (Chg.of (same_new hp)), jug_upd np j1, [], _, _, _, rfl, upd_same, rfl, fun c hc => by cases hc⟩ ?_ ?_
    · rintro i σ H2 hi ⟨c2, j2, ps, x4, x5, x6, rfl, hk, hl, hc⟩
      refine ⟨_, rfl, _, rfl, j, _, rfl, j2, by omega, by omega, fun H3 k0 c3 j3 k1 k2 => ⟨_, _, rfl, rfl, ?_⟩⟩
      have hk3 := c3 _ _ hk np
      refine ⟨_, rfl, m, rfl, by omega, by omega, ?_⟩
      refine for_range (lo := 0) (n := m.toNat) (fun _ σ H' => H' = H3 ∧ ∃ z : Int, ∃ x4 x6, σ = [some (.ref j), some (.int m), some (.int W), some (.ref p), x4, some (.int z), x6] ∧ 1 ≤ z ∧ z ≤ W) ⟨rfl, _, _, _, rfl, by omega, by omega⟩ ?_ ?_
      · rintro n σ H' hn ⟨rfl, z, x4, x6, rfl, z1, z2⟩
        refine ⟨_, rfl, _, rfl, p, _, rfl, .inl (.inl (.inl hk3)), rfl, flat_int _, _, congrArg V.bl (inV_int z _), ?_⟩
        by_cases hz : z ∈ ps
        · refine ifT (decide_eq_true hz) ⟨_, rfl, .inl ⟨_, rfl, _, rfl, _, _, rfl, rfl, by show W ≠ 0; omega, _, _, rfl, rfl, rfl, _, _, _, rfl, ?_⟩⟩
          have fr := fm_range (i := z) (m := W) (by omega)
          omega
        · exact ifF (decide_eq_false hz) ⟨_, rfl, rfl, _, _, _, rfl, z1, z2⟩
      rintro σ H' ⟨rfl, z, x4, x6, rfl, z1, z2⟩
      refine ⟨_, rfl, .inl ⟨rfl, _, .inl (.inl hk3)⟩, _, rfl, p, _, _, rfl, rfl, hk3, by rw [List.length_map]; exact Nat.lt_of_lt_of_le (show ps.length < 100 by omega) (sl_le (by decide)), ?_⟩
      refine ⟨chg_new (c2.trans c3) hp0, jug_upd np j3, ps ++ [z], _, _, _, rfl, by rw [upd_same, List.map_append]; rfl, by rw [List.length_append, hl]; rfl, fun c hm => ?_⟩
      rcases List.mem_append.mp hm with h | h
      · exact hc c h
      · rw [List.mem_singleton.mp h]
        omega
    rintro σ H2 ⟨c2, j2, ps, x4, x5, x6, rfl, hk, hl, hc⟩
    exact ⟨_, rfl, k _ p ps c2 j2 hp0 hk (by omega) hc⟩
end
end K1
namespace K1
open PySem PySem.Spec L2 Z K6 K9
section
variable {P : Program} {w : World} {K : PySem.W.Frag} {mg : Str → Option Value} {base : Heap} {C : Addr}
theorem ok_law_store (T : Txt K mg C) (G__law_places : Pr P w K mg base "_law_places" s_law_places 3 ["_law_urn_here", "_law_many"] q_places) (G__law_of : Pr P w K mg base "_law_of" s_law_of 2 ["_law_urn_here", "_law_some"] (sp_law_one_of K)) (G__law_take : Pr P w K mg base "_law_take" s_law_take 1 ["_law_urn_here", "_law_size"] q_take) : Pr P w K mg base "_law_store" s_law_store 4 ["_law_urn_here", "_law_letters_here", "_law_most"] q_store := by
  obtain ⟨f, fd, F, gl, bd⟩ := T.d__law_store
  refine ⟨f, fd, F, gl, bd, F.ok sc_law_store (fun vs H Q E h => ?_) (fun cdv A outer s H vs Q E hr h => ?_)⟩
  · obtain ⟨j, l, ls, rfl, _⟩ := h
    rfl
  · obtain ⟨j, l, ls, rfl, hj, hl, nl, l1, l4, lc, la, k⟩ := h
    have hu := hu_of hr
    refine ⟨_, (pss_cons (ps_set (i := 3) sc_law_store.nd rfl (Or.inl rfl) (pcall G__law_places (hr.mono (by decide)) (pa_cons (pv 0) (pa_cons (pe_op op_add pe_int (pcall G__law_take (hr.mono (by decide)) (pa_cons (pv 0) (pa_cons (pe_op op_add (pv 2) pe_int) pa_nil)))) pa_nil))))
      (pss_cons (ps_par (i := 4) (j := 5) rfl sc_law_store.nd rfl rfl (by decide) rfl rfl (pa_cons (pe_slice sl_list (pv 3) (po_some pe_int) po_none) (pa_cons (pe_slice sl_list (pv 3) po_none (po_some pe_int)) pa_nil)) (by rfl))
      (pss_cons (ps_set (i := 6) sc_law_store.nd rfl (Or.inl rfl) (pe_op op_cat (pe_op op_cat (pe_op op_cat (pe_op op_cat (pv 4) (pv 4)) (pv 4)) (pe_lst (pa_cons pe_int pa_nil))) (pe_slice sl_list (pv 5) po_none (po_some (pcall G__law_take (hr.mono (by decide)) (pa_cons (pv 0) (pa_cons pe_int pa_nil)))))))
      (pss_cons (ps_par (i := 7) (j := 8) rfl sc_law_store.nd rfl rfl (by decide) rfl rfl (pa_cons pe_dnewK (pa_cons pe_dnewK pa_nil)) (by rfl))
      (pss_cons (ps_for PassesOwn.never rfl (pi_list (pv 4)) (pg_name (i := 9) sc_law_store.nd rfl (Or.inl rfl))
      (pss_one (ps_dput hu (pv 8) (pv 9) (pcall G__law_of (hr.mono (by decide)) (pa_cons (pv 0) (pa_cons (pv 6) pa_nil))) rfl)))
      (pss_cons (ps_for PassesOwn.never rfl (pi_list (pv 1)) (pg_name (i := 10) sc_law_store.nd rfl (Or.inl rfl))
      (pss_one (ps_dput hu (pv 7) (pv 10) (pcall G__law_of (hr.mono (by decide)) (pa_cons (pv 0) (pa_cons (pe_op op_cat (pe_op op_cat (pv 4) (pv 4)) (pv 6)) pa_nil))) rfl)))
      (pss_one (ps_ret (pe_lst (pa_cons (pv 7) (pa_cons (pv 8) pa_nil))))))))))), ?_⟩
    refine ⟨_, rfl, _, rfl, _, rfl, _, _, rfl, rfl, j, _, rfl, hj, by decide, by decide, fun H1 k0 c1 j1 k1 k2 => ⟨_, _, rfl, rfl, ?_⟩⟩
    refine ⟨j, _, rfl, j1, by omega, by omega, fun H2 p ps c2 j2 hp hk hlen h9 => ?_⟩
    have np : p ≠ j := j1.ne hp
    have c02 := c1.trans c2
    have hl2 := c02 _ _ hl nl
    refine ⟨_, rfl, _, rfl, p, _, rfl, .inl (.inl hk), fun q1 hq1 => ?_⟩
    have s1 := same_new (o := .lst (cutV (ps.map V.int) (some 2) none)) hq1
    have e1 : upd H2 q1 (.lst (cutV (ps.map V.int) (some 2) none)) q1 = some (.lst (cutV (ps.map V.int) (some 2) none)) := upd_same
    generalize upd H2 q1 (.lst (cutV (ps.map V.int) (some 2) none)) = H3 at s1 e1 ⊢
    refine ⟨_, rfl, _, rfl, p, _, rfl, .inl (.inl (s1 _ _ hk)), fun q2 hq2 => ⟨_, _, rfl, ?_⟩⟩
    have s2 := same_new (o := .lst (cutV (ps.map V.int) none (some 2))) hq2
    have e2 : upd H3 q2 (.lst (cutV (ps.map V.int) none (some 2))) q2 = some (.lst (cutV (ps.map V.int) none (some 2))) := upd_same
    have e1' := s2 _ _ e1
    generalize upd H3 q2 (.lst (cutV (ps.map V.int) none (some 2))) = H4 at s2 e2 e1' ⊢
    have s24 := s1.trans s2
    obtain ⟨sp, hsp, spr, spl⟩ : ∃ sp : List Int, cutV (ps.map V.int) (some 2) none = sp.map V.int ∧ (∀ i ∈ sp, 1 ≤ i ∧ i ≤ 999) ∧ sp.length ≤ 11 := by
      obtain ⟨sp, e⟩ := ints_all (L := cutV (ps.map V.int) (some 2) none) fun x hx => by
        obtain ⟨z, _, e⟩ := List.mem_map.mp (cut_mem hx)
        exact ⟨z, e.symm⟩
      refine ⟨sp, e, fun i hi => ?_, ?_⟩
      · have h := cut_mem (e ▸ List.mem_map_of_mem hi : V.int i ∈ cutV (ps.map V.int) (some 2) none)
        obtain ⟨z, hz, ez⟩ := List.mem_map.mp h
        cases ez
        exact h9 _ hz
      · have h := cutV_length (ps.map V.int) (some 2) none
        rw [e, List.length_map, List.length_map] at h
        omega
    obtain ⟨fa, hfa, far_, fal⟩ : ∃ fa : List Int, cutV (ps.map V.int) none (some 2) = fa.map V.int ∧ (∀ i ∈ fa, 1 ≤ i ∧ i ≤ 999) ∧ fa.length ≤ 11 := by
      obtain ⟨sp, e⟩ := ints_all (L := cutV (ps.map V.int) none (some 2)) fun x hx => by
        obtain ⟨z, _, e⟩ := List.mem_map.mp (cut_mem hx)
        exact ⟨z, e.symm⟩
      refine ⟨sp, e, fun i hi => ?_, ?_⟩
      · have h := cut_mem (e ▸ List.mem_map_of_mem hi : V.int i ∈ cutV (ps.map V.int) none (some 2))
        obtain ⟨z, hz, ez⟩ := List.mem_map.mp h
        cases ez
        exact h9 _ hz
      · have h := cutV_length (ps.map V.int) none (some 2)
        rw [e, List.length_map, List.length_map] at h
        omega
    rw [hsp] at e1'
    rw [hfa] at e2
    have j4 := j2.same s24
    have nq1 : q1 ≠ j := j2.ne hq1
    have nq2 : q2 ≠ j := (j2.same s1).ne hq2
    have c4 : Chg j H H4 := c02.trans (.of s24)
    have l4' := s24 _ _ hl2
    clear hsp hfa e1 s1 s2 s24 hk hl2 c02 c1 c2
    refine ⟨_, rfl, _, rfl, q1, q1, _, _, rfl, rfl, e1', e1', sl_le (by rw [List.length_map]; omega), fun a1 h1 => ?_⟩
    have s5 := same_new (o := .lst (sp.map V.int ++ sp.map V.int)) h1
    have f1 : upd H4 a1 (.lst (sp.map V.int ++ sp.map V.int)) a1 = some (.lst (sp.map V.int ++ sp.map V.int)) := upd_same
    generalize upd H4 a1 (.lst (sp.map V.int ++ sp.map V.int)) = H5 at s5 f1 ⊢
    refine ⟨_, rfl, a1, q1, _, _, rfl, rfl, f1, s5 _ _ e1', sl_le (by rw [List.length_append, List.length_map]; omega), fun a2 h2 => ?_⟩
    have s6 := same_new (o := .lst (sp.map V.int ++ sp.map V.int ++ sp.map V.int)) h2
    have f2 : upd H5 a2 (.lst (sp.map V.int ++ sp.map V.int ++ sp.map V.int)) a2 = some (.lst (sp.map V.int ++ sp.map V.int ++ sp.map V.int)) := upd_same
    generalize upd H5 a2 (.lst (sp.map V.int ++ sp.map V.int ++ sp.map V.int)) = H6 at s6 f2 ⊢
    refine ⟨sl_le (show 1 ≤ 100000 by decide), fun a3 h3 => ?_⟩
    have s7 := same_new (o := .lst [V.int 0]) h3
    have f3 : upd H6 a3 (.lst [V.int 0]) a3 = some (.lst [V.int 0]) := upd_same
    generalize upd H6 a3 (.lst [V.int 0]) = H7 at s7 f3 ⊢
    refine ⟨a2, a3, _, _, rfl, rfl, s7 _ _ f2, f3, sl_le (by rw [List.length_append, List.length_append, List.length_map]; show _ + 1 ≤ _; omega), fun a4 h4 => ?_⟩
    obtain ⟨g0, hg0⟩ : ∃ g0, g0 = sp ++ sp ++ sp ++ [0] := ⟨_, rfl⟩
    have eg0 : sp.map V.int ++ sp.map V.int ++ sp.map V.int ++ [V.int 0] = g0.map V.int := by rw [hg0]; simp
    rw [eg0] at *
    have s8 := same_new (o := .lst (g0.map V.int)) h4
    have f4 : upd H7 a4 (.lst (g0.map V.int)) a4 = some (.lst (g0.map V.int)) := upd_same
    generalize upd H7 a4 (.lst (g0.map V.int)) = H8 at s8 f4 ⊢
    have s48 : Same H4 H8 := s5.trans (s6.trans (s7.trans s8))
    have na4 : a4 ≠ j := (j4.same (s5.trans (s6.trans s7))).ne h4
    have j8 := j4.same s48
    refine ⟨_, rfl, _, rfl, j, _, rfl, j8, by decide, by decide, fun H9 t c9 j9 t0 t1 => ⟨_, rfl, q2, _, rfl, .inl (.inl (c9 _ _ (s48 _ _ e2) nq2)), fun a5 h5 => ?_⟩⟩
    obtain ⟨fb, hfb, fbr, fbl⟩ : ∃ fb : List Int, cutV (fa.map V.int) none (some t) = fb.map V.int ∧ (∀ i ∈ fb, 1 ≤ i ∧ i ≤ 999) ∧ fb.length ≤ 11 := by
      obtain ⟨sp, e⟩ := ints_all (L := cutV (fa.map V.int) none (some t)) fun x hx => by
        obtain ⟨z, _, e⟩ := List.mem_map.mp (cut_mem hx)
        exact ⟨z, e.symm⟩
      refine ⟨sp, e, fun i hi => ?_, ?_⟩
      · have h := cut_mem (e ▸ List.mem_map_of_mem hi : V.int i ∈ cutV (fa.map V.int) none (some t))
        obtain ⟨z, hz, ez⟩ := List.mem_map.mp h
        cases ez
        exact far_ _ hz
      · have h := cutV_length (fa.map V.int) none (some t)
        rw [e, List.length_map, List.length_map] at h
        omega
    rw [hfb]
    have s10 := same_new (o := .lst (fb.map V.int)) h5
    have f5 : upd H9 a5 (.lst (fb.map V.int)) a5 = some (.lst (fb.map V.int)) := upd_same
    generalize upd H9 a5 (.lst (fb.map V.int)) = H10 at s10 f5 ⊢
    have g0l : g0.length ≤ 34 := by rw [hg0]; simp; omega
    refine ⟨a4, a5, _, _, rfl, rfl, s10 _ _ (c9 _ _ f4 na4), f5, sl_le (by rw [List.length_map, List.length_map]; omega), fun g hg => ?_⟩
    rw [← List.map_append]
    obtain ⟨gs, hgs⟩ : ∃ gs, gs = g0 ++ fb := ⟨_, rfl⟩
    have gne : gs ≠ [] := by rw [hgs, hg0]; simp
    have gl : gs.length ≤ 50 := by rw [hgs, List.length_append]; omega
    have gr : ∀ i ∈ gs, 0 ≤ i ∧ i ≤ 999 := fun i hi => by
      rw [hgs, hg0] at hi
      simp only [List.mem_append, List.mem_singleton] at hi
      rcases hi with (((hi | hi) | hi) | hi) | hi
      · have := spr i hi
        omega
      · have := spr i hi
        omega
      · have := spr i hi
        omega
      · omega
      · have := fbr i hi
        omega
    rw [← hgs]
    have s11 := same_new (o := .lst (gs.map V.int)) hg
    have fg : upd H10 g (.lst (gs.map V.int)) g = some (.lst (gs.map V.int)) := upd_same
    have ng : g ≠ j := (j9.same s10).ne hg
    generalize upd H10 g (.lst (gs.map V.int)) = H11 at s11 fg ⊢
    have c411 : Chg j H4 H11 := ((Chg.of s48).trans c9).trans (.of (s10.trans s11))
    have c11 : Chg j H H11 := c4.trans c411
    have j11 := j9.same (s10.trans s11)
    have eq1 := c411 _ _ e1' nq1
    have el := c411 _ _ l4' nl
    clear c411 s48 s10 s11 s5 s6 s7 s8 f1 f2 f3 f4 f5 c9 e1' e2 l4' j4 j8 j9 eg0 hgs hg0 hfb c4
    intro dn hdn dc hdc
    have s12 := same_new (o := .dK []) hdn
    have en : upd H11 dn (.dK []) dn = some (.dK (kN [])) := upd_same
    have ndn := j11.ne hdn
    have hdn0 := none_chg c11 j11 hdn
    generalize upd H11 dn (.dK []) = H12 at s12 en hdc ⊢
    have s13 := same_new (o := .dK []) hdc
    have ec : upd H12 dc (.dK []) dc = some (.dK (kC [])) := upd_same
    have ndc := (j11.same s12).ne hdc
    have hdc0 := none_chg (c11.trans (.of s12)) (j11.same s12) hdc
    have ncn : dn ≠ dc := ne_of_none en hdc
    generalize upd H12 dc (.dK []) = H13 at s13 ec ⊢
    have s113 := s12.trans s13
    refine ⟨_, _, rfl, _, rfl, q1, rfl, ⟨_, .inl (.inl (s113 _ _ eq1))⟩, ?_⟩
    refine for_list (xs := sp.map V.int) (fun i σ H' => Chg j H H' ∧ JugAt H' j ∧ H' q1 = some (.lst (sp.map V.int)) ∧ H' g = some (.lst (gs.map V.int)) ∧ H' l = some (.lst (ls.map fun c => V.str (ch c))) ∧ H' dn = some (.dK (kN [])) ∧ ∃ (cs : List (Int × Int)) (x9 x10 : Option V),
      σ = [some (.ref j), some (.ref l), some (.int 9), some (.ref p), some (.ref q1), some (.ref q2), some (.ref g), some (.ref dn), some (.ref dc), x9, x10] ∧ H' dc = some (.dK (kC cs)) ∧ (cs.map (·.1)).Nodup ∧ cs.length ≤ i ∧ ∀ p ∈ cs, 1 ≤ p.1 ∧ p.1 ≤ 999 ∧ 0 ≤ p.2 ∧ p.2 ≤ 999)
      ⟨c11.trans (.of s113), j11.same s113, s113 _ _ eq1, s113 _ _ fg, s113 _ _ el, s13 _ _ en, [], _, _, rfl, ec, List.nodup_nil, Nat.le_refl _, fun _ h => nomatch h⟩ (fun i σ H' _ h => .inl (.inl h.2.2.1)) ?_ ?_
    · rintro i x σ H14 hx ⟨c14, j14, eq, eg, el, en, cs, x9, x10, rfl, ec, nd, cl, cr⟩
      obtain ⟨z, ez, rfl⟩ := map_at hx
      have zr := spr z (List.mem_of_getElem? ez)
      have i9 : i < 11 := by
        have := (List.getElem?_eq_some_iff.mp ez).1
        omega
      refine ⟨_, rfl, _, rfl, j, g, _, rfl, j14, ng, .inl (.inl eg), by simpa using gne, by rw [List.length_map]; omega, fun H15 x c15 j15 hx => ?_⟩
      obtain ⟨v, rfl, hv⟩ := ints_mem hx
      have vr := gr v hv
      refine ⟨_, rfl, _, rfl, dc, _, rfl, DPut.k (k := (Sum.inl z : Key)) (c15 _ _ ec ndc) ?_, ?_⟩
      · rw [kC_len]
        exact Nat.lt_of_lt_of_le (show _ < 100 by omega) (sl_le (by decide))
      rw [putK_kC]
      have fre : ∀ {b : Addr} {o : HO}, H15 b = some o → b ≠ dc → upd H15 dc (.dK (kC (putc cs z v))) b = some o := fun e n => by
        rw [upd_ne n]
        exact e
      have nl_ : ∀ {b : Addr} {L : List V}, H15 b = some (.lst L) → b ≠ dc := fun e z => by
        have := c15 _ _ ec ndc
        rw [← z, e] at this
        cases this
      refine ⟨chg_new (c14.trans c15) hdc0, jug_upd ndc j15, ?_, ?_, ?_, fre (c15 _ _ en ndn) ncn, putc cs z v, _, _, rfl, upd_same, putc_nd z v nd, ?_, fun p hp => ?_⟩
      · exact fre (c15 _ _ eq nq1) (nl_ (c15 _ _ eq nq1))
      · exact fre (c15 _ _ eg ng) (nl_ (c15 _ _ eg ng))
      · exact fre (c15 _ _ el nl) (nl_ (c15 _ _ el nl))
      · have := putc_len cs z v
        omega
      · rcases putc_mem hp with h | rfl
        · exact cr p h
        · exact ⟨zr.1, zr.2, vr.1, vr.2⟩
    rintro σ H14 ⟨c14, j14, eq, eg, el, en, cs, x9, x10, rfl, ec, nd, cl, cr⟩
    rw [List.length_map] at cl
    refine ⟨_, rfl, l, rfl, ⟨_, .inl (.inl el)⟩, ?_⟩
    refine for_list (xs := ls.map fun c => V.str (ch c)) (fun i σ H' => Chg j H H' ∧ JugAt H' j ∧ H' q1 = some (.lst (sp.map V.int)) ∧ H' g = some (.lst (gs.map V.int)) ∧ H' l = some (.lst (ls.map fun c => V.str (ch c))) ∧ H' dc = some (.dK (kC cs)) ∧ ∃ (ns : List (Nat × Int)) (x9 x10 : Option V),
      σ = [some (.ref j), some (.ref l), some (.int 9), some (.ref p), some (.ref q1), some (.ref q2), some (.ref g), some (.ref dn), some (.ref dc), x9, x10] ∧ H' dn = some (.dK (kN ns)) ∧ ns.map (·.1) = ls.take i ∧ ∀ p ∈ ns, 0 ≤ p.2 ∧ p.2 ≤ 999)
      ⟨c14, j14, eq, eg, el, ec, [], _, _, rfl, en, rfl, fun _ h => nomatch h⟩ (fun i σ H' _ h => .inl (.inl h.2.2.2.2.1)) ?_ ?_
    · rintro i x σ H15 hx ⟨c15, j15, eq, eg, el, ec, ns, x9, x10, rfl, en, hf, nr⟩
      obtain ⟨z, ez, rfl⟩ := map_at hx
      have zn : z ∉ ns.map (·.1) := fun h => by
        rw [hf] at h
        have nd : (ls.take (i + 1)).Nodup := (la.imp fun h => Nat.ne_of_lt h).sublist (List.take_sublist _ _)
        rw [List.take_add_one, ez] at nd
        exact (List.nodup_append.mp nd).2.2 z h z (by simp) rfl
      refine ⟨_, rfl, _, rfl, _, rfl, q1, q1, _, _, rfl, rfl, eq, eq, sl_le (by rw [List.length_map]; omega), fun b1 hb1 => ?_⟩
      have t1 := same_new (o := .lst (sp.map V.int ++ sp.map V.int)) hb1
      have u1 : upd H15 b1 (.lst (sp.map V.int ++ sp.map V.int)) b1 = some (.lst (sp.map V.int ++ sp.map V.int)) := upd_same
      generalize upd H15 b1 (.lst (sp.map V.int ++ sp.map V.int)) = H16 at t1 u1 ⊢
      refine ⟨_, rfl, b1, g, _, _, rfl, rfl, u1, t1 _ _ eg, sl_le (by rw [List.length_append, List.length_map, List.length_map]; omega), fun b2 hb2 => ?_⟩
      have e3 : sp.map V.int ++ sp.map V.int ++ gs.map V.int = (sp ++ sp ++ gs).map V.int := by simp
      rw [e3]
      have t2 := same_new (o := .lst ((sp ++ sp ++ gs).map V.int)) hb2
      have u2 : upd H16 b2 (.lst ((sp ++ sp ++ gs).map V.int)) b2 = some (.lst ((sp ++ sp ++ gs).map V.int)) := upd_same
      have nb2 : b2 ≠ j := (j15.same t1).ne hb2
      generalize upd H16 b2 (.lst ((sp ++ sp ++ gs).map V.int)) = H17 at t2 u2 ⊢
      have t12 := t1.trans t2
      refine ⟨j, b2, _, rfl, j15.same t12, nb2, .inl (.inl u2), by simp [gne], by rw [List.length_map, List.length_append, List.length_append]; omega, fun H18 x c18 j18 hx => ?_⟩
      obtain ⟨v, rfl, hv⟩ := ints_mem hx
      have vr : 0 ≤ v ∧ v ≤ 999 := by
        simp only [List.mem_append] at hv
        rcases hv with (h | h) | h
        · have := spr v h
          omega
        · have := spr v h
          omega
        · exact gr v h
      have c1518 : Chg j H15 H18 := (Chg.of t12).trans c18
      refine ⟨_, rfl, _, rfl, dn, _, rfl, DPut.k (k := (Sum.inr (ch z) : Key)) (c1518 _ _ en ndn) ?_, ?_⟩
      · rw [kN_len]
        have : ns.length = (ls.take i).length := by rw [← hf, List.length_map]
        rw [List.length_take] at this
        exact Nat.lt_of_lt_of_le (show _ < 100 by omega) (sl_le (by decide))
      rw [putK_kN zn]
      have fre : ∀ {b : Addr} {o : HO}, H18 b = some o → b ≠ dn → upd H18 dn (.dK (kN (ns ++ [(z, v)]))) b = some o := fun e n => by
        rw [upd_ne n]
        exact e
      have nl_ : ∀ {b : Addr} {L : List V}, H18 b = some (.lst L) → b ≠ dn := fun e z => by
        have := c1518 _ _ en ndn
        rw [← z, e] at this
        cases this
      refine ⟨chg_new (c15.trans c1518) hdn0, jug_upd ndn j18, fre (c1518 _ _ eq nq1) (nl_ (c1518 _ _ eq nq1)), fre (c1518 _ _ eg ng) (nl_ (c1518 _ _ eg ng)), fre (c1518 _ _ el nl) (nl_ (c1518 _ _ el nl)), fre (c1518 _ _ ec ndc) (Ne.symm ncn), ns ++ [(z, v)], _, _, rfl, upd_same, ?_, fun p hp => ?_⟩
      · rw [List.map_append, hf, List.take_add_one, ez]
        rfl
      · rcases List.mem_append.mp hp with h | h
        · exact nr p h
        · rw [List.mem_singleton.mp h]
          exact vr
    rintro σ H15 ⟨c15, j15, eq, eg, el, ec, ns, x9, x10, rfl, en, hf, nr⟩
    rw [List.length_map, List.take_length] at hf
    have nlen : ns.length = ls.length := by rw [← hf, List.length_map]
    refine ⟨_, rfl, _, rfl, sl_le (show 2 ≤ 100000 by decide), fun s hs => ?_⟩
    have t3 := same_new (o := .lst [V.ref dn, .ref dc]) hs
    exact k _ s dn dc ns cs (c15.trans (.of t3)) (j15.same t3) (none_chg c15 j15 hs) hdn0 ncn upd_same (t3 _ _ en) (t3 _ _ ec) ⟨by omega, by omega, fun p hp => lc _ (hf ▸ List.mem_map_of_mem hp), nr, by rw [hf]; exact la⟩ ⟨by omega, cr, nd⟩ hf
end
end K1
namespace K1
open PySem PySem.Spec L2 Z K6 K9
section
variable {P : Program} {w : World} {K : PySem.W.Frag} {mg : Str → Option Value} {base : Heap} {C : Addr}
theorem ok_law_crowd (T : Txt K mg C) (G__law_store : Pr P w K mg base "_law_store" s_law_store 4 ["_law_urn_here", "_law_letters_here", "_law_most"] q_store) (G__law_take : Pr P w K mg base "_law_take" s_law_take 1 ["_law_urn_here", "_law_size"] q_take) : Pr P w K mg base "_law_crowd" s_law_crowd 5 ["_law_urn_here", "_law_letters_here", "_law_most"] q_crowd := by
  obtain ⟨f, fd, F, gl, bd⟩ := T.d__law_crowd
  refine ⟨f, fd, F, gl, bd, F.ok sc_law_crowd (fun vs H Q E h => ?_) (fun cdv A outer s H vs Q E hr h => ?_)⟩
  · obtain ⟨j, l, ls, rfl, _⟩ := h
    rfl
  · obtain ⟨j, l, ls, rfl, hj, hl, nl, l1, l4, lc, la, k⟩ := h
    have hu := hu_of hr
    refine ⟨_, (pss_cons (ps_set (i := 3) sc_law_crowd.nd rfl (Or.inl rfl) (pcall G__law_store (hr.mono (by decide)) (pa_cons (pv 0) (pa_cons (pv 1) (pa_cons (pv 2) pa_nil)))))
      (pss_cons (ps_for PassesOwn.never rfl (pi_list (pv 1)) (pg_name (i := 4) sc_law_crowd.nd rfl (Or.inl rfl))
      (pss_one (ps_if (pt_cmpR op_eq (pcall G__law_take (hr.mono (by decide)) (pa_cons (pv 0) (pa_cons pe_int pa_nil))) pe_int (nomark _)) (pss_one (ps_dput hu (pe_ix ix_list (pv 3) pe_int (fun _ _ => rfl)) (pv 4) pe_int rfl)) pss_nil)))
      (pss_one (ps_ret (pv 3))))), ?_⟩
    refine ⟨_, rfl, _, rfl, _, rfl, j, l, ls, rfl, hj, hl, nl, l1, l4, lc, la, fun H1 s d0 d1 ns cs c1 j1 hs hd0 nd01 h0 hn hd ok dk hns => ?_⟩
    have hl1 := c1 _ _ hl nl
    have ns_ : s ≠ j := fun z => by obtain ⟨g, t, c, q, _⟩ := hj; rw [z, q] at hs; cases hs
    refine ⟨_, rfl, l, rfl, ⟨_, .inl (.inl hl1)⟩, ?_⟩
    refine for_list (xs := ls.map fun c => V.str (ch c)) (fun i σ H' => ∃ (x4 : Option V) (ns' : List (Nat × Int)), σ = [some (.ref j), some (.ref l), some (.int 9), some (.ref s), x4] ∧ Chg j H H' ∧ JugAt H' j ∧ H' l = some (.lst (ls.map fun c => V.str (ch c))) ∧ H' s = some (.lst [.ref d0, .ref d1]) ∧ H' d0 = some (.dK (kN ns')) ∧ H' d1 = some (.dK (kC cs)) ∧ NOk ns' ∧ ns'.map (·.1) = ls) ⟨_, ns, rfl, c1, j1, hl1, h0, hn, hd, ok, hns⟩ (fun i σ H' _ h => by obtain ⟨_, _, _, _, _, h, _⟩ := h; exact .inl (.inl h)) ?_ ?_
    · rintro i xx σ H2 hx ⟨x4, ns', rfl, c2, j2, e1, e2, e3, e4, ok', hk'⟩
      obtain ⟨c, ec, rfl⟩ := map_at hx
      refine ⟨_, rfl, j, _, rfl, j2, by decide, by decide, fun H3 t c3 j3 t0 t1 => ⟨rfl, _, rfl, ?_⟩⟩
      have n1 : l ≠ j := nl
      have nd0 : d0 ≠ j := j2.neL e3 fun l z => nomatch z
      have nd1 : d1 ≠ j := j2.neL e4 fun l z => nomatch z
      have f1 := c3 _ _ e1 n1
      have f2 := c3 _ _ e2 ns_
      have f3 := c3 _ _ e3 nd0
      have f4 := c3 _ _ e4 nd1
      have c13 := c2.trans c3
      by_cases ht : t = 0
      · refine ifT (decide_eq_true (by rw [ht])) ⟨_, rfl, s, _, 0, _, rfl, rfl, .inl (.inl f2), at_first, _, rfl, d0, _, rfl, DPut.k (k := (Sum.inr (ch c) : Key)) f3 (by rw [kN_len]; have := ok'.four; exact Nat.lt_of_lt_of_le (show _ < 100 by omega) (sl_le (by decide))), ?_⟩
        rw [putK_old (by rw [hk']; exact List.mem_of_getElem? ec)]
        have fre : ∀ {b : Addr} {o : HO}, H3 b = some o → (∀ kk, o ≠ .dK kk) → upd H3 d0 (.dK (kN (putn ns' c 0))) b = some o := fun e n => by
          rw [upd_ne (fun z => by rw [z, f3] at e; exact n _ (Option.some.inj e).symm)]
          exact e
        refine ⟨_, putn ns' c 0, rfl, chg_new c13 hd0, ?_, fre f1 (fun _ z => nomatch z), fre f2 (fun _ z => nomatch z), upd_same, ?_, putn_ok ok' (by decide) (by decide), by rw [putn_keys]; exact hk'⟩
        · exact jug_upd nd0 j3
        · rw [upd_ne (Ne.symm nd01)]
          exact f4
      · exact ifF (decide_eq_false (by simpa using ht)) ⟨_, ns', rfl, c13, j3, f1, f2, f3, f4, ok', hk'⟩
    rintro σ H2 ⟨x4, ns', rfl, c2, j2, e1, e2, e3, e4, ok', hk'⟩
    exact ⟨_, rfl, k H2 s ns' cs c2 j2 hs ⟨d0, d1, e2, e3, e4⟩ ok' dk⟩
end
end K1
namespace K1
open PySem PySem.Spec L2 Z K6 K9
section
variable {P : Program} {w : World} {K : PySem.W.Frag} {mg : Str → Option Value} {base : Heap} {C : Addr}
theorem ok_law_letters (T : Txt K mg C) (G__law_of : Pr P w K mg base "_law_of" s_law_of 2 ["_law_urn_here", "_law_some"] (sp_law_one_of K)) : Pr P w K mg base "_law_letters" s_law_letters 3 ["_law_urn_here", "_law_many"] sp_law_letters := by
  obtain ⟨f, fd, F, gl, bd⟩ := T.d__law_letters
  refine ⟨f, fd, F, gl, bd, F.ok sc_law_letters (fun vs H Q E h => ?_) (fun cdv A outer s H vs Q E hr h => ?_)⟩
  · obtain ⟨j, m, rfl, _⟩ := h
    rfl
  · obtain ⟨j, m, rfl, hj, m1, m2, k⟩ := h
    have hu := hu_of hr
    refine ⟨_, (pss_cons (ps_set (i := 2) sc_law_letters.nd rfl (Or.inr rfl) (pe_lst pa_nil))
      (pss_cons (ps_for PassesOwn.never rfl (pi_range1 rfl T.b_range (pa_cons (pv 1) pa_nil)) (pg_name (i := 3) sc_law_letters.nd rfl (Or.inl rfl))
      (pss_cons (ps_setLc (i := 4) (own := [("_law_each", 5)]) (g := gName 5) rfl sc_law_letters.nd rfl rfl (sw_true rfl rfl rfl (by decide +kernel)) (pi_str pe_str) (blkOk_by (own := [("_law_each", 5)]) (N := N_law_letters) (sc := defScope s_law_letters) (by decide +kernel)) (fun _ _ _ _ _ => (pg_name (i := 5) sc_law_letters.nd rfl (Or.inl rfl))) (fun _ _ _ _ _ => (pts_one (pt_cmpR (op_notIn_seqK (K := K) rfl) (pv 5) (pv 2) (by rfl)))) (fun _ _ _ _ _ => (pv 5)))
      (pss_one (ps_expr (pe_bm PySem.F.plainAttrs_list PySem.F.slot_list_append PySem.F.type_list_append mt_append (pv 2) (pa_cons (pcall G__law_of (hr.mono (by decide)) (pa_cons (pv 0) (pa_cons (pv 4) pa_nil))) pa_nil))))))
      (pss_one (ps_ret (pe_callB cr_sortedS (by rfl) T.b_sorted (by decide +kernel) (pa_cons (pv 2) pa_nil)))))), ?_⟩
    refine ⟨Nat.zero_le _, fun p hp => ?_⟩
    have np : p ≠ j := hj.ne hp
    refine ⟨_, rfl, m, rfl, by omega, by omega, ?_⟩
    refine for_range (lo := 0) (n := m.toNat) (fun i σ H' => Chg j H H' ∧ JugAt H' j ∧ ∃ cs : List Nat, ∃ x3 x4, σ = [some (.ref j), some (.int m), some (.ref p), x3, x4, none] ∧ H' p = some (.lst (cs.map cS)) ∧ cs.length = i ∧ (∀ c ∈ cs, 97 ≤ c ∧ c ≤ 122) ∧ cs.Nodup)
      ⟨Chg.of (same_new hp), jug_upd np hj, [], _, _, rfl, upd_same, rfl, (fun c hc => by cases hc), List.nodup_nil⟩ ?_ ?_
    · rintro i σ H1 hi ⟨c1, hj1, cs, x3, x4, rfl, hk, hl, hc, nd⟩
      unfold gName tSeq tAsg
      dsimp only
      refine lcF6 hk (by decide +kernel) fun H2 D2 s2 hD2 hd2 => ?_
      have hj2 := hj1.same s2
      have neD2 : D2 ≠ j := hj1.ne hD2
      refine ⟨_, rfl, .inl ⟨rfl, _, .inl (.inl (s2 _ _ hk))⟩, _, rfl, _, rfl, j, D2, _, rfl, hj2, neD2, .inl (.inl hd2), ?_, ?_, fun H5 x c5 j5 hx => ?_⟩
      · intro z
        exact left_pos (S := (Str.ofString "abcdefghijklmnopqrstuvwxyz").cps.toList) (by decide +kernel) (by rw [all_n]; omega) (List.map_eq_nil_iff.mp z)
      · rw [List.length_map]
        exact Nat.lt_of_le_of_lt (List.length_filter_le _ _) (show (Str.ofString "abcdefghijklmnopqrstuvwxyz").cps.toList.length < 1000000 by decide +kernel)
      obtain ⟨c, hcm, rfl⟩ := List.mem_map.mp hx
      obtain ⟨cS1, cN'⟩ := List.mem_filter.mp hcm
      have cN : c ∉ cs := by simpa using cN'
      have hp5 := c5 _ _ (s2 _ _ hk) np
      refine ⟨p, _, _, rfl, rfl, hp5, by rw [List.length_map]; exact Nat.lt_of_lt_of_le (show cs.length < 100 by omega) (sl_le (by decide)), ?_⟩
      refine ⟨chg_new ((c1.trans (Chg.of s2)).trans c5) hp, ?_, cs ++ [c], _, _, rfl, by rw [upd_same, List.map_append]; rfl, by rw [List.length_append, hl]; rfl, ?_, ?_⟩
      · exact jug_upd np j5
      · intro c' hc'
        rcases List.mem_append.mp hc' with z | z
        · exact hc c' z
        · cases List.mem_singleton.mp z
          exact all_let c cS1
      · refine List.nodup_append.mpr ⟨nd, by simp, ?_⟩
        intro u hu v hv e
        cases List.mem_singleton.mp hv
        exact cN (e ▸ hu)
    · rintro σ H1 ⟨c1, hj1, cs, x3, x4, rfl, hk, hl, hc, nd⟩
      refine ⟨_, rfl, p, cs.map ch, rfl, .inl (.inl (by rw [List.map_map]; exact hk)), by rw [List.length_map]; omega, fun ys q hperm hsort hq => ?_⟩
      obtain ⟨l, rfl, pl, as⟩ := sorted_ch hperm hsort nd
      have hq0 := none_chg c1 hj1 hq
      exact k _ q l (chg_new c1 hq0) (jug_upd (hj1.ne hq) hj1) hq0 (by rw [upd_same, List.map_map]; rfl) (by rw [pl.length_eq, hl]; omega) (fun c h => hc c (pl.mem_iff.mp h)) as
end
end K1
namespace K1
open PySem PySem.Spec L2 Z K6 K9
section
variable {P : Program} {w : World} {K : PySem.W.Frag} {mg : Str → Option Value} {base : Heap} {C : Addr}
theorem ok_is_tuple_of (T : Txt K mg C)  : Pr P w K mg base "is_tuple_of" s_is_tuple_of 1 ["value", "many"] (sp_is_tuple_of K) := by
  obtain ⟨f, fd, F, gl, bd⟩ := T.d_is_tuple_of
  refine ⟨f, fd, F, gl, bd, F.ok sc_is_tuple_of (fun vs H Q E h => ?_) (fun cdv A outer s H vs Q E hr h => ?_)⟩
  · obtain ⟨a, xs, rfl, _⟩ := h
    rfl
  · obtain ⟨a, xs, rfl, h, k⟩ := h
    have hu := hu_of hr
    refine ⟨_, (pss_one (ps_ret (pe_and (pe_callB call_isi (by rfl) T.b_isinstance (by decide +kernel) (pa_cons (pv 0) (pa_cons (pe_bty "tuple" (by rfl) T.b_tuple (by decide +kernel)) pa_nil))) (pe_one (pe_cmpR op_eq (pe_callB call_len_seq (by rfl) T.b_len (by decide +kernel) (pa_cons (pv 0) pa_nil)) (pv 1) (nomark _)))))), ?_⟩
    refine ⟨_, rfl, _, _, _, _, _, rfl, .ty _, SqT.ty h, kit_ty (r := true) (by decide +kernel), _, rfl, ?_⟩
    refine iteT ⟨_, rfl, a, xs, rfl, .inr h, _, rfl, rfl, ?_⟩
    have e : decide (V.int (xs.length : Int) = V.int (xs.length : Int)) = true := decide_eq_true rfl
    rw [e]
    exact k
end
end K1
namespace K1
open PySem PySem.Spec L2 Z K6 K9
section
variable {P : Program} {w : World} {K : PySem.W.Frag} {mg : Str → Option Value} {base : Heap} {C : Addr}
theorem ok_is_number (T : Txt K mg C)  : Pr P w K mg base "is_number" s_is_number 1 ["value"] sp_is_number := by
  obtain ⟨f, fd, F, gl, bd⟩ := T.d_is_number
  refine ⟨f, fd, F, gl, bd, F.ok sc_is_number (fun vs H Q E h => ?_) (fun cdv A outer s H vs Q E hr h => ?_)⟩
  · obtain ⟨i, rfl, _⟩ := h
    rfl
  · obtain ⟨i, rfl, k⟩ := h
    have hu := hu_of hr
    refine ⟨_, (pss_one (ps_ret (pe_and (pe_callB call_isi (by rfl) T.b_isinstance (by decide +kernel) (pa_cons (pv 0) (pa_cons (pe_bty "int" (by rfl) T.b_int (by decide +kernel)) pa_nil))) (pe_one (pe_not (pe_callB call_isi (by rfl) T.b_isinstance (by decide +kernel) (pa_cons (pv 0) (pa_cons (pe_bty "bool" (by rfl) T.b_bool (by decide +kernel)) pa_nil)))))))), ?_⟩
    refine ⟨_, rfl, _, _, _, _, _, rfl, .ty _, .base (.int i), kit_ty (r := true) (by decide +kernel), _, rfl, ?_⟩
    refine iteT ?_
    exact ⟨_, rfl, _, _, _, _, _, rfl, .ty _, .base (.int i), kit_ty (r := false) (by decide +kernel), _, rfl, k⟩
end
end K1
namespace K1
open PySem PySem.Spec L2 Z K6 K9
section
variable {P : Program} {w : World} {K : PySem.W.Frag} {mg : Str → Option Value} {base : Heap} {C : Addr}
theorem ok_is_whole (T : Txt K mg C) (G_is_number : Pr P w K mg base "is_number" s_is_number 1 ["value"] sp_is_number) : Pr P w K mg base "is_whole" s_is_whole 2 ["value", "low", "high"] sp_is_whole := by
  obtain ⟨f, fd, F, gl, bd⟩ := T.d_is_whole
  refine ⟨f, fd, F, gl, bd, F.ok sc_is_whole (fun vs H Q E h => ?_) (fun cdv A outer s H vs Q E hr h => ?_)⟩
  · obtain ⟨i, lo, hi, rfl, _⟩ := h
    rfl
  · obtain ⟨i, lo, hi, rfl, h1, h2, k⟩ := h
    have hu := hu_of hr
    refine ⟨_, (pss_one (ps_ret (pe_and (pcall G_is_number (hr.mono (by decide)) (pa_cons (pv 0) pa_nil)) (pe_one (pe_chain op_le op_le (pv 1) (pv 0) (pv 2)))))), ?_⟩
    refine ⟨_, rfl, _, rfl, _, rfl, iteT ?_⟩
    refine ⟨_, rfl, _, rfl, _, _, rfl, rfl, _, rfl, ?_⟩
    rw [decide_eq_true h1]
    refine iteT ⟨_, rfl, _, _, rfl, rfl, ?_⟩
    show Q (.bl (decide (i ≤ hi))) H
    rw [decide_eq_true h2]
    exact k
end
end K1
namespace K1
open PySem PySem.Spec L2 Z K6 K9
section
variable {P : Program} {w : World} {K : PySem.W.Frag} {mg : Str → Option Value} {base : Heap} {C : Addr}
theorem ok_is_place (T : Txt K mg C) (G_is_whole : Pr P w K mg base "is_whole" s_is_whole 2 ["value", "low", "high"] sp_is_whole) : Pr P w K mg base "is_place" s_is_place 3 ["value"] sp_is_place := by
  obtain ⟨f, fd, F, gl, bd⟩ := T.d_is_place
  refine ⟨f, fd, F, gl, bd, F.ok sc_is_place (fun vs H Q E h => ?_) (fun cdv A outer s H vs Q E hr h => ?_)⟩
  · obtain ⟨i, rfl, _⟩ := h
    rfl
  · obtain ⟨i, rfl, h1, h2, k⟩ := h
    have hu := hu_of hr
    refine ⟨_, (pss_one (ps_ret (pcall G_is_whole (hr.mono (by decide)) (pa_cons (pv 0) (pa_cons (pe_globI rfl T.c_END) (pa_cons (pe_globI rfl T.c_LAST_PLACE) pa_nil)))))), ?_⟩
    exact ⟨_, rfl, i, 0, 999, rfl, h1, h2, k⟩
end
end K1
namespace K1
open PySem PySem.Spec L2 Z K6 K9
section
variable {P : Program} {w : World} {K : PySem.W.Frag} {mg : Str → Option Value} {base : Heap} {C : Addr}
theorem ok_wrong_cell (T : Txt K mg C) (G_is_tuple_of : Pr P w K mg base "is_tuple_of" s_is_tuple_of 1 ["value", "many"] (sp_is_tuple_of K)) (G_is_place : Pr P w K mg base "is_place" s_is_place 3 ["value"] sp_is_place) : Pr P w K mg base "_wrong_cell" s_wrong_cell 4 ["cells"] (sp_wrong_cell K) := by
  obtain ⟨f, fd, F, gl, bd⟩ := T.d__wrong_cell
  refine ⟨f, fd, F, gl, bd, F.ok sc_wrong_cell (fun vs H Q E h => ?_) (fun cdv A outer s H vs Q E hr h => ?_)⟩
  · obtain ⟨v, cs, rfl, _⟩ := h
    rfl
  · obtain ⟨v, cs, rfl, ⟨a, rs, rfl, ht, hp⟩, ok, k⟩ := h
    have hu := hu_of hr
    refine ⟨_, (pss_cons (ps_set (i := 1) sc_wrong_cell.nd rfl (Or.inl rfl) (pe_globI rfl T.c_END))
      (pss_cons (ps_for PassesOwn.never rfl (pi_enumT rfl T.b_enumerate (pa_cons (pv 0) pa_nil)) (pg_tup rfl (pgs_cons (pg_name (i := 2) sc_wrong_cell.nd rfl (Or.inl rfl)) (pgs_cons (pg_name (i := 3) sc_wrong_cell.nd rfl (Or.inl rfl)) pgs_nil)))
      (pss_cons (ps_if (PW.pt (pw_or (pt_cmpR op_ge (pv 2) (pe_globI rfl T.c_MOST_CELLS) (nomark _)) (pw_or (pt_not (pt_val (pcall G_is_tuple_of (hr.mono (by decide)) (pa_cons (pv 3) (pa_cons pe_int pa_nil))))) (pw_or (pt_not (pt_val (pcall G_is_place (hr.mono (by decide)) (pa_cons (pe_ix ix_tup (pv 3) pe_int (fun _ _ => rfl)) pa_nil)))) (pw_or1 (pt_not (pt_val (pcall G_is_place (hr.mono (by decide)) (pa_cons (pe_ix ix_tup (pv 3) pe_int (fun _ _ => rfl)) pa_nil))))))))) (pss_one (ps_ret (pv 2))) pss_nil)
      (pss_cons (ps_if (pt_cmpR op_le (pe_ix ix_tup (pv 3) pe_int (fun _ _ => rfl)) (pv 1) (nomark _)) (pss_one (ps_ret (pv 2))) pss_nil)
      (pss_one (ps_set (i := 1) sc_wrong_cell.nd rfl (Or.inl rfl) (pe_ix ix_tup (pv 3) pe_int (fun _ _ => rfl)))))))
      (pss_one (ps_ret pe_non)))), ?_⟩
    have o4 := ok.few
    refine ⟨_, rfl, a, _, rfl, ht.sq, ?_⟩
    refine for_enumP (fun i σ H' => Same H H' ∧ ∃ b : Int, ∃ x y, σ = [some (.ref a), some (.int b), x, y] ∧ ∀ p, cs[i]? = some p → b < p.1) ⟨fun b o e => e, _, _, _, rfl, fun p e => (ok.pl p (List.mem_of_getElem? e)).1⟩ ht hp ?_ ?_ ?_
    · rintro i σ H' ⟨s, _⟩
      exact s
    · rintro i b p σ H' t eb ep hq ⟨sm, z, x0, y0, rfl, hlt⟩ hn
      obtain ⟨q, eq, rfl⟩ := map_at ep
      have hm := List.mem_of_getElem? eq
      obtain ⟨p1, p2, p3, p4⟩ := ok.pl q hm
      have hi : i < cs.length := (List.getElem?_eq_some_iff.mp eq).1
      have sm2 : Same H (upd H' t (.tup [.int (i : Nat), .ref b])) := sm.trans (same_new hn)
      have hq2 : SqT K (upd H' t (.tup [.int (i : Nat), .ref b])) b [(cV q).1, (cV q).2] := SqT.imm (.of (same_new hn)) hq
      refine ⟨t, _, rfl, .inl (.inl upd_same), rfl, _, _, rfl, _, _, rfl, rfl, ?_⟩
      refine ⟨_, rfl, _, _, rfl, rfl, false, congrArg V.bl (decide_eq_false (by omega)), iteF ?_⟩
      refine ⟨_, rfl, b, _, rfl, hq2, _, rfl, iteF ?_⟩
      refine ⟨_, rfl, b, _, 0, _, rfl, rfl, hq2, at_first, q.1, rfl, by omega, p2, _, rfl, iteF ?_⟩
      refine ⟨_, rfl, b, _, 1, _, rfl, rfl, hq2, at_snd, q.2, rfl, p3, p4, _, rfl, iteF ?_⟩
      have hz := hlt q eq
      refine ⟨_, rfl, b, _, 0, _, rfl, rfl, hq2, at_first, _, rfl, _, _, rfl, rfl, false, congrArg V.bl (decide_eq_false (by omega)), iteF ?_⟩
      exact ⟨_, rfl, b, _, 0, _, rfl, rfl, hq2, at_first, sm2, _, _, _, rfl, fun p hp => asc_atI ok.asc eq hp⟩
    · rintro σ H' ⟨s, _⟩
      exact k _ s
end
end K1
namespace K1
open PySem PySem.Spec L2 Z K6 K9
section
variable {P : Program} {w : World} {K : PySem.W.Frag} {mg : Str → Option Value} {base : Heap} {C : Addr}
theorem ok_store_text (T : Txt K mg C)  : Pr P w K mg base "_store_text" s_store_text 1 ["names", "cells"] (sp_store_text K) := by
  obtain ⟨f, fd, F, gl, bd⟩ := T.d__store_text
  refine ⟨f, fd, F, gl, bd, F.ok sc_store_text (fun vs H Q E h => ?_) (fun cdv A outer s H vs Q E hr h => ?_)⟩
  · obtain ⟨v, u, ns, cs, rfl, _⟩ := h
    rfl
  · obtain ⟨v, u, ns, cs, rfl, ⟨a, rs, rfl, ht, hp⟩, ⟨b, qs, rfl, ht2, hp2⟩, ok, ck, k⟩ := h
    have hu := hu_of hr
    refine ⟨_, (pss_cons (ps_set (i := 2) sc_store_text.nd rfl (Or.inl rfl) (pe_join pe_str (pe_lc (own := [("letter", 4), ("place", 5)]) (g := gTup K 2 (gCons (gName 4) (gCons (gName 5) gNil))) (tt := tYes) rfl sc_store_text.nd (pi_tup (pv 0)) (blkOk_by (own := [("letter", 4), ("place", 5)]) (N := N_store_text) (sc := defScope s_store_text) (by decide +kernel)) (fun _ _ _ _ _ => (pg_tup rfl (pgs_cons (pg_name (i := 4) sc_store_text.nd rfl (Or.inl rfl)) (pgs_cons (pg_name (i := 5) sc_store_text.nd rfl (Or.inl rfl)) pgs_nil)))) (fun _ _ _ _ _ => pts_nil) (fun _ _ _ _ _ => (pe_joined (PJ.cons (pe_fmt (pv 4)) (PJ.cons pe_str (PJ.cons (pe_fmt (pv 5)) PJ.nil))))))))
      (pss_cons (ps_set (i := 3) sc_store_text.nd rfl (Or.inl rfl) (pe_join pe_str (pe_lc (own := [("place", 5), ("to", 6)]) (g := gTup K 2 (gCons (gName 5) (gCons (gName 6) gNil))) (tt := tYes) rfl sc_store_text.nd (pi_tup (pv 1)) (blkOk_by (own := [("place", 5), ("to", 6)]) (N := N_store_text) (sc := defScope s_store_text) (by decide +kernel)) (fun _ _ _ _ _ => (pg_tup rfl (pgs_cons (pg_name (i := 5) sc_store_text.nd rfl (Or.inl rfl)) (pgs_cons (pg_name (i := 6) sc_store_text.nd rfl (Or.inl rfl)) pgs_nil)))) (fun _ _ _ _ _ => pts_nil) (fun _ _ _ _ _ => (pe_joined (PJ.cons (pe_fmt (pv 5)) (PJ.cons pe_str (PJ.cons (pe_fmt (pv 6)) PJ.nil))))))))
      (pss_one (ps_ret (pe_joined (PJ.cons (pe_fmt (pv 2)) (PJ.cons pe_str (PJ.cons (pe_fmt (pe_orT (pv 3) (pe_one pe_str))) PJ.nil)))))))), ?_⟩
    have o4 := ok.four
    have c4 := ck.few
    refine ⟨⟨_, rfl⟩, ?_⟩
    refine lcP nV (fun p => V.str (nameW p)) rfl ht hp (by omega) (fun b p H1 R sm hq hm hR => ?_) (fun H1 D sm hD hl => ?_)
    · obtain ⟨p1, p2⟩ := ok.pl p hm
      refine ⟨b, _, rfl, hq, rfl, _, _, rfl, _, _, rfl, rfl, rfl, ?_⟩
      refine ⟨_, rfl, .inl ⟨_, rfl, sl_le (by rw [ch_len]; decide), _, rfl, sl_le (by rw [emp_app, ch_len]; decide), _, rfl, sl_le (by rw [len_app, emp_app, ch_len, eq1_len]; decide), _, rfl, .inr ⟨p.2, rfl, num_log p1 p2, _, rfl, ?_, ?_⟩⟩⟩
      · have := nameW_len p1 p2
        rw [← nameW_eq] at this
        exact sl_le (Nat.le_trans this (by decide))
      · rw [← nameW_eq] at hR
        exact hR
    have sum1 := sum_len (k := 5) (ys := ns.map nameW) (fun y hy => by
      obtain ⟨p, hp, rfl⟩ := List.mem_map.mp hy
      exact nameW_len (ok.pl p hp).1 (ok.pl p hp).2)
    rw [List.length_map] at sum1
    refine ⟨_, _, ns.map nameW, rfl, rfl, .inl (.inl (.inl (by rw [List.map_map]; exact hl))), ?_, ?_⟩
    · rw [List.length_map, sp1_len]
      omega
    refine ⟨⟨_, rfl⟩, ?_⟩
    refine lcP cV (fun p => V.str (cellW p)) rfl (PT.same sm ht2) (Paired.imm (.of sm) hp2) (by omega) (fun b p H3 R sm hq hm hR => ?_) (fun H2 D2 sm2 hD2 hl2 => ?_)
    · obtain ⟨p1, p2, p3, p4⟩ := ck.pl p hm
      have p0 : 0 ≤ p.1 := by omega
      have n1 := num_len p0 p2
      refine ⟨b, _, rfl, hq, rfl, _, _, rfl, _, _, rfl, rfl, rfl, ?_⟩
      refine ⟨_, rfl, .inr ⟨p.1, rfl, num_log p0 p2, _, rfl, sl_le (by rw [emp_app]; exact Nat.le_trans n1 (by decide)), _, rfl, sl_le (by rw [len_app, emp_app, gt1_len]; exact Nat.le_trans (Nat.add_le_add_right n1 1) (by decide)), _, rfl, .inr ⟨p.2, rfl, num_log p3 p4, _, rfl, ?_, ?_⟩⟩⟩
      · have := cellW_len p0 p2 p3 p4
        rw [← cellW_eq] at this
        exact sl_le (Nat.le_trans this (by decide))
      · rw [← cellW_eq] at hR
        exact hR
    have sum2 := sum_len (k := 7) (ys := cs.map cellW) (cs_le ck)
    rw [List.length_map] at sum2
    refine ⟨_, _, cs.map cellW, rfl, rfl, .inl (.inl (.inl (by rw [List.map_map]; exact hl2))), ?_, ?_⟩
    · rw [List.length_map, sp1_len]
      omega
    have L1 := nTxt_len ok
    have L2 := cTxt_len ck
    refine ⟨_, rfl, .inl ⟨_, rfl, sl_le (Nat.le_trans L1 (by decide)), _, rfl, sl_le (by rw [emp_app]; exact Nat.le_trans L1 (by decide)), _, rfl, sl_le (by rw [len_app, emp_app, bar_len]; exact Nat.le_trans (Nat.add_le_add_right L1 3) (by decide)), ?_⟩⟩
    have fin : stTxt ns cs = Str.empty ++ nTxt ns ++ Str.ofString " | " ++ cTxt cs := by rw [emp_app]; rfl
    have kk := k H2 (sm.trans sm2)
    rw [fin] at kk
    have L3 : (Str.empty ++ nTxt ns ++ Str.ofString " | " ++ cTxt cs).length ≤ sizeLine := sl_le (by rw [emp_app, len_app, len_app, bar_len]; omega)
    by_cases hc : cs = []
    · have e : Txt.join (Str.ofString " ") (cs.map cellW) = Str.empty := by rw [hc]; exact glue_nil
      have e2 : cTxt cs = Str.ofString "none" := if_pos hc
      rw [e2] at kk L3
      refine ⟨_, rfl, false, ?_, iteF ?_⟩
      · rw [e]
        exact ⟨Nat.zero_le _, rfl⟩
      · exact .inl ⟨_, rfl, by rw [none_len]; exact sl_le (by decide), _, rfl, L3, kk⟩
    · have e2 : cTxt cs = Txt.join (Str.ofString " ") (cs.map cellW) := if_neg hc
      have e3 := cells_pos hc
      rw [e2] at kk L3 L2
      refine ⟨_, rfl, true, ⟨sl_le (Nat.le_trans L2 (by decide)), ?_⟩, iteT ?_⟩
      · have : ((Txt.join (Str.ofString " ") (cs.map cellW)).length : Int) ≠ 0 := by
          unfold sp1 at e3
          omega
        exact (bne_iff_ne.mpr this).symm
      · exact .inl ⟨_, rfl, sl_le (Nat.le_trans L2 (by decide)), _, rfl, L3, kk⟩
end
end K1
namespace K1
open PySem PySem.Spec L2 Z K6 K9
section
variable {P : Program} {w : World} {K : PySem.W.Frag} {mg : Str → Option Value} {base : Heap} {C : Addr}
theorem ok_take (T : Txt K mg C) (G__store_text : Pr P w K mg base "_store_text" s_store_text 1 ["names", "cells"] (sp_store_text K)) : PrM P w K mg base C "take" "Store.take" s_take 2 ["self", "names", "cells"] (sp_take K C) := by
  obtain ⟨f, fd, F, gl, bd⟩ := T.d_take
  refine ⟨f, fd, F, gl, bd, F.ok sc_take (fun vs H Q E h => ?_) (fun cdv A outer s H vs Q E hr h => ?_)⟩
  · obtain ⟨x, dx, v, u, ns, cs, rfl, _⟩ := h
    rfl
  · obtain ⟨x, dx, v, u, ns, cs, rfl, hx, hv, hu1, ok, ck, k⟩ := h
    have hu := hu_of hr
    refine ⟨_, (pss_cons (ps_fld (pv 0) (pv 1) rfl)
      (pss_cons (ps_fld (pv 0) (pv 2) rfl)
      (pss_cons (ps_fld (pv 0) (pe_join pe_str (pe_lc (own := [("letter", 3), ("_", 4)]) (g := gTup K 2 (gCons (gName 3) (gCons (gName 4) gNil))) (tt := tYes) rfl sc_take.nd (pi_tup (pv 1)) (blkOk_by (own := [("letter", 3), ("_", 4)]) (N := N_take) (sc := defScope s_take) (by decide +kernel)) (fun _ _ _ _ _ => (pg_tup rfl (pgs_cons (pg_name (i := 3) sc_take.nd rfl (Or.inl rfl)) (pgs_cons (pg_name (i := 4) sc_take.nd rfl (Or.inl rfl)) pgs_nil)))) (fun _ _ _ _ _ => pts_nil) (fun _ _ _ _ _ => (pv 3)))) rfl)
      (pss_cons (ps_fld (pv 0) (pcall G__store_text (hr.mono (by decide)) (pa_cons (pv 1) (pa_cons (pv 2) pa_nil))) rfl)
      (pss_cons (ps_fld (pv 0) (pe_callTy (call_dictT rfl) (by rfl) T.b_dict (by decide +kernel) (pa_cons (pv 1) pa_nil)) rfl)
      (pss_cons (ps_fld (pv 0) (pe_callTy (call_dictT rfl) (by rfl) T.b_dict (by decide +kernel) (pa_cons (pv 2) pa_nil)) rfl)
      (pss_one (ps_fld (pv 0) (pe_dc (own := [("_", 4), ("place", 5)]) (g := gTup K 2 (gCons (gName 4) (gCons (gName 5) gNil))) (tt := tYes) rfl sc_take.nd (pi_tup (pe_op op_catP (pv 1) (pv 2))) (blkOk_by (own := [("_", 4), ("place", 5)]) (N := N_take) (sc := defScope s_take) (by decide +kernel)) (fun _ _ _ _ _ => (pg_tup rfl (pgs_cons (pg_name (i := 4) sc_take.nd rfl (Or.inl rfl)) (pgs_cons (pg_name (i := 5) sc_take.nd rfl (Or.inl rfl)) pgs_nil)))) (fun _ _ _ _ _ => pts_nil) (fun _ _ _ _ _ => (pv 5)) (fun _ _ _ _ _ => pe_bl)) rfl)))))))), ?_⟩
    obtain ⟨a, rs, rfl, ht, hp⟩ := hv
    obtain ⟨b, qs, rfl, ht2, hp2⟩ := hu1
    have o4 := ok.four
    have c4 := ck.few
    refine ⟨_, rfl, _, rfl, x, C, dx, _, rfl, hx, T.cl, T.n_names, of_decide_eq_true rfl, ?_⟩
    refine ⟨_, rfl, _, rfl, x, C, dx, _, rfl, upd_same, T.cl, T.n_cells, of_decide_eq_true rfl, ?_⟩
    generalize e3 : upd (upd H x _) x _ = H3
    have c3 : Chg x H H3 := by
      subst e3
      exact Chg.upd.trans Chg.upd
    have x3 : H3 x = some (.ins C dx [("names", .ref a), ("cells", .ref b)]) := by
      subst e3
      exact upd_same
    clear e3
    have i3 : Imm H H3 := c3.imm hx trivial
    refine ⟨⟨_, rfl⟩, ?_⟩
    refine lcP nV (fun p => V.str (ch p.1)) rfl (PT.imm i3 ht) (Paired.imm i3 hp) (by omega) (fun b p H4 R sm hq hm hR => ?_) (fun H4 D4 s4 hD4 hl4 => ?_)
    · exact ⟨b, _, rfl, hq, rfl, _, _, rfl, _, _, rfl, rfl, rfl, _, rfl, hR⟩
    have l4 : (List.map (fun x => x.length) (ns.map fun p => ch p.1)).sum ≤ 1 * (ns.map fun p => ch p.1).length := sum_len fun y hy => by
      obtain ⟨p, hp, rfl⟩ := List.mem_map.mp hy
      exact Nat.le_refl _
    rw [List.length_map] at l4
    refine ⟨_, _, ns.map fun p => ch p.1, rfl, rfl, .inl (.inl (.inl (by rw [List.map_map]; exact hl4))), ?_, ?_⟩
    · rw [List.length_map]
      have e : (Str.ofString "").length = 0 := by decide +kernel
      rw [e]
      omega
    refine ⟨_, rfl, x, C, dx, _, rfl, s4 _ _ x3, T.cl, T.n_letters, of_decide_eq_true rfl, ?_⟩
    generalize e5 : upd H4 x _ = H5
    have c5 : Chg x H H5 := by
      subst e5
      exact c3.trans ((Chg.of s4).trans Chg.upd)
    have x5 : H5 x = some (.ins C dx [("names", .ref a), ("cells", .ref b), ("letters", .str (lTxt ns))]) := by
      subst e5
      exact upd_same
    clear e5
    have i5 : Imm H H5 := c5.imm hx trivial
    refine ⟨_, rfl, _, rfl, .ref a, .ref b, ns, cs, rfl, ⟨a, rs, rfl, PT.imm i5 ht, Paired.imm i5 hp⟩, ⟨b, qs, rfl, PT.imm i5 ht2, Paired.imm i5 hp2⟩, ok, ck, fun H6 s6 => ?_⟩
    refine ⟨_, rfl, x, C, dx, _, rfl, s6 _ _ x5, T.cl, T.n_text, of_decide_eq_true rfl, ?_⟩
    generalize e7 : upd H6 x _ = H7
    have c7 : Chg x H H7 := by
      subst e7
      exact c5.trans ((Chg.of s6).trans Chg.upd)
    have x7 : H7 x = some (.ins C dx [("names", .ref a), ("cells", .ref b), ("letters", .str (lTxt ns)), ("text", .str (stTxt ns cs))]) := by
      subst e7
      exact upd_same
    clear e7
    have i7 : Imm H H7 := c7.imm hx trivial
    refine ⟨_, rfl, a, rs, kN ns, rfl, PT.imm i7 ht, pair_n (Paired.imm i7 hp), fun pd hpd => ?_⟩
    rw [merge_n ok]
    have n7 : pd ≠ x := fun z => by rw [z, x7] at hpd; cases hpd
    refine ⟨_, rfl, x, C, dx, _, rfl, by rw [upd_ne (Ne.symm n7)]; exact x7, T.cl, T.n_places, of_decide_eq_true rfl, ?_⟩
    generalize e8 : upd (upd H7 pd _) x _ = H8
    have c8 : Chg x H H8 := by
      subst e8
      exact c7.trans ((Chg.of (same_new hpd)).trans Chg.upd)
    have x8 : H8 x = some (.ins C dx [("names", .ref a), ("cells", .ref b), ("letters", .str (lTxt ns)), ("text", .str (stTxt ns cs)), ("places", .ref pd)]) := by
      subst e8
      exact upd_same
    have p8 : H8 pd = some (.dK (kN ns)) := by
      subst e8
      rw [upd_ne n7]
      exact upd_same
    clear e8
    have i8 : Imm H H8 := c8.imm hx trivial
    refine ⟨_, rfl, b, qs, kC cs, rfl, PT.imm i8 ht2, pair_c (Paired.imm i8 hp2), fun ad had => ?_⟩
    rw [merge_c ck]
    have n8 : ad ≠ x := fun z => by rw [z, x8] at had; cases had
    have n9 : ad ≠ pd := fun z => by rw [z, p8] at had; cases had
    refine ⟨_, rfl, x, C, dx, _, rfl, by rw [upd_ne (Ne.symm n8)]; exact x8, T.cl, T.n_arrows, of_decide_eq_true rfl, ?_⟩
    generalize e9 : upd (upd H8 ad _) x _ = H9
    have c9 : Chg x H H9 := by
      subst e9
      exact c8.trans ((Chg.of (same_new had)).trans Chg.upd)
    have x9 : H9 x = some (.ins C dx [("names", .ref a), ("cells", .ref b), ("letters", .str (lTxt ns)), ("text", .str (stTxt ns cs)), ("places", .ref pd), ("arrows", .ref ad)]) := by
      subst e9
      exact upd_same
    have p9 : H9 pd = some (.dK (kN ns)) := by
      subst e9
      rw [upd_ne n7, upd_ne (Ne.symm n9)]
      exact p8
    have a9 : H9 ad = some (.dK (kC cs)) := by
      subst e9
      rw [upd_ne n8]
      exact upd_same
    clear e9
    have i9 : Imm H H9 := c9.imm hx trivial
    have pt := Paired.app (Paired.imm i9 hp) (Paired.imm i9 hp2)
    have ll : (ns.map nV ++ cs.map cV).map (·.2) = (goals ns cs).map V.int := by
      simp only [goals, List.map_append, List.map_map]
      rfl
    have l1 : rs.length = ns.length := by rw [Paired.len hp, List.length_map]
    have l2 : qs.length = cs.length := by rw [Paired.len hp2, List.length_map]
    dsimp only
    unfold sFld
    refine dcP (gs := goals ns cs) (fun R hR => ?_) pt ll (by simp; omega) (fun b p i H' R sm hq hR => ?_) (fun H' D kvs sm hD hk hv => ?_)
    · exact ⟨_, rfl, _, rfl, cat_pt (PT.imm i9 ht) (PT.imm i9 ht2) (by simp; omega) fun t H1 s1 h1 => hR t H1 s1 (by rw [List.map_append]; exact h1)⟩
    · exact ⟨b, _, rfl, hq, rfl, _, _, rfl, _, _, rfl, rfl, rfl, _, rfl, hR⟩
    refine ⟨_, rfl, x, C, dx, _, rfl, sm _ _ x9, T.cl, T.n_led_to, of_decide_eq_true rfl, ?_⟩
    have nD : D ≠ x := fun z => by rw [z, x9] at hD; cases hD
    have nP : pd ≠ x := n7
    generalize eA : upd H' x _ = HA
    have cA : Chg x H HA := by
      subst eA
      exact c9.trans ((Chg.of sm).trans Chg.upd)
    have iA : Imm H HA := cA.imm hx trivial
    refine k HA ⟨.ref a, .ref b, dx, pd, ad, D, kvs, ?_, ⟨a, rs, rfl, PT.imm iA ht, Paired.imm iA hp⟩, ⟨b, qs, rfl, PT.imm iA ht2, Paired.imm iA hp2⟩, ?_, ?_, ?_, hv, ok, ck⟩ cA
    · subst eA
      exact upd_same
    · subst eA
      rw [upd_ne n7]
      exact sm _ _ p9
    · subst eA
      rw [upd_ne n8]
      exact sm _ _ a9
    · subst eA
      rw [upd_ne nD]
      exact hk
end
end K1
namespace K1
open PySem PySem.Spec L2 Z K6 K9
section
variable {P : Program} {w : World} {K : PySem.W.Frag} {mg : Str → Option Value} {base : Heap} {C : Addr}
theorem ok_is_letter (T : Txt K mg C)  : Pr P w K mg base "is_letter" s_is_letter 1 ["value"] sp_is_letter := by
  obtain ⟨f, fd, F, gl, bd⟩ := T.d_is_letter
  refine ⟨f, fd, F, gl, bd, F.ok sc_is_letter (fun vs H Q E h => ?_) (fun cdv A outer s H vs Q E hr h => ?_)⟩
  · obtain ⟨c, rfl, _⟩ := h
    rfl
  · obtain ⟨c, rfl, h1, h2, k⟩ := h
    have hu := hu_of hr
    refine ⟨_, (pss_one (ps_ret (pe_and (pe_callB call_isi (by rfl) T.b_isinstance (by decide +kernel) (pa_cons (pv 0) (pa_cons (pe_bty "str" (by rfl) T.b_str (by decide +kernel)) pa_nil))) (pe_and (pe_cmpR op_eq (pe_callB call_len_str (by rfl) T.b_len (by decide +kernel) (pa_cons (pv 0) pa_nil)) pe_int (nomark _)) (pe_one (pe_cmpR op_in_sign (pv 0) (pe_globS rfl T.c_LETTERS) (by rfl))))))), ?_⟩
    refine ⟨_, rfl, _, _, _, _, _, rfl, .ty _, .base (.str _), kit_ty (r := true) (by decide +kernel), _, rfl, ?_⟩
    refine iteT ⟨_, rfl, _, rfl, by show 1 ≤ sizeLine; decide, rfl, _, rfl, ?_⟩
    refine iteT ⟨_, rfl, c, _, rfl, rfl, ?_⟩
    have e : decide (c ∈ (Str.ofString "abcdefghijklmnopqrstuvwxyz").cps.toList) = true := letter_in h1 h2
    rw [e]
    exact k
end
end K1
namespace K1
open PySem PySem.Spec L2 Z K6 K9
section
variable {P : Program} {w : World} {K : PySem.W.Frag} {mg : Str → Option Value} {base : Heap} {C : Addr}
theorem ok_are_store_names (T : Txt K mg C) (G_is_tuple_of : Pr P w K mg base "is_tuple_of" s_is_tuple_of 1 ["value", "many"] (sp_is_tuple_of K)) (G_is_letter : Pr P w K mg base "is_letter" s_is_letter 1 ["value"] sp_is_letter) (G_is_place : Pr P w K mg base "is_place" s_is_place 3 ["value"] sp_is_place) : Pr P w K mg base "_are_store_names" s_are_store_names 4 ["value"] (sp_are_store_names K) := by
  obtain ⟨f, fd, F, gl, bd⟩ := T.d__are_store_names
  refine ⟨f, fd, F, gl, bd, F.ok sc_are_store_names (fun vs H Q E h => ?_) (fun cdv A outer s H vs Q E hr h => ?_)⟩
  · obtain ⟨v, ns, rfl, _⟩ := h
    rfl
  · obtain ⟨v, ns, rfl, ⟨a, rs, rfl, ht, hp⟩, ok, k⟩ := h
    have hu := hu_of hr
    refine ⟨_, (pss_cons (ps_if (PW.pt (pw_or (pt_not (pt_val (pe_callB call_isi (by rfl) T.b_isinstance (by decide +kernel) (pa_cons (pv 0) (pa_cons (pe_bty "tuple" (by rfl) T.b_tuple (by decide +kernel)) pa_nil))))) (pw_or1 (pt_not (pt_chain op_le op_le pe_int (pe_callB call_len_seq (by rfl) T.b_len (by decide +kernel) (pa_cons (pv 0) pa_nil)) (pe_globI rfl T.c_MOST_NAMES)))))) (pss_one (ps_ret pe_bl)) pss_nil)
      (pss_cons (ps_set (i := 1) sc_are_store_names.nd rfl (Or.inl rfl) pe_str)
      (pss_cons (ps_for PassesOwn.never rfl (pi_tup (pv 0)) (pg_name (i := 2) sc_are_store_names.nd rfl (Or.inl rfl))
      (pss_cons (ps_if (PW.pt (pw_or (pt_not (pt_val (pcall G_is_tuple_of (hr.mono (by decide)) (pa_cons (pv 2) (pa_cons pe_int pa_nil))))) (pw_or (pt_not (pt_val (pcall G_is_letter (hr.mono (by decide)) (pa_cons (pe_ix ix_tup (pv 2) pe_int (fun _ _ => rfl)) pa_nil)))) (pw_or (pt_not (pt_val (pcall G_is_place (hr.mono (by decide)) (pa_cons (pe_ix ix_tup (pv 2) pe_int (fun _ _ => rfl)) pa_nil)))) (pw_or1 (pt_cmpR op_le_str (pe_ix ix_tup (pv 2) pe_int (fun _ _ => rfl)) (pv 1) (nomark _))))))) (pss_one (ps_ret pe_bl)) pss_nil)
      (pss_one (ps_set (i := 1) sc_are_store_names.nd rfl (Or.inl rfl) (pe_ix ix_tup (pv 2) pe_int (fun _ _ => rfl))))))
      (pss_one (ps_ret pe_bl))))), ?_⟩
    have hT : SqT K H a (rs.map V.ref) := ht.sq
    have hl : rs.length = ns.length := by rw [Paired.len hp, List.length_map]
    have o1 := ok.one
    have o4 := ok.four
    refine ⟨_, rfl, _, _, _, _, _, rfl, .ty _, SqT.ty hT, kit_ty (r := true) (by decide +kernel), _, rfl, iteF ?_⟩
    refine ⟨_, rfl, _, _, rfl, .inr hT, 1, _, rfl, rfl, true, congrArg V.bl (decide_eq_true (by rw [List.length_map]; omega)), iteT ?_⟩
    refine ⟨_, _, rfl, rfl, true, congrArg V.bl (decide_eq_true (by rw [List.length_map]; omega)), iteF ?_⟩
    refine ⟨_, rfl, _, rfl, ⟨_, hT⟩, ?_⟩
    refine for_pairs (fun i σ H' => H' = H ∧ ∃ b x, σ = [some (.ref a), some (.str b), x] ∧ ∀ p, ns[i]? = some p → decide (b.cps.toList < (ch p.1).cps.toList) = true) ⟨rfl, _, _, rfl, fun p _ => lt_none⟩ ht hp ?_ ?_ ?_
    · rintro i σ H' ⟨rfl, _⟩
      exact Imm.refl _
    · rintro i b p σ H' eb ep hq ⟨rfl, z, x, rfl, hlt⟩
      obtain ⟨q, eq, rfl⟩ := map_at ep
      have hm := List.mem_of_getElem? eq
      obtain ⟨l1, l2⟩ := ok.let_ q hm
      obtain ⟨p1, p2⟩ := ok.pl q hm
      refine ⟨_, rfl, b, _, rfl, hq, _, rfl, iteF ?_⟩
      refine ⟨_, rfl, b, _, 0, _, rfl, rfl, hq, at_first, q.1, rfl, l1, l2, _, rfl, iteF ?_⟩
      refine ⟨_, rfl, b, _, 1, _, rfl, rfl, hq, at_snd, q.2, rfl, p1, p2, _, rfl, iteF ?_⟩
      refine ⟨_, rfl, b, _, 0, _, rfl, rfl, hq, at_first, _, rfl, _, _, rfl, rfl, false, congrArg V.bl (by rw [hlt q eq]; rfl), iteF ?_⟩
      refine ⟨_, rfl, b, _, 0, _, rfl, rfl, hq, at_first, ?_⟩
      exact ⟨rfl, _, _, rfl, fun p hp => lt_sign (asc_at ok.asc eq hp)⟩
    · rintro σ H' ⟨rfl, _⟩
      exact k
end
end K1
namespace K1
open PySem PySem.Spec L2 Z K6 K9
section
variable {P : Program} {w : World} {K : PySem.W.Frag} {mg : Str → Option Value} {base : Heap} {C : Addr}
theorem ok_init (T : Txt K mg C) (G__wrong_cell : Pr P w K mg base "_wrong_cell" s_wrong_cell 4 ["cells"] (sp_wrong_cell K)) (G_take : PrM P w K mg base C "take" "Store.take" s_take 2 ["self", "names", "cells"] (sp_take K C)) (G__are_store_names : Pr P w K mg base "_are_store_names" s_are_store_names 4 ["value"] (sp_are_store_names K)) : PrI P w K mg base C "Store.__init__" s_init 5 ["self", "names", "cells"] (sp_init K C) := by
  obtain ⟨f, fd, F, gl, bd⟩ := T.d_init
  refine ⟨f, fd, F, gl, bd, F.ok sc_init (fun vs H Q E h => ?_) (fun cdv A outer s H vs Q E hr h => ?_)⟩
  · obtain ⟨x, dx, v, u, ns, cs, rfl, _⟩ := h
    rfl
  · obtain ⟨x, dx, v, u, ns, cs, rfl, hx, hv, hu1, ok, ck, k⟩ := h
    have hu := hu_of hr
    refine ⟨_, (pss_cons (ps_if (pt_not (pt_val (pcall G__are_store_names (hr.mono (by decide)) (pa_cons (pv 1) pa_nil)))) (pss_one ps_never) pss_nil)
      (pss_cons (ps_if (pt_not (pt_val (pe_callB call_isi (by rfl) T.b_isinstance (by decide +kernel) (pa_cons (pv 2) (pa_cons (pe_bty "tuple" (by rfl) T.b_tuple (by decide +kernel)) pa_nil))))) (pss_one ps_never) pss_nil)
      (pss_cons (ps_set (i := 3) sc_init.nd rfl (Or.inl rfl) (pcall G__wrong_cell (hr.mono (by decide)) (pa_cons (pv 2) pa_nil)))
      (pss_cons (ps_if (pt_cmp (pc_notN (pv 3)) rfl) (pss_one ps_never) pss_nil)
      (pss_one (ps_expr (pmeth (pv 0) T.cl G_take (hr.mono (by decide)) (pa_cons (pv 1) (pa_cons (pv 2) pa_nil))))))))), ?_⟩
    obtain ⟨a, rs, rfl, ht, hp⟩ := hv
    obtain ⟨b, qs, rfl, ht2, hp2⟩ := hu1
    have o4 := ok.four
    have c4 := ck.few
    refine ⟨_, rfl, .ref a, ns, rfl, ⟨a, rs, rfl, ht, hp⟩, ok, _, rfl, iteF ?_⟩
    refine ⟨_, rfl, _, _, _, _, _, rfl, .ty _, SqT.ty ht2.sq, kit_ty (r := true) (by decide +kernel), _, rfl, iteF ?_⟩
    refine ⟨_, rfl, .ref b, cs, rfl, ⟨b, qs, rfl, ht2, hp2⟩, ck, fun H1 s1 => ?_⟩
    refine ⟨_, rfl, false, congrArg V.bl (by simp), iteF ?_⟩
    refine ⟨_, rfl, x, dx, _, rfl, s1 _ _ hx, rfl, _, rfl, _, rfl, x, dx, .ref a, .ref b, ns, cs, rfl, s1 _ _ hx, ⟨a, rs, rfl, PT.imm (.of s1) ht, Paired.imm (.of s1) hp⟩, ⟨b, qs, rfl, PT.imm (.of s1) ht2, Paired.imm (.of s1) hp2⟩, ok, ck, fun H2 st cg => k H2 st (fun c o e n => cg c o (s1 c o e) n)⟩
end
end K1
namespace K1
open PySem PySem.Spec L2 Z K6 K9
section
variable {P : Program} {w : World} {K : PySem.W.Frag} {mg : Str → Option Value} {base : Heap} {C : Addr}
theorem ok_law_made (T : Txt K mg C) (G_init : PrI P w K mg base C "Store.__init__" s_init 5 ["self", "names", "cells"] (sp_init K C)) : Pr P w K mg base "_law_made" s_law_made 7 ["_law_store_here"] (q_made K C) := by
  obtain ⟨f, fd, F, gl, bd⟩ := T.d__law_made
  refine ⟨f, fd, F, gl, bd, F.ok sc_law_made (fun vs H Q E h => ?_) (fun cdv A outer s H vs Q E hr h => ?_)⟩
  · obtain ⟨s, ns, cs, rfl, _⟩ := h
    rfl
  · obtain ⟨s, ns, cs, rfl, ⟨d0, d1, h0, h1, h2⟩, ok, dok, k⟩ := h
    have hu := hu_of hr
    refine ⟨_, (pss_cons (ps_set (i := 1) sc_law_made.nd rfl (Or.inl rfl) (pe_callTy call_tupP (by rfl) T.b_tuple (by decide +kernel) (pa_cons (pe_lc (own := [("_law_letter", 2)]) (g := gName 2) (tt := tYes) rfl sc_law_made.nd (pi_list (pe_callB (cr_sortedDS rfl) (by rfl) T.b_sorted (by decide +kernel) (pa_cons (pe_ix (ix_listK (K := K) rfl) (pv 0) pe_int (fun _ _ => rfl)) pa_nil))) (blkOk_by (own := [("_law_letter", 2)]) (N := N_law_made) (sc := defScope s_law_made) (by decide +kernel)) (fun _ _ _ _ _ => (pg_name (i := 2) sc_law_made.nd rfl (Or.inl rfl))) (fun _ _ _ _ _ => pts_nil) (fun _ _ _ _ _ => (pe_tup (pa_cons (pv 2) (pa_cons (pe_dget hu (pe_ix (ix_listK (K := K) rfl) (pv 0) pe_int (fun _ _ => rfl)) (pv 2) (fun _ _ => rfl)) pa_nil))))) pa_nil)))
      (pss_one (ps_ret (pmake G_init T.mgC (hr.mono (by decide)) (pa_cons (pv 1) (pa_cons (pe_callTy call_tupP (by rfl) T.b_tuple (by decide +kernel) (pa_cons (pe_lc (own := [("_law_at", 3)]) (g := gName 3) (tt := tYes) rfl sc_law_made.nd (pi_list (pe_callB (call_sortedDI rfl) (by rfl) T.b_sorted (by decide +kernel) (pa_cons (pe_ix (ix_listK (K := K) rfl) (pv 0) pe_int (fun _ _ => rfl)) pa_nil))) (blkOk_by (own := [("_law_at", 3)]) (N := N_law_made) (sc := defScope s_law_made) (by decide +kernel)) (fun _ _ _ _ _ => (pg_name (i := 3) sc_law_made.nd rfl (Or.inl rfl))) (fun _ _ _ _ _ => pts_nil) (fun _ _ _ _ _ => (pe_tup (pa_cons (pv 3) (pa_cons (pe_dget hu (pe_ix (ix_listK (K := K) rfl) (pv 0) pe_int (fun _ _ => rfl)) (pv 3) (fun _ _ => rfl)) pa_nil))))) pa_nil)) pa_nil)))))), ?_⟩
    have ck := srt_ok dok
    have n4 := ok.four
    have c9 := dok.few
    have sl9 : (srt cs).length ≤ 11 := by rw [(srt_perm cs).length_eq]; exact c9
    unfold tAsg tSeq tCB tCons
    dsimp only
    refine lcN ns (fun p => V.str (ch p.1)) nV (by omega) (fun R hR => ?_) (fun p H' R hm sm q2 => ?_) (fun H1 D1 rs s1 hD1 hl1 hp1 => ?_)
    · refine ⟨_, rfl, s, _, 0, _, rfl, rfl, .inl (.inl h0), at_first, d0, kN ns, _, rfl, .inl h1, strs_of_keys ns, by rw [List.length_map]; omega, fun ys p hp hs hpn => ?_⟩
      rw [lets_sorted ok hp hs]
      exact hR p _ (same_new hpn) (.inl (.inl (by rw [upd_same, List.map_map]; rfl)))
    · have D : DGet H' d0 (.str (ch p.1)) (some (.int p.2)) := val_n ok hm ▸ DGet.k (k := (Sum.inr (ch p.1) : Key)) (sm _ _ h1)
      exact ⟨rfl, _, rfl, _, rfl, s, _, 0, _, rfl, rfl, .inl (.inl (sm _ _ h0)), at_first, _, rfl, d0, _, rfl, D, sl_le (show 2 ≤ 100000 by decide), fun b hb => q2 _ b (same_new hb) upd_same⟩
    refine ⟨D1, _, rfl, .inl (.inl hl1), fun n o hn ho => ?_⟩
    have s2 := same_new (o := .frz o (.tup (rs.map V.ref))) hn
    have tn : TP K (upd H1 n (.frz o (.tup (rs.map V.ref)))) (.ref n) (ns.map nV) := ⟨n, rs, rfl, PT.new ho, Paired.imm (.of s2) hp1⟩
    generalize upd H1 n (.frz o (.tup (rs.map V.ref))) = H2 at s2 tn ⊢
    have s02 := s1.trans s2
    have h0a := s02 _ _ h0
    have h2a := s02 _ _ h2
    refine ⟨_, rfl, ?_⟩
    refine lcN (srt cs) (fun p => V.int p.1) cV (by omega) (fun R hR => ?_) (fun p H' R hm sm q2 => ?_) (fun H3 D2 qs s3 hD2 hl2 hp2 => ?_)
    · refine ⟨_, rfl, s, _, 1, _, rfl, rfl, .inl (.inl h0a), at_snd, d1, kC cs, _, rfl, .inl h2a, ints_of_keys cs, by rw [List.length_map]; omega, fun ys p hp hs hpn => ?_⟩
      rw [keys_sorted dok.nd hp hs]
      exact hR p _ (same_new hpn) (.inl (.inl (by rw [upd_same, List.map_map]; rfl)))
    · have pm := (srt_perm cs).mem_iff.mp hm
      have D : DGet H' d1 (.int p.1) (some (.int p.2)) := by
        have := val_c (List.mem_map_of_mem (f := (·.1)) pm)
        rw [val_of dok.nd pm] at this
        exact this ▸ DGet.k (k := (Sum.inl p.1 : Key)) (sm _ _ h2a)
      exact ⟨rfl, _, rfl, _, rfl, s, _, 1, _, rfl, rfl, .inl (.inl (sm _ _ h0a)), at_snd, _, rfl, d1, _, rfl, D, sl_le (show 2 ≤ 100000 by decide), fun b hb => q2 _ b (same_new hb) upd_same⟩
    refine ⟨D2, _, rfl, .inl (.inl hl2), fun n2 o2 hn2 ho2 => ?_⟩
    have s4 := same_new (o := .frz o2 (.tup (qs.map V.ref))) hn2
    have tc : TP K (upd H3 n2 (.frz o2 (.tup (qs.map V.ref)))) (.ref n2) ((srt cs).map cV) := ⟨n2, qs, rfl, PT.new ho2, Paired.imm (.of s4) hp2⟩
    generalize upd H3 n2 (.frz o2 (.tup (qs.map V.ref))) = H4 at s4 tc ⊢
    have tn4 := TP.imm (.of (s3.trans s4)) tn
    intro x1 dx1 hx1 hdx1 hne1
    have q1 := same_raw (C := C) hx1 hdx1 hne1
    refine ⟨x1, dx1, _, _, ns, srt cs, rfl, upd_same, TP.imm (.of q1) tn4, TP.imm (.of q1) tc, ok, ck, fun H8 st8 cg8 => ⟨rfl, ?_⟩⟩
    have s8 := same_mk hx1 hdx1 hne1 cg8
    have s04 := s02.trans (s3.trans s4)
    exact k H8 x1 (s04.trans s8) (none_of s04 hx1) st8
end
end K1
namespace K1
open PySem PySem.Spec L2 Z K6 K9
section
variable {P : Program} {w : World} {K : PySem.W.Frag} {mg : Str → Option Value} {base : Heap} {C : Addr}
theorem ok_law_way (T : Txt K mg C)  : Pr P w K mg base "_law_way" s_law_way 1 ["_law_store_here", "_law_at"] q_way := by
  obtain ⟨f, fd, F, gl, bd⟩ := T.d__law_way
  refine ⟨f, fd, F, gl, bd, F.ok sc_law_way (fun vs H Q E h => ?_) (fun cdv A outer s H vs Q E hr h => ?_)⟩
  · obtain ⟨s, p, ns, cs, rfl, _⟩ := h
    rfl
  · obtain ⟨s, p, ns, cs, rfl, ⟨d0, d, h0, hn, hd⟩, dk, k⟩ := h
    have hu := hu_of hr
    refine ⟨_, (pss_cons (ps_set (i := 2) sc_law_way.nd rfl (Or.inl rfl) (pe_lst pa_nil))
      (pss_cons (ps_for PassesOwn.never rfl (pi_range1 rfl T.b_range (pa_cons (pe_op op_add (pe_callB call_lenD (by rfl) T.b_len (by decide +kernel) (pa_cons (pe_ix ix_list (pv 0) pe_int (fun _ _ => rfl)) pa_nil)) pe_int) pa_nil)) (pg_name (i := 3) sc_law_way.nd rfl (Or.inl rfl))
      (pss_cons (ps_if (PW.pt (pw_or (pt_cmp (pc_dnotin hu (pv 1) (pe_ix ix_list (pv 0) pe_int (fun _ _ => rfl)))) (pw_or1 (pt_cmpR op_in_seq (pv 1) (pv 2) (by rfl))))) (pss_one (ps_ret (pe_tup (pa_cons (pv 2) (pa_cons (pv 1) pa_nil))))) pss_nil)
      (pss_cons (ps_expr (pe_bm PySem.F.plainAttrs_list PySem.F.slot_list_append PySem.F.type_list_append mt_append (pv 2) (pa_cons (pv 1) pa_nil)))
      (pss_one (ps_set (i := 1) sc_law_way.nd rfl (Or.inl rfl) (pe_dget hu (pe_ix ix_list (pv 0) pe_int (fun _ _ => rfl)) (pv 1) (fun _ _ => rfl)))))))
      (pss_one (ps_ret (pe_tup (pa_cons (pv 2) (pa_cons (pv 1) pa_nil))))))), ?_⟩
    have hz := dk.few
    refine ⟨Nat.zero_le _, fun l hl => ?_⟩
    have s0 : Same H (upd H l (.lst [])) := same_new hl
    refine ⟨_, rfl, s, _, 1, _, rfl, rfl, .inl (.inl (s0 _ _ h0)), at_snd, d, kC cs, rfl, s0 _ _ hd, _, _, rfl, rfl, _, rfl, ?_, ?_, ?_⟩
    · have := (kC cs).length
      omega
    · unfold kC
      rw [List.length_map]
      omega
    have ln1 : (((kC cs).length : Int) + 1).toNat = cs.length + 1 := by
      unfold kC
      rw [List.length_map]
      omega
    rw [ln1]
    refine for_range (lo := 0) (n := cs.length + 1) (fun i σ H' => Same H H' ∧ ∃ (a : List Int) (q : Int), ∃ x4, σ = [some (.ref s), some (.int q), some (.ref l), x4] ∧ H' l = some (.lst (a.map V.int)) ∧ a.length = i ∧ i ≤ cs.length + 1 ∧ steps cs (cs.length + 1 - i) a q = along cs p) ⟨s0, [], p, _, rfl, upd_same, rfl, Nat.zero_le _, rfl⟩ ?_ ?_
    · rintro i σ H1 hi ⟨s1, a, q, x4, rfl, hk, ha, hin, hst⟩
      have d1 := s1 _ _ hd
      have g1 := s1 _ _ h0
      obtain ⟨m, hm⟩ : ∃ m, cs.length + 1 - i = m + 1 := ⟨cs.length - i, by omega⟩
      have hm2 : cs.length + 1 - (i + 1) = m := by omega
      rw [hm] at hst
      refine ⟨_, rfl, _, rfl, s, _, 1, _, rfl, rfl, .inl (.inl g1), at_snd, d, _, rfl, DGet.k (k := (Sum.inl q : Key)) d1, _, rfl, ?_⟩
      rw [some_c]
      by_cases hc : isC cs q = true
      · rw [hc]
        refine iteF ⟨_, rfl, _, rfl, l, _, rfl, .inl (.inl (.inl hk)), rfl, flat_int _, _, rfl, ?_⟩
        show if inV (.int q) (a.map V.int) = true then _ else _
        rw [inV_int]
        by_cases hs : q ∈ a
        · rw [decide_eq_true hs]
          refine iteT ?_
          rw [steps_end (.inr hs)] at hst
          have e1 : a = (along cs p).1 := congrArg Prod.fst hst
          have e2 : q = (along cs p).2 := congrArg Prod.snd hst
          refine ⟨_, rfl, _, rfl, by show 2 ≤ sizeLine; exact sl_le (by decide), fun t ht => ?_⟩
          have st := same_new (o := .tup [V.ref l, V.int q]) ht
          exact k _ t l (s1.trans st) hl (by rw [upd_same, e2]) (by rw [← e1]; exact st _ _ hk)
        · rw [decide_eq_false hs]
          refine iteF ?_
          rw [steps_go hc hs] at hst
          refine ⟨_, rfl, .inl ⟨rfl, _, .inl (.inl hk)⟩, _, rfl, l, _, _, rfl, rfl, hk, by rw [List.length_map]; exact Nat.lt_of_lt_of_le (show a.length < 1000 by omega) (sl_le (by decide)), ?_⟩
          have nd : d ≠ l := ne_of_none hd hl
          have ng : s ≠ l := ne_of_none h0 hl
          refine ⟨_, rfl, s, _, 1, _, rfl, rfl, .inl (.inl (by rw [upd_ne ng]; exact g1)), at_snd, _, rfl, d, _, rfl, by rw [← get_nx hc]; exact DGet.k (k := (Sum.inl q : Key)) (by rw [upd_ne nd]; exact d1), ?_⟩
          refine ⟨fun b o e => by rw [upd_ne (ne_of_none e hl)]; exact s1 _ _ e, a ++ [q], nx cs q, _, rfl, by rw [upd_same, List.map_append]; rfl, by rw [List.length_append, ha]; rfl, by omega, by rw [hm2]; exact hst⟩
      · have hc' : isC cs q = false := by simpa using hc
        rw [hc']
        refine iteT (iteT ?_)
        rw [steps_end (.inl hc')] at hst
        have e1 : a = (along cs p).1 := congrArg Prod.fst hst
        have e2 : q = (along cs p).2 := congrArg Prod.snd hst
        refine ⟨_, rfl, _, rfl, by show 2 ≤ sizeLine; exact sl_le (by decide), fun t ht => ?_⟩
        have st := same_new (o := .tup [V.ref l, V.int q]) ht
        exact k _ t l (s1.trans st) hl (by rw [upd_same, e2]) (by rw [← e1]; exact st _ _ hk)
    · rintro σ H1 ⟨s1, a, q, x4, rfl, hk, ha, hin, hst⟩
      rw [Nat.sub_self] at hst
      have e1 : a = (along cs p).1 := congrArg Prod.fst hst
      have e2 : q = (along cs p).2 := congrArg Prod.snd hst
      refine ⟨_, rfl, _, rfl, by show 2 ≤ sizeLine; exact sl_le (by decide), fun t ht => ?_⟩
      have st := same_new (o := .tup [V.ref l, V.int q]) ht
      exact k _ t l (s1.trans st) hl (by rw [upd_same, e2]) (by rw [← e1]; exact st _ _ hk)
end
end K1
namespace K1
open PySem PySem.Spec L2 Z K6 K9
section
variable {P : Program} {w : World} {K : PySem.W.Frag} {mg : Str → Option Value} {base : Heap} {C : Addr}
theorem ok_law_reached (T : Txt K mg C) (G__law_way : Pr P w K mg base "_law_way" s_law_way 1 ["_law_store_here", "_law_at"] q_way) : Pr P w K mg base "_law_reached" s_law_reached 2 ["_law_store_here"] q_reached := by
  obtain ⟨f, fd, F, gl, bd⟩ := T.d__law_reached
  refine ⟨f, fd, F, gl, bd, F.ok sc_law_reached (fun vs H Q E h => ?_) (fun cdv A outer s H vs Q E hr h => ?_)⟩
  · obtain ⟨s, ns, cs, rfl, _⟩ := h
    rfl
  · obtain ⟨s, ns, cs, rfl, LS0, ok, dk, k⟩ := h
    have hu := hu_of hr
    refine ⟨_, (pss_cons (ps_set (i := 1) sc_law_reached.nd rfl (Or.inl rfl) (pe_lst pa_nil))
      (pss_cons (ps_for PassesOwn.never rfl (pi_list (pe_callB (cr_sortedDS rfl) (by rfl) T.b_sorted (by decide +kernel) (pa_cons (pe_ix ix_list (pv 0) pe_int (fun _ _ => rfl)) pa_nil))) (pg_name (i := 2) sc_law_reached.nd rfl (Or.inl rfl))
      (pss_one (ps_for PassesOwn.never rfl (pi_list (pe_ix ix_tup (pcall G__law_way (hr.mono (by decide)) (pa_cons (pv 0) (pa_cons (pe_dget hu (pe_ix ix_list (pv 0) pe_int (fun _ _ => rfl)) (pv 2) (fun _ _ => rfl)) pa_nil))) pe_int (fun _ _ => rfl))) (pg_name (i := 3) sc_law_reached.nd rfl (Or.inl rfl))
      (pss_one (ps_if (pt_cmpR (op_notIn_seqK (K := K) rfl) (pv 3) (pv 1) (by rfl)) (pss_one (ps_expr (pe_bm PySem.F.plainAttrs_list PySem.F.slot_list_append PySem.F.type_list_append mt_append (pv 1) (pa_cons (pv 3) pa_nil)))) pss_nil)))))
      (pss_one (ps_ret (pe_callB cr_sortedI (by rfl) T.b_sorted (by decide +kernel) (pa_cons (pv 1) pa_nil)))))), ?_⟩
    have n4 := ok.four
    have c9 := dk.few
    refine ⟨Nat.zero_le _, fun f hf => ?_⟩
    have s0 := same_new (o := .lst []) hf
    have ef : upd H f (.lst []) f = some (.lst (([] : List Int).map V.int)) := upd_same
    obtain ⟨d0, d1, h0, h1, h2⟩ := LS.same s0 LS0
    generalize upd H f (.lst []) = H1 at s0 ef h0 h1 h2 ⊢
    refine ⟨_, rfl, s, _, 0, _, rfl, rfl, .inl (.inl h0), at_first, d0, kN ns, _, rfl, .inl h1, strs_of_keys ns, by rw [List.length_map]; omega, fun ys p hp hs hpn => ?_⟩
    rw [lets_sorted ok hp hs]
    have s1 := same_new (o := .lst ((ns.map fun p => ch p.1).map V.str)) hpn
    have ep : upd H1 p (.lst ((ns.map fun p => ch p.1).map V.str)) p = some (.lst (ns.map fun q => V.str (ch q.1))) := by rw [upd_same, List.map_map]; rfl
    have ef2 := s1 _ _ ef
    have s02 := s0.trans s1
    have h0 := s1 _ _ h0
    have h1 := s1 _ _ h1
    have h2 := s1 _ _ h2
    generalize upd H1 p (.lst ((ns.map fun p => ch p.1).map V.str)) = H2 at ep ef2 s02 h0 h1 h2 ⊢
    have npf : p ≠ f := fun z => by rw [z, ef] at hpn; cases hpn
    refine ⟨p, rfl, ⟨_, .inl (.inl ep)⟩, ?_⟩
    refine for_list (xs := ns.map fun q => V.str (ch q.1)) (fun i σ H' => ∃ (x2 x3 : Option V) (a : List Int), σ = [some (.ref s), some (.ref f), x2, x3] ∧ Same H H' ∧ H' p = some (.lst (ns.map fun q => V.str (ch q.1))) ∧ LS H' s ns cs ∧ H' f = some (.lst (a.map V.int)) ∧ a.Nodup ∧ (∀ r ∈ a, isC cs r = true) ∧ ∀ z, z ∈ a ↔ ∃ q ∈ ns.take i, z ∈ (along cs q.2).1) ⟨_, _, [], rfl, s02, ep, ⟨d0, d1, h0, h1, h2⟩, ef2, List.nodup_nil, by simp, by simp⟩ (fun i σ H' _ h => by obtain ⟨_, _, _, _, _, h, _⟩ := h; exact .inl (.inl h)) ?_ ?_
    · rintro i xx σ H3 hx ⟨x2, x3, a, rfl, s3, ep3, LS3, ef3, nd, hall, hmem⟩
      obtain ⟨q, eq, rfl⟩ := map_at hx
      have hm : q ∈ ns := List.mem_of_getElem? eq
      obtain ⟨d0, d1, h0, h1, h2⟩ := id LS3
      have Dq : DGet H3 d0 (.str (ch q.1)) (some (.int q.2)) := val_n ok hm ▸ DGet.k (k := (Sum.inr (ch q.1) : Key)) h1
      refine ⟨_, rfl, _, rfl, s, _, 0, _, rfl, rfl, .inl (.inl h0), at_first, _, rfl, d0, _, rfl, Dq, s, q.2, ns, cs, rfl, LS3, dk, fun H4 t lw s4 hlw ht hl => ?_⟩
      refine ⟨t, _, 0, _, rfl, rfl, .inl (.inl ht), at_first, lw, rfl, ⟨_, .inl (.inl hl)⟩, ?_⟩
      have nlf : lw ≠ f := Ne.symm (ne_of_none ef3 hlw)
      have wc := (along_stop cs q.2).2.2
      generalize hw : (along cs q.2).1 = w at hl wc ⊢
      refine for_list (xs := w.map V.int) (fun n σ H' => ∃ (x3 : Option V) (b : List Int), σ = [some (.ref s), some (.ref f), some (.str (ch q.1)), x3] ∧ Same H H' ∧ H' p = some (.lst (ns.map fun q => V.str (ch q.1))) ∧ LS H' s ns cs ∧ H' lw = some (.lst (w.map V.int)) ∧ H' f = some (.lst (b.map V.int)) ∧ b.Nodup ∧ (∀ r ∈ b, isC cs r = true) ∧ ∀ z, z ∈ b ↔ z ∈ a ∨ z ∈ w.take n) ⟨_, a, rfl, s3.trans s4, s4 _ _ ep3, LS.same s4 LS3, hl, s4 _ _ ef3, nd, hall, by simp⟩ (fun i σ H' _ h => by obtain ⟨_, _, _, _, _, _, h, _⟩ := h; exact .inl (.inl h)) ?_ ?_
      · rintro n xx σ H5 hx ⟨x3, b, rfl, s5, ep5, LS5, hl5, ef5, nd5, hall5, hmem5⟩
        obtain ⟨z, ez, rfl⟩ := map_at hx
        have zc := wc z (List.mem_of_getElem? ez)
        refine ⟨_, rfl, _, rfl, f, _, rfl, .inl (.inl (.inl ef5)), rfl, flat_int _, _, rfl, ?_⟩
        show if (!inV (.int z) (b.map V.int)) = true then _ else _
        rw [inV_int]
        by_cases hb : z ∈ b
        · rw [decide_eq_true hb]
          refine iteF ⟨_, b, rfl, s5, ep5, LS5, hl5, ef5, nd5, hall5, fun y => ?_⟩
          rw [hmem5, List.take_add_one, ez]
          have := (hmem5 z).mp hb
          simp only [List.mem_append, Option.toList_some, List.mem_singleton]
          constructor
          · rintro (h | h)
            · exact .inl h
            · exact .inr (.inl h)
          · rintro (h | h | rfl)
            · exact .inl h
            · exact .inr h
            · exact this
        · rw [decide_eq_false hb]
          refine iteT ?_
          have bl := seen_len nd5 hall5
          refine ⟨_, rfl, .inl ⟨rfl, _, .inl (.inl ef5)⟩, _, rfl, f, _, _, rfl, rfl, ef5, by rw [List.length_map]; exact Nat.lt_of_lt_of_le (show b.length < 1000 by omega) (sl_le (by decide)), ?_⟩
          have fre : ∀ {c : Addr} {o : HO}, H5 c = some o → c ≠ f → upd H5 f (.lst (b.map V.int ++ [V.int z])) c = some o := fun e n => by
            rw [upd_ne n]
            exact e
          have LS6 : LS (upd H5 f (.lst (b.map V.int ++ [V.int z]))) s ns cs := by
            obtain ⟨e0, e1, g0, g1, g2⟩ := LS5
            obtain ⟨y0, y1, z0, _, _⟩ := LS0
            exact ⟨e0, e1, fre g0 (ne_of_none z0 hf), fre g1 (fun z => by rw [z, ef5] at g1; cases g1), fre g2 (fun z => by rw [z, ef5] at g2; cases g2)⟩
          refine ⟨_, b ++ [z], rfl, fun c o e => fre (s5 _ _ e) (ne_of_none e hf), fre ep5 npf, LS6, fre hl5 nlf, by rw [upd_same, List.map_append]; rfl, nodup_snoc nd5 hb, fun r hr => ?_, fun y => ?_⟩
          · rcases List.mem_append.mp hr with h | h
            · exact hall5 r h
            · rw [List.mem_singleton.mp h]
              exact zc
          · rw [List.take_add_one, ez]
            simp only [List.mem_append, Option.toList_some, List.mem_singleton, hmem5, or_assoc]
      rintro σ H5 ⟨x3, b, rfl, s5, ep5, LS5, hl5, ef5, nd5, hall5, hmem5⟩
      rw [List.length_map, List.take_length] at hmem5
      refine ⟨_, _, b, rfl, s5, ep5, LS5, ef5, nd5, hall5, fun z => ?_⟩
      rw [hmem5, hmem, List.take_add_one, eq, ← hw]
      constructor
      · rintro (⟨r, hr, h⟩ | h)
        · exact ⟨r, List.mem_append_left _ hr, h⟩
        · exact ⟨q, List.mem_append_right _ List.mem_cons_self, h⟩
      · rintro ⟨r, hr, h⟩
        rcases List.mem_append.mp hr with g | g
        · exact .inl ⟨r, g, h⟩
        · cases List.mem_singleton.mp g
          exact .inr h
    rintro σ H3 ⟨x2, x3, a, rfl, s3, ep3, LS3, ef3, nd, hall, hmem⟩
    rw [List.length_map, List.take_length] at hmem
    refine ⟨_, rfl, f, a, rfl, .inl (.inl ef3), fun ys q perm asc hq => ?_⟩
    refine k _ q ys (s3.trans (same_new hq)) (none_of s3 hq) upd_same fun z => ?_
    rw [perm.mem_iff, hmem, mem_come]
end
end K1
namespace K1
open PySem PySem.Spec L2 Z K6 K9
section
variable {P : Program} {w : World} {K : PySem.W.Frag} {mg : Str → Option Value} {base : Heap} {C : Addr}
theorem ok_law_rings (T : Txt K mg C) (G__law_reached : Pr P w K mg base "_law_reached" s_law_reached 2 ["_law_store_here"] q_reached) (G__law_way : Pr P w K mg base "_law_way" s_law_way 1 ["_law_store_here", "_law_at"] q_way) : Pr P w K mg base "_law_rings" s_law_rings 3 ["_law_store_here"] (q_rings K) := by
  obtain ⟨f, fd, F, gl, bd⟩ := T.d__law_rings
  refine ⟨f, fd, F, gl, bd, F.ok sc_law_rings (fun vs H Q E h => ?_) (fun cdv A outer s H vs Q E hr h => ?_)⟩
  · obtain ⟨s, ns, cs, rfl, _⟩ := h
    rfl
  · obtain ⟨s, ns, cs, rfl, LS0, ok, dk, k⟩ := h
    have hu := hu_of hr
    refine ⟨_, (pss_cons (ps_par (i := 1) (j := 2) rfl sc_law_rings.nd rfl rfl (by decide) rfl rfl (pa_cons (pcall G__law_reached (hr.mono (by decide)) (pa_cons (pv 0) pa_nil)) (pa_cons (pe_lst pa_nil) pa_nil)) (by rfl))
      (pss_cons (ps_for PassesOwn.never rfl (pi_list (pe_callB (call_sortedDI rfl) (by rfl) T.b_sorted (by decide +kernel) (pa_cons (pe_ix ix_list (pv 0) pe_int (fun _ _ => rfl)) pa_nil))) (pg_name (i := 3) sc_law_rings.nd rfl (Or.inl rfl))
      (pss_cons (ps_asg (pcall G__law_way (hr.mono (by decide)) (pa_cons (pv 0) (pa_cons (pv 3) pa_nil))) (pg_tup rfl (pgs_cons (pg_name (i := 4) sc_law_rings.nd rfl (Or.inl rfl)) (pgs_cons (pg_name (i := 5) sc_law_rings.nd rfl (Or.inl rfl)) pgs_nil))))
      (pss_one (ps_if (PW.pt (pw_and (pt_cmpR (op_notIn_seqK (K := K) rfl) (pv 3) (pv 1) (by rfl)) (pw_and (pt_cmpR op_eq (pv 5) (pv 3) (nomark _)) (pw_and1 (pt_cmpR op_eq (pe_callB (cr_min rfl) (by rfl) T.b_min (by decide +kernel) (pa_cons (pv 4) pa_nil)) (pv 3) (nomark _)))))) (pss_one (ps_expr (pe_bm PySem.F.plainAttrs_list PySem.F.slot_list_append PySem.F.type_list_append mt_append (pv 2) (pa_cons (pe_callTy call_tupP (by rfl) T.b_tuple (by decide +kernel) (pa_cons (pv 4) pa_nil)) pa_nil)))) pss_nil))))
      (pss_one (ps_ret (pv 2))))), ?_⟩
    have c9 := dk.few
    obtain ⟨C', hC⟩ : ∃ C', C' = come cs ns := ⟨_, rfl⟩
    refine ⟨_, rfl, s, ns, cs, rfl, LS0, ok, dk, fun H1 pc ys s1 hpc hys hmem => ⟨Nat.zero_le _, fun f hf => ⟨_, _, rfl, ?_⟩⟩⟩
    rw [← hC] at hmem k
    have s2 := same_new (o := .lst []) hf
    have ef : upd H1 f (.lst []) f = some (.lst (([] : List Addr).map V.ref)) := upd_same
    have hys2 := s2 _ _ hys
    have s02 := s1.trans s2
    have hf0 := none_of s1 hf
    obtain ⟨d0, d1, h0, h1, h2⟩ := LS.same s02 LS0
    generalize upd H1 f (.lst []) = H2 at s2 ef hys2 s02 h0 h1 h2 ⊢
    refine ⟨_, rfl, s, _, 1, _, rfl, rfl, .inl (.inl h0), at_snd, d1, kC cs, _, rfl, .inl h2, ints_of_keys cs, by rw [List.length_map]; omega, fun zs q hz1 hz2 hq => ?_⟩
    obtain rfl := keys_sorted dk.nd hz1 hz2
    obtain ⟨ks, hks⟩ : ∃ ks, ks = (srt cs).map (·.1) := ⟨_, rfl⟩
    rw [← hks] at k ⊢
    have kl : ks.length ≤ 11 := by rw [hks, List.length_map, (srt_perm cs).length_eq]; exact c9
    have kC_ : ∀ z ∈ ks, isC cs z = true := fun z hz => by
      rw [hks] at hz
      exact isC_mem.mpr (((srt_perm cs).map _).mem_iff.mp hz)
    have s3 := same_new (o := .lst (ks.map V.int)) hq
    have eq3 : upd H2 q (.lst (ks.map V.int)) q = some (.lst (ks.map V.int)) := upd_same
    have ef3 := s3 _ _ ef
    have hys3 := s3 _ _ hys2
    have s03 := s02.trans s3
    have nqf : q ≠ f := fun z => by rw [z, ef] at hq; cases hq
    generalize upd H2 q (.lst (ks.map V.int)) = H3 at eq3 ef3 hys3 s03 ⊢
    have ypc : pc ≠ f := ne_of_none hys hf
    refine ⟨q, rfl, ⟨_, .inl (.inl eq3)⟩, ?_⟩
    refine for_list (xs := ks.map V.int) (fun i σ H' => ∃ (x3 x4 x5 : Option V) (rs : List Addr), σ = [some (.ref s), some (.ref pc), some (.ref f), x3, x4, x5] ∧ Same H H' ∧ H' q = some (.lst (ks.map V.int)) ∧ H' pc = some (.lst (ys.map V.int)) ∧ H' f = some (.lst (rs.map V.ref)) ∧ Paired (fun b (l : List Int) => SqT K H' b (l.map V.int)) rs (rings cs C' (ks.take i)) ∧ rs.length ≤ i) ?_ (fun i σ H' _ h => by obtain ⟨_, _, _, _, _, _, h, _⟩ := h; exact .inl (.inl h)) ?_ ?_
    · exact ⟨_, _, _, [], rfl, s03, eq3, hys3, ef3, .nil, Nat.zero_le _⟩
    · rintro i xx σ H4 hx ⟨x3, x4, x5, rs, rfl, s4, eq4, hys4, ef4, pr4, rl⟩
      obtain ⟨z, ez, rfl⟩ := map_at hx
      have zc := kC_ z (List.mem_of_getElem? ez)
      have il := (List.getElem?_eq_some_iff.mp ez).1
      have LS4 := LS.same s4 LS0
      refine ⟨_, rfl, _, rfl, s, z, ns, cs, rfl, LS4, dk, fun H5 t lw s5 hlw ht hl => ⟨t, _, rfl, .inl (.inl ht), rfl, _, _, rfl, _, _, rfl, rfl, ?_⟩⟩
      have eq5 := s5 _ _ eq4
      have hys5 := s5 _ _ hys4
      have ef5 := s5 _ _ ef4
      have pr5 := prd_imm (.of s5) pr4
      have s05 := s4.trans s5
      have tk : rings cs C' (ks.take (i + 1)) = rings cs C' (ks.take i) ++ (if ringB cs C' z = true then [(along cs z).1] else []) := by
        unfold rings
        rw [List.take_add_one, ez, List.filter_append, List.map_append]
        by_cases h : ringB cs C' z = true
        · simp [h]
        · simp [h]
      have aw := along_stop cs z
      refine ⟨_, rfl, _, rfl, pc, _, rfl, .inl (.inl (.inl hys5)), rfl, flat_int _, _, rfl, ?_⟩
      show if (!inV (.int z) (ys.map V.int)) = true then _ else _
      rw [inV_int, decide_eq_decide.mpr (hmem z)]
      by_cases hzC : z ∈ C'
      · rw [decide_eq_true hzC]
        refine iteF (iteF ⟨_, _, _, rs, rfl, s05, eq5, hys5, ef5, ?_, by omega⟩)
        rw [tk, if_neg (by unfold ringB; rw [decide_eq_true hzC]; simp), List.append_nil]
        exact pr5
      · rw [decide_eq_false hzC]
        refine iteT ⟨_, rfl, _, rfl, ?_⟩
        refine ⟨rfl, _, rfl, ?_⟩
        have skip : ringB cs C' z = false → Paired (fun b (l : List Int) => SqT K H5 b (l.map V.int)) rs (rings cs C' (ks.take (i + 1))) := fun h => by
          rw [tk, h, if_neg Bool.false_ne_true, List.append_nil]
          exact pr5
        by_cases he : (along cs z).2 = z
        · have zin : z ∈ (along cs z).1 := by
            rcases aw.1 with y | y
            · rw [he, zc] at y
              cases y
            · rw [he] at y
              exact y
          have wl : (along cs z).1.length ≤ 11 := Nat.le_trans (seen_len aw.2.1 aw.2.2) c9
          refine ifT (decide_eq_true (by rw [he])) ⟨_, rfl, lw, _, rfl, .inl (.inl hl), List.length_pos_of_mem zin, fun mn hmn hle => ⟨_, rfl, rfl, _, rfl, ?_⟩⟩
          by_cases hmz : mn = z
          · subst hmz
            refine ifT (decide_eq_true rfl) ?_
            have rb : ringB cs C' mn = true := by
              unfold ringB
              rw [decide_eq_false hzC, decide_eq_true he]
              simpa using hle
            refine ⟨_, rfl, .inl ⟨rfl, _, .inl (.inl ef5)⟩, _, rfl, lw, _, rfl, .inl (.inl hl), fun t2 o2 ht2 ho2 => ?_⟩
            have s6 := same_new (o := .frz o2 (.tup ((along cs mn).1.map V.int))) ht2
            have pt : PT (upd H5 t2 (.frz o2 (.tup ((along cs mn).1.map V.int)))) t2 ((along cs mn).1.map V.int) := PT.new ho2
            have ef6 := s6 _ _ ef5
            refine ⟨f, _, _, rfl, rfl, ef6, by rw [List.length_map]; exact Nat.lt_of_lt_of_le (show rs.length < 1000 by omega) (sl_le (by decide)), ?_⟩
            have s06 := s05.trans s6
            have eq6 := s6 _ _ eq5
            have hys6 := s6 _ _ hys5
            have pr6 := prd_imm (.of s6) pr5
            generalize upd H5 t2 (.frz o2 (.tup ((along cs mn).1.map V.int))) = H6 at s6 pt ef6 s06 eq6 hys6 pr6 ⊢
            refine ⟨_, _, _, rs ++ [t2], rfl, fun c o e => ?_, by rw [upd_ne nqf]; exact eq6, by rw [upd_ne ypc]; exact hys6, by rw [upd_same, List.map_append]; rfl, ?_, by rw [List.length_append]; show rs.length + 1 ≤ i + 1; omega⟩
            · rw [upd_ne (ne_of_none e hf0)]
              exact s06 _ _ e
            · rw [tk, rb, if_pos rfl]
              exact prd_imm (Chg.upd.imm ef6 trivial) (Paired.snoc (F := fun b (l : List Int) => SqT K H6 b (l.map V.int)) pt.sq pr6)
          · refine ifF (decide_eq_false (by simpa using hmz)) ⟨_, _, _, rs, rfl, s05, eq5, hys5, ef5, skip ?_, by omega⟩
            unfold ringB
            rw [decide_eq_true he]
            have : ((along cs z).1.all fun q => decide (z ≤ q)) = false := by
              rw [List.all_eq_false]
              refine ⟨mn, hmn, ?_⟩
              have := hle z zin
              simp
              omega
            rw [this]
            simp
        · refine ifF (decide_eq_false (by simpa using he)) (ifF rfl ⟨_, _, _, rs, rfl, s05, eq5, hys5, ef5, skip ?_, by omega⟩)
          unfold ringB
          rw [decide_eq_false he]
          simp
    rintro σ H4 ⟨x3, x4, x5, rs, rfl, s4, eq4, hys4, ef4, pr4, rl⟩
    rw [List.length_map, List.take_length] at pr4
    exact ⟨_, rfl, k H4 f s4 hf0 ⟨rs, ef4, pr4⟩⟩
end
end K1
namespace K1
open PySem PySem.Spec L2 Z K6 K9
section
variable {P : Program} {w : World} {K : PySem.W.Frag} {mg : Str → Option Value} {base : Heap} {C : Addr}
theorem ok_law_text (T : Txt K mg C)  : Pr P w K mg base "_law_text" s_law_text 1 ["_law_store_here"] q_text := by
  obtain ⟨f, fd, F, gl, bd⟩ := T.d__law_text
  refine ⟨f, fd, F, gl, bd, F.ok sc_law_text (fun vs H Q E h => ?_) (fun cdv A outer s H vs Q E hr h => ?_)⟩
  · obtain ⟨s, ns, cs, rfl, _⟩ := h
    rfl
  · obtain ⟨s, ns, cs, rfl, ⟨d0, d1, h0, h1, h2⟩, ok, dok, k⟩ := h
    have hu := hu_of hr
    refine ⟨_, (pss_cons (ps_setLc (i := 1) (own := [("_law_letter", 3)]) (g := gName 3) (tt := tYes) rfl sc_law_text.nd rfl rfl (sw_true rfl rfl rfl (by decide +kernel)) (pi_list (pe_callB (cr_sortedDS rfl) (by rfl) T.b_sorted (by decide +kernel) (pa_cons (pe_ix (ix_listK (K := K) rfl) (pv 0) pe_int (fun _ _ => rfl)) pa_nil))) (blkOk_by (own := [("_law_letter", 3)]) (N := N_law_text) (sc := defScope s_law_text) (by decide +kernel)) (fun _ _ _ _ _ => (pg_name (i := 3) sc_law_text.nd rfl (Or.inl rfl))) (fun _ _ _ _ _ => pts_nil) (fun _ _ _ _ _ => (pe_op op_add_str (pe_op op_add_str (pv 3) pe_str) (pe_callTy call_str_int (by rfl) T.b_str (by decide +kernel) (pa_cons (pe_dget hu (pe_ix (ix_listK (K := K) rfl) (pv 0) pe_int (fun _ _ => rfl)) (pv 3) (fun _ _ => rfl)) pa_nil)))))
      (pss_cons (ps_setLc (i := 2) (own := [("_law_at", 4)]) (g := gName 4) (tt := tYes) rfl sc_law_text.nd rfl rfl (sw_true rfl rfl rfl (by decide +kernel)) (pi_list (pe_callB (call_sortedDI rfl) (by rfl) T.b_sorted (by decide +kernel) (pa_cons (pe_ix (ix_listK (K := K) rfl) (pv 0) pe_int (fun _ _ => rfl)) pa_nil))) (blkOk_by (own := [("_law_at", 4)]) (N := N_law_text) (sc := defScope s_law_text) (by decide +kernel)) (fun _ _ _ _ _ => (pg_name (i := 4) sc_law_text.nd rfl (Or.inl rfl))) (fun _ _ _ _ _ => pts_nil) (fun _ _ _ _ _ => (pe_op op_add_str (pe_op op_add_str (pe_callTy call_str_int (by rfl) T.b_str (by decide +kernel) (pa_cons (pv 4) pa_nil)) pe_str) (pe_callTy call_str_int (by rfl) T.b_str (by decide +kernel) (pa_cons (pe_dget hu (pe_ix (ix_listK (K := K) rfl) (pv 0) pe_int (fun _ _ => rfl)) (pv 4) (fun _ _ => rfl)) pa_nil)))))
      (pss_one (ps_ret (pe_join pe_str (pe_op op_cat (pe_op op_cat (pv 1) (pe_lst (pa_cons pe_str pa_nil))) (pe_ifExp (pt_cmpR (op_neDK (K := K) rfl (show (Around.deeper A _).units + 64 < cLine from hr.units)) (pv 2) (pe_lst pa_nil) (nomark _)) (pv 2) (pe_lst (pa_cons pe_str pa_nil))))))))), ?_⟩
    have ck := srt_ok dok
    have n4 := ok.four
    have c9 := dok.few
    have sl9 : (srt cs).length ≤ 11 := by rw [(srt_perm cs).length_eq]; exact c9
    unfold tAsg tSeq
    dsimp only
    refine lcL ns (fun p => V.str (ch p.1)) (fun _ => true) (fun p => V.str (nameW p)) (by omega) (fun R hR => ?_) (fun p H' R1 R2 hm sm q1 q2 => ?_) (fun H1 D1 s1 hD1 hl1 => ?_)
    · refine ⟨_, rfl, s, _, 0, _, rfl, rfl, .inl (.inl h0), at_first, d0, kN ns, _, rfl, .inl h1, strs_of_keys ns, by rw [List.length_map]; omega, fun ys p hp hs hpn => ?_⟩
      rw [lets_sorted ok hp hs]
      exact hR p _ (same_new hpn) (.inl (.inl (by rw [upd_same, List.map_map]; rfl)))
    · obtain ⟨p1, p2⟩ := ok.pl p hm
      have n2 := num_len p1 p2
      have D : DGet H' d0 (.str (ch p.1)) (some (.int p.2)) := val_n ok hm ▸ DGet.k (k := (Sum.inr (ch p.1) : Key)) (sm _ _ h1)
      refine ⟨rfl, yesI ⟨_, rfl, _, _, rfl, rfl, sl_le (by rw [ch_len, eq1_len]; decide), _, rfl, s, _, 0, _, rfl, rfl, .inl (.inl (sm _ _ h0)), at_first, _, rfl, d0, _, rfl, D, p.2, rfl, num_log p1 p2, _, _, rfl, rfl, sl_le ?_, q2 _ (fun _ _ h => h) rfl⟩⟩
      rw [len_app, ch_len, eq1_len]
      exact Nat.le_trans (Nat.add_le_add_left n2 2) (by decide)
    rw [all_true] at hl1
    have h0a := s1 _ _ h0
    have h2a := s1 _ _ h2
    unfold gName
    dsimp only
    refine lcL (srt cs) (fun p => V.int p.1) (fun _ => true) (fun p => V.str (cellW p)) (by omega) (fun R hR => ?_) (fun p H' R1 R2 hm sm q1 q2 => ?_) (fun H2 D2 s2 hD2 hl2 => ?_)
    · refine ⟨_, rfl, s, _, 1, _, rfl, rfl, .inl (.inl h0a), at_snd, d1, kC cs, _, rfl, .inl h2a, ints_of_keys cs, by rw [List.length_map]; omega, fun ys p hp hs hpn => ?_⟩
      rw [keys_sorted dok.nd hp hs]
      exact hR p _ (same_new hpn) (.inl (.inl (by rw [upd_same, List.map_map]; rfl)))
    · obtain ⟨p1, p2, p3, p4⟩ := ck.pl p hm
      have p0 : 0 ≤ p.1 := by omega
      have n1 := num_len p0 p2
      have n2 := num_len p3 p4
      have pm := (srt_perm cs).mem_iff.mp hm
      have D : DGet H' d1 (.int p.1) (some (.int p.2)) := by
        have := val_c (List.mem_map_of_mem (f := (·.1)) pm)
        rw [val_of dok.nd pm] at this
        exact this ▸ DGet.k (k := (Sum.inl p.1 : Key)) (sm _ _ h2a)
      refine ⟨rfl, yesI ⟨_, rfl, p.1, rfl, num_log p0 p2, _, _, rfl, rfl, sl_le ?_, _, rfl, s, _, 1, _, rfl, rfl, .inl (.inl (sm _ _ h0a)), at_snd, _, rfl, d1, _, rfl, D, p.2, rfl, num_log p3 p4, _, _, rfl, rfl, sl_le ?_, q2 _ (fun _ _ h => h) rfl⟩⟩
      · rw [gt1_len]
        exact Nat.le_trans (Nat.add_le_add_right n1 1) (by decide)
      · rw [len_app, gt1_len]
        exact Nat.le_trans (Nat.add_le_add (Nat.add_le_add_right n1 1) n2) (by decide)
    rw [all_true] at hl2
    have hl1a := s2 _ _ hl1
    have one : (1 : Nat) ≤ sizeLine := sl_le (by decide)
    refine ⟨⟨_, rfl⟩, _, rfl, one, fun b hb => ?_⟩
    have s3 := same_new (o := .lst [V.str (Str.ofString "|")]) hb
    have eb : upd H2 b (.lst [V.str (Str.ofString "|")]) b = some (.lst [V.str (Str.ofString "|")]) := upd_same
    generalize upd H2 b (.lst [V.str (Str.ofString "|")]) = H3 at s3 eb ⊢
    refine ⟨D1, b, _, _, rfl, rfl, s3 _ _ hl1a, eb, sl_le (by rw [List.length_map]; show ns.length + 1 ≤ 100000; omega), fun b2 hb2 => ?_⟩
    have s4 := same_new (o := .lst (ns.map (fun p => V.str (nameW p)) ++ [V.str (Str.ofString "|")])) hb2
    have eb2 : upd H3 b2 (.lst (ns.map (fun p => V.str (nameW p)) ++ [V.str (Str.ofString "|")])) b2 = some (.lst (ns.map (fun p => V.str (nameW p)) ++ [V.str (Str.ofString "|")])) := upd_same
    generalize upd H3 b2 (.lst (ns.map (fun p => V.str (nameW p)) ++ [V.str (Str.ofString "|")])) = H4 at s4 eb2 ⊢
    refine ⟨_, rfl, Nat.zero_le _, fun e he => ?_⟩
    have s5 := same_new (o := .lst []) he
    have ee : upd H4 e (.lst []) e = some (.lst []) := upd_same
    generalize upd H4 e (.lst []) = H5 at s5 ee ⊢
    have hl25 := s5 _ _ (s4 _ _ (s3 _ _ hl2))
    have s25 : Same H H5 := s1.trans (s2.trans (s3.trans (s4.trans s5)))
    refine ⟨_, _, .lst (.inl (.inl hl25)) (by rw [show (srt cs).map (fun p => V.str (cellW p)) = ((srt cs).map cellW).map V.str by rw [List.map_map]; rfl]; exact K6.dp_strs _), .lst (.inl (.inl ee)) .nil, shape_cells ck, by decide +kernel, _, rfl, ?_⟩
    rw [eqv_snil]
    have fin : ∀ H' q (ws : List Str), Same H5 H' → H' q = some (.lst (ws.map V.str)) → ws = cellWords (srt cs) → ∀ R : VK, (∀ r H'', Same H' H'' → H'' r = some (.lst ((ns.map nameW ++ [Str.ofString "|"] ++ cellWords (srt cs)).map V.str)) → R (.ref r) H'') → rCat (.ref b2) (.ref q) H' R := fun H' q ws sm hq e R hR => by
      refine ⟨b2, q, _, _, rfl, rfl, sm _ _ (s5 _ _ eb2), hq, ?_, fun r hr => hR r _ (same_new hr) ?_⟩
      · have : ws.length ≤ 11 := by
          rw [e]
          unfold cellWords
          split
          · decide
          · rw [List.length_map]
            exact sl9
        rw [List.length_append, List.length_map, List.length_map]
        exact sl_le (by show ns.length + 1 + ws.length ≤ 100000; omega)
      · rw [upd_same, e, List.map_append, List.map_append, List.map_map]
        rfl
    by_cases hc : srt cs = []
    · refine ifF (by rw [hc]; decide) ⟨one, fun q hq => fin _ q [Str.ofString "none"] (same_new hq) upd_same (by unfold cellWords; rw [if_pos hc]) _ fun r H6 s6 hr => ⟨_, r, _, rfl, rfl, .inl (.inl (.inl hr)), words_len ok ck sl9, ?_⟩⟩
      rw [join_store ok]
      exact k H6 (s25.trans ((same_new hq).trans s6))
    · refine ifT (by simpa using hc) ⟨_, rfl, fin _ D2 ((srt cs).map cellW) (fun _ _ h => h) (by rw [hl25, List.map_map]; rfl) (by unfold cellWords; rw [if_neg hc]) _ fun r H6 s6 hr => ⟨_, r, _, rfl, rfl, .inl (.inl (.inl hr)), words_len ok ck sl9, ?_⟩⟩
      rw [join_store ok]
      exact k H6 (s25.trans s6)
end
end K1
namespace K1
open PySem PySem.Spec L2 Z K6 K9
section
variable {P : Program} {w : World} {K : PySem.W.Frag} {mg : Str → Option Value} {base : Heap} {C : Addr}
theorem ok_need_store (T : Txt K mg C)  : Pr P w K mg base "need_store" s_need_store 1 ["value"] (q_need_store K C) := by
  obtain ⟨f, fd, F, gl, bd⟩ := T.d_need_store
  refine ⟨f, fd, F, gl, bd, F.ok sc_need_store (fun vs H Q E h => ?_) (fun cdv A outer s H vs Q E hr h => ?_)⟩
  · obtain ⟨x, ns, cs, rfl, _⟩ := h
    rfl
  · obtain ⟨x, ns, cs, rfl, ⟨v, u, dx, pd, ad, ld, ks, S⟩, k⟩ := h
    have hu := hu_of hr
    refine ⟨_, (pss_one (ps_if (pt_not (pt_val (pe_callB call_isi (by rfl) T.b_isinstance (by decide +kernel) (pa_cons (pv 0) (pa_cons (pe_glob (v := V.ref C) rfl T.mgC rfl) pa_nil))))) (pss_one ps_never) pss_nil)), ?_⟩
    refine ⟨_, rfl, _, _, _, _, true, rfl, .own C, .base (.ins S.ob T.cl T.isC T.isG T.isT T.isM), T.k_self, _, rfl, iteF ?_⟩
    exact k
end
end K1
namespace K1
open PySem PySem.Spec L2 Z K6 K9
section
variable {P : Program} {w : World} {K : PySem.W.Frag} {mg : Str → Option Value} {base : Heap} {C : Addr}
theorem ok_unasked (T : Txt K mg C) (G_need_store : Pr P w K mg base "need_store" s_need_store 1 ["value"] (q_need_store K C)) : Pr P w K mg base "unasked" s_unasked 2 ["store"] (q_unasked K C) := by
  obtain ⟨f, fd, F, gl, bd⟩ := T.d_unasked
  refine ⟨f, fd, F, gl, bd, F.ok sc_unasked (fun vs H Q E h => ?_) (fun cdv A outer s H vs Q E hr h => ?_)⟩
  · obtain ⟨x, ns, cs, rfl, _⟩ := h
    rfl
  · obtain ⟨x, ns, cs, rfl, hS, k⟩ := h
    have hu := hu_of hr
    refine ⟨_, (pss_cons (ps_expr (pcall G_need_store (hr.mono (by decide)) (pa_cons (pv 0) pa_nil)))
      (pss_one (ps_ret (pe_callTy call_tupP (by rfl) T.b_tuple (by decide +kernel) (pa_cons (pe_lc (own := [("place", 1), ("_", 2)]) (g := gTup K 2 (gCons (gName 1) (gCons (gName 2) gNil))) rfl sc_unasked.nd (pi_tup (pe_fld (pv 0) rfl)) (blkOk_by (own := [("place", 1), ("_", 2)]) (N := N_unasked) (sc := defScope s_unasked) (by decide +kernel)) (fun _ _ _ _ _ => (pg_tup rfl (pgs_cons (pg_name (i := 1) sc_unasked.nd rfl (Or.inl rfl)) (pgs_cons (pg_name (i := 2) sc_unasked.nd rfl (Or.inl rfl)) pgs_nil)))) (fun _ _ _ _ _ => (pts_one (pt_cmp (pc_dnotin hu (pv 1) (pe_fldK (K := K) rfl (pv 0) rfl))))) (fun _ _ _ _ _ => (pv 1))) pa_nil))))), ?_⟩
    refine ⟨_, rfl, x, ns, cs, rfl, hS, ?_⟩
    obtain ⟨v, u, dx, pd, ad, ld, ks, S⟩ := hS
    obtain ⟨a0, rs, hv0, ht, hp⟩ := S.ce
    subst hv0
    have c4 := S.cok.few
    unfold gName tRet tCB tCons
    dsimp only
    refine lcPc cV (fun p => V.int p.1) (fun p => !decide (p.1 ∈ goals ns cs)) (fun R hR => ⟨_, rfl, x, C, dx, _, _, rfl, S.ob, T.cl, T.n_cells, rfl, hR⟩) ht hp (by omega) (fun b p H' R R2 sm hq hm h1 h2 => ?_) ?_ ?_ (fun H' D sm hD hl => ?_)
    · refine ⟨b, _, rfl, hq, rfl, _, _, rfl, _, _, rfl, rfl, rfl, _, rfl, _, rfl, x, C, dx, _, _, rfl, sm _ _ S.ob, T.cl, T.n_led_to, rfl, ld, _, rfl, DGet.k (k := (Sum.inl p.1 : Key)) (sm _ _ S.ld_), _, rfl, rfl, ?_⟩
      rw [S.led]
      cases hb : decide (p.1 ∈ goals ns cs) with
      | true => exact iteF (h2 (by rw [hb]; rfl))
      | false => exact iteT ⟨_, rfl, h1 (by rw [hb]; rfl)⟩
    · rintro b σ H' Q1 Q2 m ⟨a, xs, e1, e2, e3, v1, r1, e4, v2, r2, e5, e6, q⟩
      exact ⟨a, xs, e1, e2, e3, v1, r1, e4, v2, r2, e5, e6, m _ _ q⟩
    · rintro σ H' Q1 Q2 m ⟨v1, e1, v2, e2, a, C', dx', fs, v3, q1, q2, q3, q4, q5, d, o, q6, q7, k2, q8, q⟩
      exact ⟨v1, e1, v2, e2, a, C', dx', fs, v3, q1, q2, q3, q4, q5, d, o, q6, q7, k2, q8, m _ _ q⟩
    refine ⟨D, _, rfl, .inl (.inl hl), fun q o hq ho => ?_⟩
    refine k _ q (sm.trans (same_new hq)) ?_
    have e : (((cs.map (·.1)).filter fun z => !decide (z ∈ goals ns cs)).map V.int) = (cs.filter fun p => !decide (p.1 ∈ goals ns cs)).map fun p => V.int p.1 := by
      rw [List.filter_map, List.map_map]
      rfl
    rw [e]
    exact PT.new ho
end
end K1
namespace K1
open PySem PySem.Spec L2 Z K6 K9
section
variable {P : Program} {w : World} {K : PySem.W.Frag} {mg : Str → Option Value} {base : Heap} {C : Addr}
theorem ok_led_to (T : Txt K mg C)  : Pr P w K mg base "_led_to" s_led_to 1 ["places", "arrows"] q_led_to := by
  obtain ⟨f, fd, F, gl, bd⟩ := T.d__led_to
  refine ⟨f, fd, F, gl, bd, F.ok sc_led_to (fun vs H Q E h => ?_) (fun cdv A outer s H vs Q E hr h => ?_)⟩
  · obtain ⟨l, d, cs, rfl, _⟩ := h
    rfl
  · obtain ⟨l, d, cs, rfl, hl, hd, c4, k⟩ := h
    have hu := hu_of hr
    refine ⟨_, (pss_cons (ps_set (i := 2) sc_led_to.nd rfl (Or.inl rfl) pe_dnewK)
      (pss_cons (ps_for PassesOwn.never rfl (pi_list (pe_op op_cat (pv 0) (pe_listVals rfl (pv 1) (by rfl) T.b_list (by decide +kernel)))) (pg_name (i := 3) sc_led_to.nd rfl (Or.inl rfl))
      (pss_one (ps_dput hu (pv 2) (pv 3) (pe_op op_add (pe_dget2 hu (pv 2) (pv 3) pe_int ⟨rfl, rfl, rfl, rfl⟩) pe_int) rfl)))
      (pss_one (ps_ret (pv 2))))), ?_⟩
    refine fun f hf => ?_
    have s0 := same_new (o := .dK []) hf
    refine ⟨_, rfl, _, rfl, d, _, rfl, s0 _ _ hd, fun p hp => ?_⟩
    have ev : (kC cs).map (·.2) = (cs.map (·.2)).map V.int := by
      unfold kC
      rw [List.map_map, List.map_map]
      rfl
    rw [ev]
    have gl : (cs.map (·.2)).length ≤ 400 := by rw [List.length_map]; exact c4
    generalize cs.map (·.2) = gs at ev gl k ⊢
    have s1 := same_new (o := .lst (gs.map V.int)) hp
    refine ⟨l, p, [], _, rfl, rfl, s1 _ _ (s0 _ _ hl), upd_same, sl_le (by simp; omega), fun a ha => ?_⟩
    have s2 := same_new (o := .lst ([] ++ gs.map V.int)) ha
    have ea : upd (upd (upd H f (.dK [])) p (.lst (gs.map V.int))) a (.lst ([] ++ gs.map V.int)) a = some (.lst (gs.map V.int)) := upd_same
    have ef := s2 _ _ (s1 _ _ (upd_same (H := H) (a := f) (o := .dK [])))
    have s02 := (s0.trans s1).trans s2
    generalize upd (upd (upd H f (.dK [])) p (.lst (gs.map V.int))) a (.lst ([] ++ gs.map V.int)) = H3 at ea ef s02 ⊢
    have nfa : a ≠ f := fun z => by rw [z, ef] at ea; cases ea
    refine ⟨a, rfl, ⟨_, .inl (.inl ea)⟩, ?_⟩
    refine for_list (xs := gs.map V.int) (fun i σ H' => ∃ kk x3, σ = [some (.ref l), some (.ref d), some (.ref f), x3] ∧ H' f = some (.dK kk) ∧ H' a = some (.lst (gs.map V.int)) ∧ kk.length ≤ i ∧ Cnts kk (gs.take i) ∧ Same H H') ⟨[], _, rfl, ef, ea, Nat.le_refl _, Cnts.nil, s02⟩ (fun i σ H' _ h => by obtain ⟨_, _, _, _, h, _⟩ := h; exact .inl (.inl h)) ?_ ?_
    · rintro i xx σ H' hx ⟨kk, x3, rfl, hk, hA, kl, hc, sm⟩
      obtain ⟨z, ez, rfl⟩ := map_at hx
      have il := (List.getElem?_eq_some_iff.mp ez).1
      refine ⟨_, rfl, f, rfl, .inl ⟨kk, .inl hk⟩, _, rfl, _, DGet.k (k := (Sum.inl z : Key)) hk, ((gs.take i).count z : Nat), 1, hc.get z, rfl, _, rfl, _, rfl, f, _, rfl, DPut.k (k := (Sum.inl z : Key)) hk (Nat.lt_of_le_of_lt kl (Nat.lt_of_lt_of_le (show i < 1000 by omega) (sl_le (by decide)))), ?_⟩
      refine ⟨_, _, rfl, upd_same, by rw [upd_ne nfa]; exact hA, Nat.le_trans (length_putK _ _ _) (by omega), by rw [List.take_add_one, ez]; exact hc.put, fun b o e => by rw [upd_ne (ne_of_none e hf)]; exact sm _ _ e⟩
    rintro σ H' ⟨kk, x3, rfl, hk, hA, kl, hc, sm⟩
    rw [List.length_map, List.take_length] at hc
    exact ⟨_, rfl, k H' f kk sm hf hk hc⟩
end
end K1
namespace K1
open PySem PySem.Spec L2 Z K6 K9
section
variable {P : Program} {w : World} {K : PySem.W.Frag} {mg : Str → Option Value} {base : Heap} {C : Addr}
theorem ok_arrows_into (T : Txt K mg C) (G_need_store : Pr P w K mg base "need_store" s_need_store 1 ["value"] (q_need_store K C)) (G_is_place : Pr P w K mg base "is_place" s_is_place 3 ["value"] sp_is_place) (G__led_to : Pr P w K mg base "_led_to" s_led_to 1 ["places", "arrows"] q_led_to) : Pr P w K mg base "arrows_into" s_arrows_into 4 ["store", "place"] (q_arrows_into K C) := by
  obtain ⟨f, fd, F, gl, bd⟩ := T.d_arrows_into
  refine ⟨f, fd, F, gl, bd, F.ok sc_arrows_into (fun vs H Q E h => ?_) (fun cdv A outer s H vs Q E hr h => ?_)⟩
  · obtain ⟨x, ns, cs, i, rfl, _⟩ := h
    rfl
  · obtain ⟨x, ns, cs, i, rfl, hS, i0, i9, k⟩ := h
    have hu := hu_of hr
    refine ⟨_, (pss_cons (ps_expr (pcall G_need_store (hr.mono (by decide)) (pa_cons (pv 0) pa_nil)))
      (pss_cons (ps_if (pt_not (pt_val (pcall G_is_place (hr.mono (by decide)) (pa_cons (pv 1) pa_nil)))) (pss_one ps_never) pss_nil)
      (pss_one (ps_ret (pe_dget2 hu (pcall G__led_to (hr.mono (by decide)) (pa_cons (pe_lst pa_nil) (pa_cons (pe_fld (pv 0) rfl) pa_nil))) (pv 1) pe_int ⟨rfl, rfl, rfl, rfl⟩))))), ?_⟩
    refine ⟨_, rfl, x, ns, cs, rfl, hS, ?_⟩
    refine ⟨_, rfl, i, rfl, i0, i9, true, rfl, ?_⟩
    refine ⟨Nat.zero_le _, fun l hl => ?_⟩
    have s0 := same_new (o := .lst []) hl
    obtain ⟨v, u, dx, pd, ad, ld, ks, S⟩ := hS
    refine ⟨_, rfl, x, C, dx, _, _, rfl, s0 _ _ S.ob, T.cl, T.n_arrows, rfl, l, ad, cs, rfl, upd_same, s0 _ _ S.ad_, S.cok.few, fun H1 b kk s1 hb hk hc => ?_⟩
    refine ⟨b, rfl, .inl ⟨kk, .inl hk⟩, _, rfl, _, DGet.k (k := (Sum.inl i : Key)) hk, ?_⟩
    show Q ((valV kk (Sum.inl i : Key)).getD (.int 0)) H1
    rw [hc.get i]
    exact k _ (s0.trans s1)
end
end K1
namespace K1
open PySem PySem.Spec L2 Z K6 K9
section
variable {P : Program} {w : World} {K : PySem.W.Frag} {mg : Str → Option Value} {base : Heap} {C : Addr}
theorem ok_reached_from (T : Txt K mg C)  : Pr P w K mg base "reached_from" s_reached_from 1 ["names", "arrows"] (q_reached_from K) := by
  obtain ⟨f, fd, F, gl, bd⟩ := T.d_reached_from
  refine ⟨f, fd, F, gl, bd, F.ok sc_reached_from (fun vs H Q E h => ?_) (fun cdv A outer s H vs Q E hr h => ?_)⟩
  · obtain ⟨v, ad, ns, cs, rfl, _⟩ := h
    rfl
  · obtain ⟨v, ad, ns, cs, rfl, ⟨a0, rs, rfl, ht, hp⟩, had, ok, ck, k⟩ := h
    have hu := hu_of hr
    refine ⟨_, (pss_cons (ps_set (i := 2) sc_reached_from.nd rfl (Or.inl rfl) pe_dnewK)
      (pss_cons (ps_for PassesOwn.never rfl (pi_tup (pv 0)) (pg_tup rfl (pgs_cons (pg_name (i := 3) sc_reached_from.nd rfl (Or.inl rfl)) (pgs_cons (pg_name (i := 4) sc_reached_from.nd rfl (Or.inl rfl)) pgs_nil)))
      (pss_cons (ps_set (i := 5) sc_reached_from.nd rfl (Or.inl rfl) (pv 4))
      (pss_one (ps_while PassesOwn.never (PW.pt (pw_and (pt_cmp (pc_din hu (pv 5) (pv 1))) (pw_and1 (pt_cmp (pc_dnotin hu (pv 5) (pv 2)))))) (pss_cons (ps_dput hu (pv 2) (pv 5) pe_bl rfl)
      (pss_one (ps_set (i := 5) sc_reached_from.nd rfl (Or.inl rfl) (pe_dget hu (pv 1) (pv 5) (fun _ _ => rfl)))))))))
      (pss_one (ps_ret (pv 2))))), ?_⟩
    have c4 := ck.few
    intro d hd
    have s0 : Same H (upd H d (.dK [])) := same_new hd
    have d0 : upd H d (.dK []) d = some (.dK (kT [])) := upd_same
    generalize upd H d (.dK []) = H1 at s0 d0 ⊢
    have nx2 : ad ≠ d := ne_of_none had hd
    refine ⟨_, rfl, a0, rfl, ⟨_, (PT.same s0 ht).sq⟩, ?_⟩
    refine for_pairs (H0 := H) (fun i σ H' => Same H H' ∧ (∃ x2 x3 x4, σ = [some (.ref a0), some (.ref ad), some (.ref d), x2, x3, x4]) ∧ ∃ a : List Int, H' d = some (.dK (kT a)) ∧ a.Nodup ∧ (∀ r ∈ a, isC cs r = true) ∧ come cs ns = (ns.drop i).foldl (fun a p => (steps cs (cs.length + 1) a p.2).1) a)
      ⟨s0, ⟨_, _, _, rfl⟩, [], d0, List.nodup_nil, (by simp), rfl⟩ ht hp (fun i σ H' h => .of h.1) ?_ ?_
    · rintro i b p σ H2 eb ep hq ⟨s2, ⟨x2, x3, x4, rfl⟩, a, hk, nd, hall, hcome⟩
      obtain ⟨q, eq, rfl⟩ := map_at ep
      obtain ⟨hlt, hz2⟩ := List.getElem?_eq_some_iff.mp eq
      rw [List.drop_eq_getElem_cons hlt, hz2, List.foldl_cons] at hcome
      refine ⟨b, _, rfl, hq, rfl, _, _, rfl, _, _, rfl, rfl, ?_⟩
      refine ⟨_, rfl, ?_⟩
      refine while_by (fun σ H' => Same H H' ∧ ∃ (b : List Int) (z : Int) (m : Nat) (y2 y3 : Option V), σ = [some (.ref a0), some (.ref ad), some (.ref d), y2, y3, some (.int z)] ∧ H' d = some (.dK (kT b)) ∧ b.Nodup ∧ (∀ r ∈ b, isC cs r = true) ∧ cs.length < m + b.length ∧ steps cs m b z = steps cs (cs.length + 1) a q.2)
        (fun _ H' => match H' d with | some (.dK kvs) => cs.length + 1 - kvs.length | _ => 0) ⟨s2, a, q.2, cs.length + 1, _, _, rfl, hk, nd, hall, by omega, rfl⟩ ?_ ?_
      · rintro σ H3 ⟨s3, b, z, m, y2, y3, rfl, hb, ndb, hallb, hm, hst⟩
        have a3 := s3 _ _ had
        refine ⟨_, rfl, _, rfl, ad, _, rfl, DGet.k (k := (Sum.inl z : Key)) a3, _, rfl, ?_⟩
        rw [some_c]
        by_cases hc : isC cs z = true
        · rw [hc]
          refine iteT ⟨_, rfl, _, rfl, d, _, rfl, DGet.k (k := (Sum.inl z : Key)) hb, _, rfl, ?_⟩
          rw [val_T]
          by_cases hs : z ∈ b
          · rw [decide_eq_true hs]
            rw [steps_end (.inr hs)] at hst
            exact iteF ⟨s3, ⟨_, _, _, rfl⟩, b, hb, ndb, hallb, by rw [hcome, ← hst]⟩
          · rw [decide_eq_false hs]
            refine iteT ?_
            have hall2 : ∀ r ∈ b ++ [z], isC cs r = true := fun r hr => by
              rcases List.mem_append.mp hr with w | w
              · exact hallb r w
              · rw [List.mem_singleton.mp w]
                exact hc
            have hlen := seen_len (nodup_snoc ndb hs) hall2
            rw [List.length_append] at hlen
            have la : b.length + 1 ≤ cs.length := hlen
            obtain ⟨m', rfl⟩ : ∃ m', m = m' + 1 := ⟨m - 1, by omega⟩
            rw [steps_go hc hs] at hst
            have lk : (kT b).length = b.length := List.length_map ..
            refine ⟨_, rfl, _, rfl, d, _, rfl, DPut.k (k := (Sum.inl z : Key)) hb (Nat.lt_of_lt_of_le (show (kT b).length < 1000 by omega) (sl_le (by decide))), ?_⟩
            rw [put_T hs]
            refine ⟨_, rfl, _, rfl, ad, _, rfl, by rw [← get_nx hc]; exact DGet.k (k := (Sum.inl z : Key)) (by rw [upd_ne nx2]; exact a3), ?_⟩
            refine ⟨⟨fun c o e => ?_, b ++ [z], nx cs z, m', _, _, rfl, upd_same, nodup_snoc ndb hs, hall2, by rw [List.length_append]; show cs.length < m' + (b.length + 1); omega, hst⟩, ?_⟩
            · rw [upd_ne (ne_of_none e hd)]
              exact s3 _ _ e
            · rw [upd_same, hb]
              show cs.length + 1 - (kT (b ++ [z])).length < cs.length + 1 - (kT b).length
              have lk2 : (kT (b ++ [z])).length = b.length + 1 := by
                unfold kT
                rw [List.length_map, List.length_append]
                rfl
              omega
        · have hc' : isC cs z = false := by simpa using hc
          rw [hc']
          rw [steps_end (.inl hc')] at hst
          exact iteF (iteF ⟨s3, ⟨_, _, _, rfl⟩, b, hb, ndb, hallb, by rw [hcome, ← hst]⟩)
      · rintro σ H3 Q1 Q2 mo ⟨v1, e1, v2, e2, a2, o2, e8, e9, b1, e10, h⟩
        refine ⟨v1, e1, v2, e2, a2, o2, e8, e9, b1, e10, ?_⟩
        cases b1 with
        | false => exact mo _ _ h
        | true =>
          obtain ⟨w1, g1, w2, g2, a3, o3, g3, g4, b2, g5, h⟩ := h
          exact ⟨w1, g1, w2, g2, a3, o3, g3, g4, b2, g5, mo _ _ h⟩
    · rintro σ H2 ⟨s2, ⟨x2, x3, x4, rfl⟩, a, hk, nd, hall, hcome⟩
      rw [List.length_map, List.drop_length, List.foldl_nil] at hcome
      exact ⟨_, rfl, k H2 d s2 hd (by rw [hcome]; exact hk)⟩
end
end K1
namespace K1
open PySem PySem.Spec L2 Z K6 K9
section
variable {P : Program} {w : World} {K : PySem.W.Frag} {mg : Str → Option Value} {base : Heap} {C : Addr}
theorem ok_reached_cells (T : Txt K mg C) (G_reached_from : Pr P w K mg base "reached_from" s_reached_from 1 ["names", "arrows"] (q_reached_from K)) : Pr P w K mg base "reached_cells" s_reached_cells 2 ["store"] (sp_reached_cells K C) := by
  obtain ⟨f, fd, F, gl, bd⟩ := T.d_reached_cells
  refine ⟨f, fd, F, gl, bd, F.ok sc_reached_cells (fun vs H Q E h => ?_) (fun cdv A outer s H vs Q E hr h => ?_)⟩
  · obtain ⟨x, ns, cs, rfl, _⟩ := h
    rfl
  · obtain ⟨x, ns, cs, rfl, ⟨v, u, dx, pd, ad, ld, ks, S⟩, k⟩ := h
    have hu := hu_of hr
    refine ⟨_, (pss_one (ps_ret (pcall G_reached_from (hr.mono (by decide)) (pa_cons (pe_fld (pv 0) rfl) (pa_cons (pe_fld (pv 0) rfl) pa_nil))))), ?_⟩
    exact ⟨_, rfl, x, C, dx, _, _, rfl, S.ob, T.cl, T.n_names, rfl, _, rfl, x, C, dx, _, _, rfl, S.ob, T.cl, T.n_arrows, rfl, v, ad, ns, cs, rfl, S.nm, S.ad_, S.nok, S.cok, k⟩
end
end K1
namespace K1
open PySem PySem.Spec L2 Z K6 K9
section
variable {P : Program} {w : World} {K : PySem.W.Frag} {mg : Str → Option Value} {base : Heap} {C : Addr}
theorem ok_lost (T : Txt K mg C) (G_need_store : Pr P w K mg base "need_store" s_need_store 1 ["value"] (q_need_store K C)) (G_reached_cells : Pr P w K mg base "reached_cells" s_reached_cells 2 ["store"] (sp_reached_cells K C)) : Pr P w K mg base "lost" s_lost 3 ["store"] (sp_lost K C) := by
  obtain ⟨f, fd, F, gl, bd⟩ := T.d_lost
  refine ⟨f, fd, F, gl, bd, F.ok sc_lost (fun vs H Q E h => ?_) (fun cdv A outer s H vs Q E hr h => ?_)⟩
  · obtain ⟨x, ns, cs, rfl, _⟩ := h
    rfl
  · obtain ⟨x, ns, cs, rfl, hS, k⟩ := h
    have hu := hu_of hr
    refine ⟨_, (pss_cons (ps_expr (pcall G_need_store (hr.mono (by decide)) (pa_cons (pv 0) pa_nil)))
      (pss_cons (ps_set (i := 1) sc_lost.nd rfl (Or.inr rfl) (pcall G_reached_cells (hr.mono (by decide)) (pa_cons (pv 0) pa_nil)))
      (pss_one (ps_ret (pe_callTy call_tupP (by rfl) T.b_tuple (by decide +kernel) (pa_cons (pe_lc (own := [("place", 2), ("_", 3)]) (g := gTup K 2 (gCons (gName 2) (gCons (gName 3) gNil))) rfl sc_lost.nd (pi_tup (pe_fld (pv 0) rfl)) (blkOk_by (own := [("place", 2), ("_", 3)]) (N := N_lost) (sc := defScope s_lost) (by decide +kernel)) (fun _ _ _ _ _ => (pg_tup rfl (pgs_cons (pg_name (i := 2) sc_lost.nd rfl (Or.inl rfl)) (pgs_cons (pg_name (i := 3) sc_lost.nd rfl (Or.inl rfl)) pgs_nil)))) (fun _ _ _ _ _ => (pts_one (pt_cmp (pc_dnotin hu (pv 2) (pv 1))))) (fun _ _ _ _ _ => (pv 2))) pa_nil)))))), ?_⟩
    refine ⟨_, rfl, x, ns, cs, rfl, hS, ?_⟩
    refine ⟨_, rfl, x, ns, cs, rfl, hS, fun H1 d s1 hd hk => ?_⟩
    obtain ⟨v, u, dx, pd, ad, ld, ks, S⟩ := hS
    obtain ⟨a0, rs, hv0, ht, hp⟩ := S.ce
    subst hv0
    have c4 := S.cok.few
    unfold gName tRet tCB tCons
    dsimp only
    refine lcPc cV (fun p => V.int p.1) (fun p => !decide (p.1 ∈ come cs ns)) (fun R hR => ⟨_, rfl, x, C, dx, _, _, rfl, s1 _ _ S.ob, T.cl, T.n_cells, rfl, hR⟩) (PT.same s1 ht) (Paired.imm (.of s1) hp) (by omega) (fun b p H' R R2 sm hq hm h1 h2 => ?_) ?_ ?_ (fun H' D sm hD hl => ?_)
    · refine ⟨b, _, rfl, hq, rfl, _, _, rfl, _, _, rfl, rfl, rfl, _, rfl, _, rfl, d, _, rfl, DGet.k (k := (Sum.inl p.1 : Key)) (sm _ _ hk), _, rfl, rfl, ?_⟩
      rw [val_T]
      cases hb : decide (p.1 ∈ come cs ns) with
      | true => exact iteF (h2 (by rw [hb]; rfl))
      | false => exact iteT ⟨_, rfl, h1 (by rw [hb]; rfl)⟩
    · rintro b σ H' Q1 Q2 m ⟨a, xs, e1, e2, e3, v1, r1, e4, v2, r2, e5, e6, q⟩
      exact ⟨a, xs, e1, e2, e3, v1, r1, e4, v2, r2, e5, e6, m _ _ q⟩
    · rintro σ H' Q1 Q2 m ⟨v1, e1, v2, e2, a, o, e3, e4, k2, e5, q⟩
      exact ⟨v1, e1, v2, e2, a, o, e3, e4, k2, e5, m _ _ q⟩
    refine ⟨D, _, rfl, .inl (.inl hl), fun q o hq ho => ?_⟩
    refine k _ q ((s1.trans sm).trans (same_new hq)) ?_
    have e : (((cs.map (·.1)).filter fun z => !decide (z ∈ come cs ns)).map V.int) = (cs.filter fun p => !decide (p.1 ∈ come cs ns)).map fun p => V.int p.1 := by
      rw [List.filter_map, List.map_map]
      rfl
    rw [e]
    exact PT.new ho
end
end K1
namespace K1
open PySem PySem.Spec L2 Z K6 K9
section
variable {P : Program} {w : World} {K : PySem.W.Frag} {mg : Str → Option Value} {base : Heap} {C : Addr}
theorem ok_lost_rings (T : Txt K mg C) (G_lost : Pr P w K mg base "lost" s_lost 3 ["store"] (sp_lost K C)) : Pr P w K mg base "lost_rings" s_lost_rings 4 ["store"] (q_lost_rings K C) := by
  obtain ⟨f, fd, F, gl, bd⟩ := T.d_lost_rings
  refine ⟨f, fd, F, gl, bd, F.ok sc_lost_rings (fun vs H Q E h => ?_) (fun cdv A outer s H vs Q E hr h => ?_)⟩
  · obtain ⟨x, ns, cs, rfl, _⟩ := h
    rfl
  · obtain ⟨x, ns, cs, rfl, hS, k⟩ := h
    have hu := hu_of hr
    refine ⟨_, (pss_cons (ps_set (i := 1) sc_lost_rings.nd rfl (Or.inl rfl) (pcall G_lost (hr.mono (by decide)) (pa_cons (pv 0) pa_nil)))
      (pss_cons (ps_setDc (i := 2) (own := [("cell", 10)]) (g := gName 10) (tt := tYes) rfl sc_lost_rings.nd rfl rfl (sw_dict rfl rfl rfl (by decide +kernel)) (pi_tup (pv 1)) (blkOk_by (own := [("cell", 10)]) (N := N_lost_rings) (sc := defScope s_lost_rings) (by decide +kernel)) (fun _ _ _ _ _ => (pg_name (i := 10) sc_lost_rings.nd rfl (Or.inl rfl))) (fun _ _ _ _ _ => pts_nil) (fun _ _ _ _ _ => (pv 10)) (fun _ _ _ _ _ => (pe_dget hu (pe_fldK (K := K) rfl (pv 0) rfl) (pv 10) (fun _ _ => rfl))))
      (pss_cons (ps_par (i := 3) (j := 4) rfl sc_lost_rings.nd rfl rfl (by decide) rfl rfl (pa_cons (pe_lst pa_nil) (pa_cons pe_dnewK pa_nil)) (by rfl))
      (pss_cons (ps_for PassesOwn.never rfl (pi_tup (pv 1)) (pg_name (i := 5) sc_lost_rings.nd rfl (Or.inl rfl))
      (pss_cons (ps_par (i := 6) (j := 7) rfl sc_lost_rings.nd rfl rfl (by decide) rfl rfl (pa_cons (pe_lst pa_nil) (pa_cons (pv 5) pa_nil)) (by rfl))
      (pss_cons (ps_while PassesOwn.never (PW.pt (pw_and (pt_cmp (pc_din hu (pv 7) (pv 2))) (pw_and1 (pt_cmp (pc_dnotin hu (pv 7) (pv 4)))))) (pss_cons (ps_dput hu (pv 4) (pv 7) pe_bl rfl)
      (pss_cons (ps_expr (pe_bm PySem.F.plainAttrs_list PySem.F.slot_list_append PySem.F.type_list_append mt_append (pv 6) (pa_cons (pv 7) pa_nil)))
      (pss_one (ps_set (i := 7) sc_lost_rings.nd rfl (Or.inl rfl) (pe_dget hu (pv 2) (pv 7) (fun _ _ => rfl)))))))
      (pss_one (ps_if (pt_cmpR op_in_seq (pv 7) (pv 6) (by rfl)) (pss_cons (ps_set (i := 8) sc_lost_rings.nd rfl (Or.inl rfl) (pe_slice sl_list (pv 6) (po_some (pe_bm PySem.F.plainAttrs_list PySem.F.slot_list_index PySem.F.type_list_index mt_index (pv 6) (pa_cons (pv 7) pa_nil))) po_none))
      (pss_cons (ps_set (i := 9) sc_lost_rings.nd rfl (Or.inl rfl) (pe_bm PySem.F.plainAttrs_list PySem.F.slot_list_index PySem.F.type_list_index mt_index (pv 8) (pa_cons (pe_callB (cr_min rfl) (by rfl) T.b_min (by decide +kernel) (pa_cons (pv 8) pa_nil)) pa_nil)))
      (pss_one (ps_expr (pe_bm PySem.F.plainAttrs_list PySem.F.slot_list_append PySem.F.type_list_append mt_append (pv 3) (pa_cons (pe_callTy call_tupP (by rfl) T.b_tuple (by decide +kernel) (pa_cons (pe_op op_cat (pe_slice sl_list (pv 8) (po_some (pv 9)) po_none) (pe_slice sl_list (pv 8) po_none (po_some (pv 9)))) pa_nil)) pa_nil)))))) pss_nil)))))
      (pss_one (ps_ret (pe_callTy call_tupP (by rfl) T.b_tuple (by decide +kernel) (pa_cons (pe_callB cr_sortedL (by rfl) T.b_sorted (by decide +kernel) (pa_cons (pv 3) pa_nil)) pa_nil)))))))), ?_⟩
    refine ⟨_, rfl, x, ns, cs, rfl, hS, fun H1 t s1 ht => ?_⟩
    have hS1 := St.same s1 hS
    obtain ⟨v, u, dx, pd, ad, ld, ks, S⟩ := hS1
    have c4 := S.cok.few
    have keyN : (cs.map (·.1)).Nodup := S.cok.asc.imp fun e => by omega
    obtain ⟨C', hC⟩ : ∃ C', C' = come cs ns := ⟨_, rfl⟩
    have cl' : ∀ q ∈ C', nx cs q ∈ C' ∨ isC cs (nx cs q) = false := hC ▸ come_cl cs ns
    rw [← hC] at ht k
    obtain ⟨gs, hgs⟩ : ∃ gs, gs = (lostC cs C').map (·.1) := ⟨_, rfl⟩
    have eg : ((cs.map (·.1)).filter fun z => !decide (z ∈ C')) = gs := by
      rw [hgs, List.filter_map]
      rfl
    rw [eg] at ht
    have gnd : gs.Nodup := by
      rw [hgs]
      exact keyN.sublist (List.filter_sublist.map _)
    have gl : gs.length ≤ 400 := by
      rw [hgs, List.length_map]
      exact Nat.le_trans (List.length_filter_le _ _) c4
    have gC : ∀ z ∈ gs, isC (lostC cs C') z = true := fun z hz => isC_mem.mpr (hgs ▸ hz)
    unfold tSeq gName
    dsimp only
    refine dcTF (v := 1) (fun z => .int (nx cs z)) gnd ?_ ht.sq (by omega) (fun i H' R hi sm hR => ?_) (fun H2 d s2 hd hk => ?_)
    · rfl
    · have hc := (isC_lost.mp (gC i hi)).1
      exact ⟨rfl, _, rfl, _, rfl, x, C, dx, _, _, rfl, sm _ _ S.ob, T.cl, T.n_arrows, rfl, _, rfl, ad, _, rfl, by rw [← get_nx hc]; exact DGet.k (k := (Sum.inl i : Key)) (sm _ _ S.ad_), hR⟩
    have ek : (gs.map fun z => ((Sum.inl z : Key), V.int (nx cs z))) = kC (lostC cs C') := by
      rw [hgs, List.map_map]
      exact List.map_congr_left fun p hp => by
        show ((Sum.inl p.1 : Key), V.int (nx cs p.1)) = (Sum.inl p.1, V.int p.2)
        rw [nx_of keyN (List.mem_filter.mp hp).1]
    rw [ek] at hk
    have lsl : (lostC cs C').length ≤ 400 := Nat.le_trans (List.length_filter_le _ _) c4
    obtain ⟨ls, hls⟩ : ∃ ls, ls = lostC cs C' := ⟨_, rfl⟩
    rw [← hls] at hk lsl gC
    have ht2 := PT.same s2 ht
    have s02 := s1.trans s2
    refine ⟨Nat.zero_le _, fun r hr => fun pa hpa => ⟨_, _, rfl, ?_⟩⟩
    have nrp : r ≠ pa := fun z => by rw [← z, upd_same] at hpa; cases hpa
    have hpa0 : H2 pa = none := by rw [upd_ne (Ne.symm nrp)] at hpa; exact hpa
    have er : upd (upd H2 r (.lst [])) pa (.dK []) r = some (.lst (([] : List Addr).map V.ref)) := by rw [upd_ne nrp]; exact upd_same
    have ep : upd (upd H2 r (.lst [])) pa (.dK []) pa = some (.dK (kT [])) := upd_same
    have sm0 : Same H2 (upd (upd H2 r (.lst [])) pa (.dK [])) := (same_new hr).trans (same_new hpa)
    generalize upd (upd H2 r (.lst [])) pa (.dK []) = H3 at er ep sm0 ⊢
    dsimp only
    refine forT (K := K) (v := 1) (xs := gs.map V.int) (fun i σ H' => ∃ (x5 x6 x7 x8 x9 : Option V) (A : List Int) (R : List (List Int)) (rs : List Addr), σ = [some (.ref x), some (.ref t), some (.ref d), some (.ref r), some (.ref pa), x5, x6, x7, x8, x9, none] ∧ Same H2 H' ∧ H' pa = some (.dK (kT A)) ∧ H' r = some (.lst (rs.map V.ref)) ∧ Paired (fun b (l : List Int) => SqT K H' b (l.map V.int)) rs R ∧ RInv ls A R ∧ (∀ q ∈ gs.take i, q ∈ A) ∧ rs.length ≤ i)
      ?_ ?_ (fun i σ H' _ h => by obtain ⟨_, _, _, _, _, _, _, _, _, h, _⟩ := h; exact (PT.same h ht2).sq) ?_ ?_
    · rfl
    · exact ⟨_, _, _, _, _, [], [], [], rfl, sm0, ep, er, .nil, RInv.start ls, by simp, Nat.zero_le _⟩
    · rintro i xx σ H4 hx ⟨x5, x6, x7, x8, x9, A, R, rs, rfl, sm4, hp4, hr4, pr4, inv, done, rsl⟩
      obtain ⟨p, ez, rfl⟩ := map_at hx
      have pC := gC p (List.mem_of_getElem? ez)
      refine ⟨Nat.zero_le _, fun ro hro => ⟨_, rfl, _, _, rfl, ?_⟩⟩
      have hro2 := none_of sm4 hro
      have nro : pa ≠ ro := ne_of_none hp4 hro
      have nrr : r ≠ ro := ne_of_none hr4 hro
      have sm5 := sm4.trans (same_new (o := .lst []) hro)
      dsimp only
      refine while_by (fun σ H' => ∃ (w : List Int) (z : Int) (m : Nat), σ = [some (.ref x), some (.ref t), some (.ref d), some (.ref r), some (.ref pa), some (.int p), some (.ref ro), some (.int z), x8, x9, none] ∧ Same H2 H' ∧ H' ro = some (.lst (w.map V.int)) ∧ H' pa = some (.dK (kT (A ++ w))) ∧ H' r = some (.lst (rs.map V.ref)) ∧ Paired (fun b (l : List Int) => SqT K H' b (l.map V.int)) rs R ∧ (A ++ w).Nodup ∧ (∀ q ∈ A ++ w, isC ls q = true) ∧ ls.length < m + (A ++ w).length ∧ steps ls m (A ++ w) z = steps ls (ls.length + 1) A p)
        (fun _ H' => match H' pa with | some (.dK kvs) => ls.length + 1 - kvs.length | _ => 0) ?_ ?_ ?_
      · refine ⟨[], p, ls.length + 1, rfl, sm5, upd_same, by rw [upd_ne nro, List.append_nil]; exact hp4, by rw [upd_ne nrr]; exact hr4, prd_imm (.of (same_new hro)) pr4, by rw [List.append_nil]; exact inv.nd, by rw [List.append_nil]; exact inv.ce, by omega, by rw [List.append_nil]⟩
      · rintro σ H5 ⟨w, z, m, rfl, s5, h1, h2, h3, pr5, nd5, ce5, hm, hst⟩
        have hd5 := s5 _ _ hk
        refine by_tail1 ((isC ls z = false ∨ z ∈ A ++ w) ∧ (A ++ w, z) = steps ls (ls.length + 1) A p) ?_ (fun tl => ?_) (fun ⟨hend, hst⟩ => ?_)
        rotate_left
        refine ⟨_, rfl, _, rfl, d, _, rfl, DGet.k (k := (Sum.inl z : Key)) hd5, _, rfl, ?_⟩
        rw [some_c]
        by_cases hc : isC ls z = true
        · rw [hc]
          refine iteT ⟨_, rfl, _, rfl, pa, _, rfl, DGet.k (k := (Sum.inl z : Key)) h2, _, rfl, ?_⟩
          rw [val_T]
          by_cases hs : z ∈ A ++ w
          · rw [decide_eq_true hs]
            rw [steps_end (.inr hs)] at hst
            refine iteF ?_
            exact tl ⟨.inr hs, hst⟩
          · rw [decide_eq_false hs]
            refine iteT ?_
            have hall2 : ∀ q ∈ A ++ w ++ [z], isC ls q = true := fun q hq => by
              rcases List.mem_append.mp hq with y | y
              · exact ce5 q y
              · rw [List.mem_singleton.mp y]
                exact hc
            have nd2 := nodup_snoc nd5 hs
            have hlen := seen_len nd2 hall2
            rw [List.length_append] at hlen
            have la : (A ++ w).length + 1 ≤ ls.length := hlen
            have lw : w.length ≤ (A ++ w).length := by rw [List.length_append]; omega
            obtain ⟨m', rfl⟩ : ∃ m', m = m' + 1 := ⟨m - 1, by omega⟩
            rw [steps_go hc hs] at hst
            have lk : (kT (A ++ w)).length = (A ++ w).length := List.length_map ..
            refine ⟨_, rfl, _, rfl, pa, _, rfl, DPut.k (k := (Sum.inl z : Key)) h2 (Nat.lt_of_lt_of_le (show (kT (A ++ w)).length < 1000 by omega) (sl_le (by decide))), ?_⟩
            rw [put_T hs]
            have h1' : upd H5 pa (.dK (kT (A ++ w ++ [z]))) ro = some (.lst (w.map V.int)) := by rw [upd_ne (Ne.symm nro)]; exact h1
            refine ⟨_, rfl, .inl ⟨rfl, _, .inl (.inl h1')⟩, _, rfl, ro, _, _, rfl, rfl, h1', by rw [List.length_map]; exact Nat.lt_of_lt_of_le (show w.length < 1000 by omega) (sl_le (by decide)), ?_⟩
            have ndd : d ≠ pa := fun q => by rw [q, hpa0] at hk; cases hk
            have ndr : d ≠ ro := ne_of_none hk hro2
            refine ⟨_, rfl, _, rfl, d, _, rfl, by rw [← get_nx hc]; exact DGet.k (k := (Sum.inl z : Key)) (by rw [upd_ne ndr, upd_ne ndd]; exact hd5), ?_⟩
            have im1 : Imm H5 (upd H5 pa (.dK (kT (A ++ w ++ [z])))) := Chg.upd.imm h2 trivial
            have im2 : Imm (upd H5 pa (.dK (kT (A ++ w ++ [z])))) (upd (upd H5 pa (.dK (kT (A ++ w ++ [z])))) ro (.lst (w.map V.int ++ [V.int z]))) := Chg.upd.imm h1' trivial
            refine ⟨⟨w ++ [z], nx ls z, m', rfl, fun c o e => ?_, ?_, ?_, ?_, prd_imm im2 (prd_imm im1 pr5), ?_, ?_, ?_, ?_⟩, ?_⟩
            · rw [upd_ne (ne_of_none e hro2), upd_ne (ne_of_none e hpa0)]
              exact s5 _ _ e
            · rw [upd_same, List.map_append]
              rfl
            · rw [upd_ne nro, upd_same, List.append_assoc]
            · rw [upd_ne nrr, upd_ne nrp]
              exact h3
            · rw [← List.append_assoc]
              exact nd2
            · rw [← List.append_assoc]
              exact hall2
            · rw [← List.append_assoc, List.length_append]
              show ls.length < m' + ((A ++ w).length + 1)
              omega
            · rw [← List.append_assoc]
              exact hst
            · rw [upd_ne nro, upd_same, h2]
              show ls.length + 1 - (kT (A ++ w ++ [z])).length < ls.length + 1 - (kT (A ++ w)).length
              have lk2 : (kT (A ++ w ++ [z])).length = (A ++ w).length + 1 := by
                unfold kT
                rw [List.length_map, List.length_append]
                rfl
              omega
        · have hc' : isC ls z = false := by simpa using hc
          rw [hc']
          rw [steps_end (.inl hc')] at hst
          refine iteF (iteF ?_)
          exact tl ⟨.inl hc', hst⟩
        obtain ⟨w', E', hw1, hP, nd', ce', hs', cl2, hpin⟩ := way_on inv.nd inv.ce inv.cl p
        rw [hw1] at hst
        obtain rfl : w = w' := List.append_cancel_left (congrArg Prod.fst hst)
        obtain rfl : z = E' := congrArg Prod.snd hst
        have done' : ∀ q ∈ gs.take (i + 1), q ∈ A ++ w := fun q hq => by
          rw [List.take_add_one, ez] at hq
          rcases List.mem_append.mp hq with y | y
          · exact List.mem_append_left _ (done q y)
          · cases List.mem_singleton.mp y
            exact hpin pC
        have lw : w.length ≤ ls.length := Nat.le_trans (by rw [List.length_append]; omega) (seen_len nd5 ce5)
        refine ⟨_, rfl, _, rfl, ro, _, rfl, .inl (.inl (.inl h1)), rfl, flat_int _, _, rfl, ?_⟩
        show if inV (.int z) (w.map V.int) = true then _ else _
        rw [inV_int]
        by_cases hz : z ∈ w
        · rw [decide_eq_true hz]
          refine iteT ?_
          obtain ⟨hn, hd1, hsp⟩ := split_ix (idx_spec hz).1
          obtain ⟨i1, i2, i3⟩ := index_ok hz
          refine ⟨_, rfl, _, rfl, .inl ⟨rfl, _, .inl (.inl h1)⟩, _, rfl, ro, _, _, _, _, rfl, rfl, .inl (.inl h1), rfl, flat_int _, i1, i2, i3, _, rfl, ro, _, rfl, .inl (.inl h1), fun q1 hq1 => ?_⟩
          rw [cut_from (by rw [List.length_map]; omega), ← List.map_drop, hd1]
          generalize hv : w.drop (idx w z + 1) = vv at hd1 hsp ⊢
          generalize hu' : w.take (idx w z) = uu at hsp ⊢
          have sq1 := same_new (o := .lst ((z :: vv).map V.int)) hq1
          have e8 : upd H5 q1 (.lst ((z :: vv).map V.int)) q1 = some (.lst ((z :: vv).map V.int)) := upd_same
          have h3a := sq1 _ _ h3
          have h2a := sq1 _ _ h2
          generalize upd H5 q1 (.lst ((z :: vv).map V.int)) = H6 at sq1 e8 h3a h2a ⊢
          refine ⟨_, rfl, .inl ⟨rfl, _, .inl (.inl e8)⟩, _, rfl, q1, _, rfl, .inl (.inl e8), by simp, fun mn hmn hle => ?_⟩
          obtain ⟨hn2, hd2, hsp2⟩ := split_ix (idx_spec hmn).1
          obtain ⟨j1, j2, j3⟩ := index_ok hmn
          refine ⟨q1, _, _, _, _, rfl, rfl, .inl (.inl e8), rfl, flat_int _, j1, j2, j3, ?_⟩
          have vl : (z :: vv).length ≤ 400 := by
            have := congrArg List.length hd1
            rw [List.length_drop] at this
            omega
          refine ⟨_, rfl, .inl ⟨rfl, _, .inl (.inl h3a)⟩, _, rfl, _, rfl, _, rfl, q1, _, rfl, .inl (.inl e8), fun q2 hq2 => ?_⟩
          rw [cut_from (by rw [List.length_map]; omega), ← List.map_drop, hd2]
          have sq2 := same_new (o := .lst ((mn :: (z :: vv).drop (idx (z :: vv) mn + 1)).map V.int)) hq2
          have f2 : upd H6 q2 (.lst ((mn :: (z :: vv).drop (idx (z :: vv) mn + 1)).map V.int)) q2 = some (.lst ((mn :: (z :: vv).drop (idx (z :: vv) mn + 1)).map V.int)) := upd_same
          have e8b := sq2 _ _ e8
          have h3b := sq2 _ _ h3a
          have h2b := sq2 _ _ h2a
          generalize upd H6 q2 (.lst ((mn :: (z :: vv).drop (idx (z :: vv) mn + 1)).map V.int)) = H7 at sq2 f2 e8b h3b h2b ⊢
          refine ⟨_, rfl, _, rfl, _, rfl, q1, _, rfl, .inl (.inl e8b), fun q3 hq3 => ?_⟩
          rw [cut_take (by rw [List.length_map]; omega), ← List.map_take]
          have sq3 := same_new (o := .lst (((z :: vv).take (idx (z :: vv) mn)).map V.int)) hq3
          have f3 : upd H7 q3 (.lst (((z :: vv).take (idx (z :: vv) mn)).map V.int)) q3 = some (.lst (((z :: vv).take (idx (z :: vv) mn)).map V.int)) := upd_same
          have f2c := sq3 _ _ f2
          have h3c := sq3 _ _ h3b
          have h2c := sq3 _ _ h2b
          generalize upd H7 q3 (.lst (((z :: vv).take (idx (z :: vv) mn)).map V.int)) = H8 at sq3 f3 f2c h3c h2c ⊢
          obtain ⟨rr, hrr⟩ : ∃ rr, rr = mn :: (z :: vv).drop (idx (z :: vv) mn + 1) ++ (z :: vv).take (idx (z :: vv) mn) := ⟨_, rfl⟩
          have err : (mn :: (z :: vv).drop (idx (z :: vv) mn + 1)).map V.int ++ ((z :: vv).take (idx (z :: vv) mn)).map V.int = rr.map V.int := by rw [hrr, List.map_append]
          refine ⟨q2, q3, _, _, rfl, rfl, f2c, f3, ?_, fun q4 hq4 => ?_⟩
          · rw [List.length_map, List.length_map, ← hd2, List.length_drop, List.length_take]
            exact sl_le (by omega)
          rw [err]
          have sq4 := same_new (o := .lst (rr.map V.int)) hq4
          refine ⟨q4, _, rfl, .inl (.inl upd_same), fun t3 o3 ht3 ho3 => ?_⟩
          have sq5 := same_new (o := .frz o3 (.tup (rr.map V.int))) ht3
          have pt3 : PT (upd (upd H8 q4 (.lst (rr.map V.int))) t3 (.frz o3 (.tup (rr.map V.int)))) t3 (rr.map V.int) := PT.new ho3
          have h3d := sq5 _ _ (sq4 _ _ h3c)
          have h2d := sq5 _ _ (sq4 _ _ h2c)
          have s58 := (((sq1.trans sq2).trans sq3).trans sq4).trans sq5
          have s28 := s5.trans s58
          have pr8 := prd_imm (.of s58) pr5
          generalize upd (upd H8 q4 (.lst (rr.map V.int))) t3 (.frz o3 (.tup (rr.map V.int))) = H9 at pt3 h3d h2d s58 s28 pr8 ⊢
          have il : i < gs.length := (List.getElem?_eq_some_iff.mp ez).1
          have rl : rs.length ≤ 400 := by omega
          refine ⟨r, _, _, rfl, rfl, h3d, by rw [List.length_map]; exact Nat.lt_of_le_of_lt rl (Nat.lt_of_lt_of_le (show 400 < 1000 by decide) (sl_le (by decide))), ?_⟩
          refine ⟨_, _, _, _, _, A ++ w, R ++ [rr], rs ++ [t3], rfl, fun c o e => ?_, ?_, ?_, ?_, ?_, done', by rw [List.length_append]; show rs.length + 1 ≤ i + 1; omega⟩
          · rw [upd_ne (ne_of_none e hr)]
            exact s28 _ _ e
          · rw [upd_ne (Ne.symm nrp)]
            exact h2d
          · rw [upd_same, List.map_append]
            rfl
          · exact prd_imm (Chg.upd.imm h3d trivial) (Paired.snoc (F := fun b (l : List Int) => SqT K H9 b (l.map V.int)) pt3.sq pr8)
          · rw [hrr]
            subst hsp
            exact inv.yes hP nd' ce' cl2 hsp2 (fun q hq => hle q hq)
        · rw [decide_eq_false hz]
          exact iteF ⟨_, _, _, _, _, A ++ w, R, rs, rfl, s5, h2, h3, pr5, inv.no hP nd' ce' hs' cl2 hz, done', by omega⟩
      · rintro σ H3 Q1 Q2 mo ⟨v1, e1, v2, e2, a2, o2, e8, e9, b1, e10, h⟩
        refine ⟨v1, e1, v2, e2, a2, o2, e8, e9, b1, e10, ?_⟩
        cases b1 with
        | false => exact mo _ _ h
        | true =>
          obtain ⟨w1, g1, w2, g2, a3, o3, g3, g4, b2, g5, h⟩ := h
          exact ⟨w1, g1, w2, g2, a3, o3, g3, g4, b2, g5, mo _ _ h⟩
    rintro σ H4 ⟨x5, x6, x7, x8, x9, A, R, rs, rfl, sm4, hp4, hr4, pr4, inv, done, rsl⟩
    rw [List.length_map, List.take_length] at done
    obtain ⟨L, e1, e2, hL⟩ := rzip pr4
    have eL : rs.map V.ref = L.map fun z => V.ref z.1 := by rw [← e1, List.map_map]; rfl
    rw [eL] at hr4
    refine ⟨_, rfl, r, L, rfl, .inl (.inl hr4), fun z hz => ⟨hL z hz, fun z0 => ?_⟩, fun L' q perm pw hq => ?_⟩
    · obtain ⟨m, _, c, _⟩ := inv.hd z.2 (e2 ▸ List.mem_map_of_mem hz)
      obtain ⟨tl, et⟩ := c.head
      rw [z0] at et
      cases et
    have sq := same_new (o := .lst (L'.map fun z => V.ref z.1)) hq
    refine ⟨q, _, rfl, .inl (.inl upd_same), fun t2 o2 ht2 ho2 => ?_⟩
    have s5 := sq.trans (same_new (o := .frz o2 (.tup (L'.map fun z => V.ref z.1))) ht2)
    refine k _ t2 ((s02.trans sm4).trans s5) ?_
    have er : L'.map (·.2) = rings cs C' (cs.map (·.1)) := rings_eq cl' (fun q => isC_mem.symm) S.cok.asc (hls ▸ inv) (fun q hq => done q (by rw [hgs]; exact isC_mem.mp hq)) (by rw [← e2]; exact perm.map _) (List.pairwise_map.mpr pw)
    refine ⟨L'.map (·.1), ?_, ?_⟩
    · rw [List.map_map]
      exact PT.new ho2
    · rw [← er]
      exact prd_imm (.of s5) (unzip fun z hz => hL z (perm.mem_iff.mp hz))
end
end K1
namespace K1
open PySem PySem.Spec L2 Z K6 K9
section
variable {P : Program} {w : World} {K : PySem.W.Frag} {mg : Str → Option Value} {base : Heap} {C : Addr}
theorem ok_eq (T : Txt K mg C)  : PrE P w K mg base C "Store.__eq__" s_eq 1 (sp_eq K C) := by
  obtain ⟨f, fd, F, O⟩ := T.d_eq
  refine ⟨f, fd, F, O, F.ok sc_eq (fun vs H Q E h => ?_) (fun cdv A outer s H vs Q E hr h => ?_)⟩
  · obtain ⟨x, y, ns, cs, rfl, _⟩ := h
    rfl
  · obtain ⟨x, y, ns, cs, rfl, ⟨v, u, dx, pd, ad, ld, ks, S⟩, h⟩ := h
    have hu := hu_of hr
    refine ⟨_, (pss_one (ps_ret (pe_and (pe_callB call_isi (by rfl) T.b_isinstance (by decide +kernel) (pa_cons (pv 1) (pa_cons (pe_glob (v := V.ref C) rfl T.mgC rfl) pa_nil))) (pe_and (pe_cmpR (op_eqD hr.units) (pe_fld (pv 0) rfl) (pe_fld (pv 1) rfl) (nomark _)) (pe_one (pe_cmpR (op_eqD hr.units) (pe_fld (pv 0) rfl) (pe_fld (pv 1) rfl) (nomark _))))))), ?_⟩
    rcases h with ⟨x', ns', cs', rfl, ⟨v', u', dx', pd', ad', ld', ks', S'⟩, k⟩ | ⟨h, k⟩
    · refine ⟨_, rfl, _, _, _, _, true, rfl, .own C, .base (.ins S'.ob T.cl T.isC T.isG T.isT T.isM), T.k_self, _, rfl, iteT ?_⟩
      refine ⟨_, rfl, x, C, dx, _, _, rfl, S.ob, T.cl, T.n_names, rfl, _, rfl, x', C, dx', _, _, rfl, S'.ob, T.cl, T.n_names, rfl, nD ns, nD ns', dp_n S.nm, dp_n S'.nm, shape_n S.nok, shape_n S'.nok, _, rfl, ?_⟩
      rw [eqv_n]
      have ek : decide (ns = ns' ∧ cs = cs') = (decide (ns = ns') && decide (cs = cs')) := by simp
      rw [ek] at k
      generalize decide (ns = ns') = z at k ⊢
      cases z with
      | false => exact k
      | true =>
        refine iteT ⟨_, rfl, x, C, dx, _, _, rfl, S.ob, T.cl, T.n_cells, rfl, _, rfl, x', C, dx', _, _, rfl, S'.ob, T.cl, T.n_cells, rfl, cD cs, cD cs', dp_c S.ce, dp_c S'.ce, shape_c S.cok, shape_c S'.cok, ?_⟩
        rw [eqv_c]
        exact k
    · rcases h with ⟨z, rfl⟩ | ⟨i, rfl⟩ | ⟨a, xs, rfl, hq⟩
      · exact ⟨_, rfl, _, _, _, _, false, rfl, .own C, .base (.str z), T.k_str, _, rfl, iteF k⟩
      · exact ⟨_, rfl, _, _, _, _, false, rfl, .own C, .base (.int i), T.k_int, _, rfl, iteF k⟩
      · exact ⟨_, rfl, _, _, _, _, false, rfl, .own C, SqT.ty hq, T.k_tup, _, rfl, iteF k⟩
end
end K1
namespace K1
open PySem PySem.Spec L2 Z K6 K9
section
variable {P : Program} {w : World} {K : PySem.W.Frag} {mg : Str → Option Value} {base : Heap} {C : Addr}
theorem ok_law_right (T : Txt K mg C) (G__law_crowd : Pr P w K mg base "_law_crowd" s_law_crowd 5 ["_law_urn_here", "_law_letters_here", "_law_most"] q_crowd) (G__law_letters : Pr P w K mg base "_law_letters" s_law_letters 3 ["_law_urn_here", "_law_many"] sp_law_letters) (G__law_made : Pr P w K mg base "_law_made" s_law_made 7 ["_law_store_here"] (q_made K C)) (G__law_rings : Pr P w K mg base "_law_rings" s_law_rings 3 ["_law_store_here"] (q_rings K)) (G__law_text : Pr P w K mg base "_law_text" s_law_text 1 ["_law_store_here"] q_text) (G__law_take : Pr P w K mg base "_law_take" s_law_take 1 ["_law_urn_here", "_law_size"] q_take) (G_unasked : Pr P w K mg base "unasked" s_unasked 2 ["store"] (q_unasked K C)) (G_arrows_into : Pr P w K mg base "arrows_into" s_arrows_into 4 ["store", "place"] (q_arrows_into K C)) (G_lost_rings : Pr P w K mg base "lost_rings" s_lost_rings 4 ["store"] (q_lost_rings K C)) (G_eq : PrE P w K mg base C "Store.__eq__" s_eq 1 (sp_eq K C)) : PrG P w K mg base "_law_right" s_law_right 8 ["_law_urn_here"] sp_law_right := by
  obtain ⟨f, fd, F, gl, bd⟩ := T.d__law_right
  refine ⟨f, fd, F, gl, bd, okG F sc_law_right (fun vs H Q E h => ?_) (fun cdv A outer s H vs Q E hr hgd h => ?_)⟩
  · obtain ⟨j, rfl, _⟩ := h
    rfl
  · obtain ⟨j, rfl, hj, k⟩ := h
    have hu := hu_of hr
    refine ⟨_, (pss_cons (ps_set (i := 1) sc_law_right.nd rfl (Or.inr rfl) (pcall G__law_crowd (hr.mono (by decide)) (pa_cons (pv 0) (pa_cons (pcall G__law_letters (hr.mono (by decide)) (pa_cons (pv 0) (pa_cons (pe_op op_add pe_int (pcall G__law_take (hr.mono (by decide)) (pa_cons (pv 0) (pa_cons pe_int pa_nil)))) pa_nil))) (pa_cons pe_int pa_nil)))))
      (pss_cons (ps_asg (pe_tup (pa_cons (pcall G__law_made (hr.mono (by decide)) (pa_cons (pv 1) pa_nil)) (pa_cons (pe_lock (pe_lc (own := [("_law_at", 4)]) (g := gName 4) (tt := tYes) rfl sc_law_right.nd (pi_keys (pe_ix ix_list (pv 1) pe_int (fun _ _ => rfl))) (blkOk_by (own := [("_law_at", 4)]) (N := N_law_right) (sc := defScope s_law_right) (by decide +kernel)) (fun _ _ _ _ _ => (pg_name (i := 4) sc_law_right.nd rfl (Or.inl rfl))) (fun _ _ _ _ _ => pts_nil) (fun _ _ _ _ _ => (pe_dget hu (pe_ix (ix_listK (K := K) rfl) (pv 1) pe_int (fun _ _ => rfl)) (pv 4) (fun _ _ => rfl))))) pa_nil))) (pg_tup rfl (pgs_cons (pg_name (i := 2) sc_law_right.nd rfl (Or.inl rfl)) (pgs_cons (pg_name (i := 3) sc_law_right.nd rfl (Or.inr rfl)) pgs_nil))))
      (pss_cons (ps_for PassesOwn.never rfl (pi_list (pe_op op_cat (pe_op op_cat (pe_lst (pa_cons pe_int (pa_cons pe_int (pa_cons pe_int (pa_cons (pcall G__law_take (hr.mono (by decide)) (pa_cons (pv 0) (pa_cons pe_int pa_nil))) pa_nil))))) (pe_callTy (call_listD rfl) (by rfl) T.b_list (by decide +kernel) (pa_cons (pe_ix ix_list (pv 1) pe_int (fun _ _ => rfl)) pa_nil))) (pv 3))) (pg_name (i := 4) sc_law_right.nd rfl (Or.inl rfl))
      (pss_one (ps_if (pt_cmpR op_ne (pe_callB (call_show hgd hr.units) (by rfl) T.b_repr (by decide +kernel) (pa_cons (pe_lst (pa_cons (pcall G_arrows_into (hr.mono (by decide)) (pa_cons (pv 2) (pa_cons (pv 4) pa_nil))) (pa_cons (pcallN0 G_arrows_into (hr.mono (by decide)) kb_arrows_into (pk_cons (pv 4) (pk_cons (pv 2) pk_nil))) pa_nil))) pa_nil)) (pe_callB (call_show hgd hr.units) (by rfl) T.b_repr (by decide +kernel) (pa_cons (pe_op op_rep (pe_lst (pa_cons (pe_bm PySem.F.plainAttrs_list PySem.F.slot_list_count PySem.F.type_list_count mt_lcount (pv 3) (pa_cons (pv 4) pa_nil)) pa_nil)) pe_int) pa_nil)) (nomark _)) (pss_one (ps_ret pe_bl)) pss_nil)))
      (pss_cons (ps_set (i := 5) sc_law_right.nd rfl (Or.inr rfl) (pe_lock (pe_lc (own := [("_law_each", 7)]) (g := gName 7) (tt := tYes) rfl sc_law_right.nd (pi_keys (pe_ix ix_list (pv 1) pe_int (fun _ _ => rfl))) (blkOk_by (own := [("_law_each", 7)]) (N := N_law_right) (sc := defScope s_law_right) (by decide +kernel)) (fun _ _ _ _ _ => (pg_name (i := 7) sc_law_right.nd rfl (Or.inl rfl))) (fun _ _ _ _ _ => pts_nil) (fun _ _ _ _ _ => (pe_dget hu (pe_ix (ix_listK (K := K) rfl) (pv 1) pe_int (fun _ _ => rfl)) (pv 7) (fun _ _ => rfl))))))
      (pss_cons (ps_set (i := 6) sc_law_right.nd rfl (Or.inl rfl) (pe_callTy call_tupP (by rfl) T.b_tuple (by decide +kernel) (pa_cons (pe_lc (own := [("_law_at", 4)]) (g := gName 4) rfl sc_law_right.nd (pi_list (pe_callB (call_sortedDI rfl) (by rfl) T.b_sorted (by decide +kernel) (pa_cons (pe_ix ix_list (pv 1) pe_int (fun _ _ => rfl)) pa_nil))) (blkOk_by (own := [("_law_at", 4)]) (N := N_law_right) (sc := defScope s_law_right) (by decide +kernel)) (fun _ _ _ _ _ => (pg_name (i := 4) sc_law_right.nd rfl (Or.inl rfl))) (fun _ _ _ _ _ => (pts_one (PW.pt (pw_and (pt_cmpR (op_notIn_seqK (K := K) rfl) (pv 4) (pv 3) (by rfl)) (pw_and1 (pt_cmpR (op_notIn_seqK (K := K) rfl) (pv 4) (pv 5) (by rfl))))))) (fun _ _ _ _ _ => (pv 4))) pa_nil)))
      (pss_cons (ps_if (pt_cmpR op_ne (pe_callB (call_show hgd hr.units) (by rfl) T.b_repr (by decide +kernel) (pa_cons (pe_lst (pa_cons (pcall G_unasked (hr.mono (by decide)) (pa_cons (pv 2) pa_nil)) (pa_cons (pcallN0 G_unasked (hr.mono (by decide)) kb_unasked (pk_cons (pv 2) pk_nil)) pa_nil))) pa_nil)) (pe_callB (call_show hgd hr.units) (by rfl) T.b_repr (by decide +kernel) (pa_cons (pe_lst (pa_cons (pv 6) (pa_cons (pv 6) pa_nil))) pa_nil)) (nomark _)) (pss_one (ps_ret pe_bl)) pss_nil)
      (pss_cons (ps_set (i := 6) sc_law_right.nd rfl (Or.inl rfl) (pe_callTy call_tupP (by rfl) T.b_tuple (by decide +kernel) (pa_cons (pcall G__law_rings (hr.mono (by decide)) (pa_cons (pv 1) pa_nil)) pa_nil)))
      (pss_one (ps_ret (pe_and (pe_cmpR op_eq (pe_callB (call_show hgd hr.units) (by rfl) T.b_repr (by decide +kernel) (pa_cons (pe_lst (pa_cons (pcall G_lost_rings (hr.mono (by decide)) (pa_cons (pv 2) pa_nil)) (pa_cons (pcallN0 G_lost_rings (hr.mono (by decide)) kb_lost_rings (pk_cons (pv 2) pk_nil)) pa_nil))) pa_nil)) (pe_callB (call_show hgd hr.units) (by rfl) T.b_repr (by decide +kernel) (pa_cons (pe_lst (pa_cons (pv 6) (pa_cons (pv 6) pa_nil))) pa_nil)) (nomark _)) (pe_one (pe_cmpR op_eq (pe_fld (pv 2) rfl) (pcall G__law_text (hr.mono (by decide)) (pa_cons (pv 1) pa_nil)) (nomark _))))))))))))), ?_⟩
    refine ⟨_, rfl, _, rfl, _, rfl, j, _, rfl, hj, by decide, by decide, fun H1 k0 c1 j1 k1 k2 => ⟨_, _, rfl, rfl, ?_⟩⟩
    refine ⟨j, _, rfl, j1, by omega, by omega, fun H2 lp ls0 c2 j2 hlp hl ll lr la => ?_⟩
    refine ⟨j, lp, ls0, rfl, j2, hl, j1.ne hlp, by omega, by omega, lr, la, fun H3 s ns cs c3 j3 hs LS3 ok dok => ?_⟩
    have ns_ : s ≠ j := j2.ne hs
    have c03 : Chg j H H3 := (c1.trans c2).trans c3
    clear hl ll lr la c1 c2 c3 j1
    have c9 := dok.few
    have n4 := ok.four
    refine ⟨_, rfl, s, ns, cs, rfl, LS3, ok, dok, fun H4 x s4 hx St4 => ?_⟩
    have LS4 := LS.same s4 LS3
    have j4 := j3.same s4
    obtain ⟨d0, d1, h0, h1, h2⟩ := id LS4
    have ns0 : s ≠ d0 := fun z => by rw [z, h1] at h0; cases h0
    have ns1 : s ≠ d1 := fun z => by rw [z, h2] at h0; cases h0
    refine lcD cs (fun p => (Sum.inl p.1 : Key)) (fun p => V.int p.2) (fun p => V.int p.2) (by omega) h2 (fun od R hR => ⟨_, rfl, s, _, 1, _, rfl, rfl, .inl (.inl (by rw [upd_ne ns1]; exact h0)), at_snd, hR⟩) (fun od p H' R hm sm hR => ?_) (fun H5 pg s5 hpg hg => ?_)
    · exact ⟨rfl, _, rfl, s, _, 1, _, rfl, rfl, .inl (.inl (sm _ _ (by rw [upd_ne ns1]; exact h0))), at_snd, _, rfl, d1, _, rfl, rd_frz (sm _ _ upd_same) (val_cs dok.nd hm), hR _ (fun _ _ h => h)⟩
    obtain ⟨gs, hgs⟩ : ∃ gs, gs = cs.map (·.2) := ⟨_, rfl⟩
    have eg : (cs.map fun p => V.int p.2) = gs.map V.int := by rw [hgs, List.map_map]; rfl
    rw [eg] at hg
    have gl : gs.length ≤ 11 := by rw [hgs, List.length_map]; exact c9
    have gr : ∀ i ∈ gs, 0 ≤ i ∧ i ≤ 999 := fun i hi => by
      rw [hgs] at hi
      obtain ⟨p, hp, rfl⟩ := List.mem_map.mp hi
      exact (dok.pl p hp).2.2
    refine ⟨by show 2 ≤ sizeLine; exact sl_le (by decide), fun t ht => ⟨t, _, rfl, .inl (.inl upd_same), rfl, _, _, rfl, _, _, rfl, rfl, ?_⟩⟩
    have s6 := same_new (o := .tup [V.ref x, V.ref pg]) ht
    have s46 := s5.trans s6
    have St6 := St.same s46 St4
    have LS6 := LS.same s46 LS4
    have hg6 := s6 _ _ hg
    have j6 := j4.same s46
    have c06 : Chg j H (upd H5 t (.tup [V.ref x, V.ref pg])) := c03.trans (.of (s4.trans s46))
    have ng : pg ≠ j := (j4.ne hpg)
    generalize upd H5 t (.tup [V.ref x, V.ref pg]) = H6 at St6 LS6 hg6 j6 c06 ⊢
    clear s4 s5 s6 s46 St4 LS4 j4 h0 h1 h2 ns0 ns1 hg hpg ht LS3 c03 hx
    refine ⟨_, rfl, j, _, rfl, j6, by decide, by decide, fun H7 tk c7 j7 t0 t1 => ⟨by show 4 ≤ sizeLine; exact sl_le (by decide), fun l1 hl1 => ?_⟩⟩
    have St7 := St.cj c7 j6 St6
    have LS7 := LS.chg c7 j6 ns_ LS6
    have hg7 := c7 _ _ hg6 ng
    have c07 := c06.trans c7
    have s8 := same_new (o := .lst [V.int 0, V.int 1, V.int 999, V.int tk]) hl1
    have e1 : upd H7 l1 (.lst [V.int 0, V.int 1, V.int 999, V.int tk]) l1 = some (.lst ([0, 1, 999, tk].map V.int)) := upd_same
    have St8 := St.same s8 St7
    have LS8 := LS.same s8 LS7
    have hg8 := s8 _ _ hg7
    have c08 := c07.trans (.of s8)
    have j8 := j7.same s8
    generalize upd H7 l1 (.lst [V.int 0, V.int 1, V.int 999, V.int tk]) = H8 at e1 St8 LS8 hg8 c08 j8 ⊢
    obtain ⟨d0, d1, h0, h1, h2⟩ := id LS8
    refine ⟨_, rfl, s, _, 1, _, rfl, rfl, .inl (.inl h0), at_snd, d1, kC cs, rfl, .inl h2, fun l2 hl2 => ?_⟩
    have ek : ((kC cs).map fun kv => kV kv.1) = (cs.map (·.1)).map V.int := by
      unfold kC
      rw [List.map_map, List.map_map]
      rfl
    rw [ek]
    have s9 := same_new (o := .lst ((cs.map (·.1)).map V.int)) hl2
    have e2 : upd H8 l2 (.lst ((cs.map (·.1)).map V.int)) l2 = some (.lst ((cs.map (·.1)).map V.int)) := upd_same
    have e1 := s9 _ _ e1
    refine ⟨l1, l2, _, _, rfl, rfl, e1, e2, sl_le (by rw [List.length_map, List.length_map, List.length_map]; show 4 + cs.length ≤ 100000; omega), fun l3 hl3 => ⟨_, rfl, ?_⟩⟩
    have s10 := same_new (o := .lst ([0, 1, 999, tk].map V.int ++ (cs.map (·.1)).map V.int)) hl3
    have e3 : upd (upd H8 l2 (.lst ((cs.map (·.1)).map V.int))) l3 (.lst ([0, 1, 999, tk].map V.int ++ (cs.map (·.1)).map V.int)) l3 = some (.lst ([0, 1, 999, tk].map V.int ++ (cs.map (·.1)).map V.int)) := upd_same
    have hg10 := s10 _ _ (s9 _ _ hg8)
    refine ⟨l3, pg, _, _, rfl, rfl, e3, hg10, sl_le (by simp; omega), fun l4 hl4 => ?_⟩
    obtain ⟨zs, hzs⟩ : ∃ zs, zs = [0, 1, 999, tk] ++ cs.map (·.1) ++ gs := ⟨_, rfl⟩
    have ez : [0, 1, 999, tk].map V.int ++ (cs.map (·.1)).map V.int ++ gs.map V.int = zs.map V.int := by rw [hzs, List.map_append, List.map_append]
    rw [ez]
    have zr : ∀ z ∈ zs, 0 ≤ z ∧ z ≤ 999 := fun z hz => by
      rw [hzs] at hz
      rcases List.mem_append.mp hz with h | h
      · rcases List.mem_append.mp h with h | h
        · simp only [List.mem_cons, List.not_mem_nil, or_false] at h
          rcases h with rfl | rfl | rfl | rfl <;> omega
        · obtain ⟨p, hp, rfl⟩ := List.mem_map.mp h
          have := dok.pl p hp
          omega
      · exact gr z h
    have s11 := same_new (o := .lst (zs.map V.int)) hl4
    have e4 : upd (upd (upd H8 l2 (.lst ((cs.map (·.1)).map V.int))) l3 (.lst ([0, 1, 999, tk].map V.int ++ (cs.map (·.1)).map V.int))) l4 (.lst (zs.map V.int)) l4 = some (.lst (zs.map V.int)) := upd_same
    have s811 := (s9.trans s10).trans s11
    have St11 := St.same s811 St8
    have LS11 := LS.same s811 LS8
    have hg11 := s811 _ _ hg8
    have c11 := c08.trans (.of s811)
    generalize upd (upd (upd H8 l2 (.lst ((cs.map (·.1)).map V.int))) l3 (.lst ([0, 1, 999, tk].map V.int ++ (cs.map (·.1)).map V.int))) l4 (.lst (zs.map V.int)) = H11 at e4 St11 LS11 hg11 c11 ⊢
    clear e1 e2 e3 s9 s10 s11 s811 h0 h1 h2 hg10 St8 LS8 hg8 St7 LS7 hg7 St6 LS6 hg6 hl1 hl2 hl3 hl4 c08 c06 c7 ek ez hzs
    refine ⟨l4, rfl, ⟨_, .inl (.inl e4)⟩, ?_⟩
    refine for_list (xs := zs.map V.int) (fun i σ H' => ∃ (x4 : Option V), σ = [some (.ref j), some (.ref s), some (.ref x), some (.ref pg), x4, none, none, none] ∧ Same H11 H') ⟨_, rfl, fun _ _ h => h⟩ (fun i σ H' _ h => by obtain ⟨_, _, h⟩ := h; exact .inl (.inl (h _ _ e4))) ?_ ?_
    · rintro i xx σ H12 hx ⟨x4, rfl, s12⟩
      obtain ⟨z, ez, rfl⟩ := map_at hx
      obtain ⟨z0, z9⟩ := zr z (List.mem_of_getElem? ez)
      have St12 := St.same s12 St11
      refine ⟨_, rfl, _, rfl, x, ns, srt cs, z, rfl, St12, z0, z9, fun H13 s13 => ?_⟩
      have cn : cnt (srt cs) z = gs.count z := by rw [cnt_srt, hgs]
      rw [cn]
      refine ⟨_, rfl, _, rfl, rfl, x, ns, srt cs, z, rfl, St.same s13 St12, z0, z9, fun H14 s14 => ?_⟩
      rw [cn]
      have cl : gs.count z ≤ 11 := Nat.le_trans List.count_le_length gl
      have F : Fit (.list [.int (gs.count z : Nat), .int (gs.count z : Nat)]) 9000 3 := fit_le (fit_list (k := 5) (m := 0) fun d hd => by
        simp only [List.mem_cons, List.not_mem_nil, or_false] at hd
        rcases hd with rfl | rfl <;> exact fit_int (by omega) (by omega)) (by show (5 + 2) * 2 + 3 ≤ 9000; decide) (by decide)
      refine ⟨by show 2 ≤ sizeLine; exact sl_le (by decide), fun la1 hla1 => ?_⟩
      obtain ⟨r1, r2, r3, r4⟩ := shF (K := K) (.lst (.inl (.inl (upd_same (H := H14) (a := la1) (o := .lst [V.int (gs.count z : Nat), V.int (gs.count z : Nat)])))) (.cons (.int _) (.cons (.int _) .nil))) F
      refine ⟨_, _, rfl, r1, r2, r3, r4, ?_⟩
      have s15 := same_new (o := .lst [V.int (gs.count z : Nat), V.int (gs.count z : Nat)]) hla1
      have hg15 := s15 _ _ (s14 _ _ (s13 _ _ (s12 _ _ hg11)))
      have s1115 := ((s12.trans s13).trans s14).trans s15
      generalize upd H14 la1 (.lst [V.int (gs.count z : Nat), V.int (gs.count z : Nat)]) = H15 at hg15 s1115 ⊢
      refine ⟨_, rfl, .inl ⟨rfl, _, .inl (.inl hg15)⟩, _, rfl, pg, gs, z, rfl, rfl, .inl (.inl hg15), ?_⟩
      refine ⟨by show 1 ≤ sizeLine; exact sl_le (by decide), fun pr npr => ⟨pr, 2, _, rfl, rfl, upd_same, by decide, by decide, by show 2 ≤ sizeLine; exact sl_le (by decide), fun p2 n2 => ?_⟩⟩
      obtain ⟨r1, r2, r3, r4⟩ := shF (K := K) (.lst (.inl (.inl (upd_same (H := upd H15 pr (.lst [V.int (gs.count z : Nat)])) (a := p2) (o := .lst [V.int (gs.count z : Nat), V.int (gs.count z : Nat)])))) (.cons (.int _) (.cons (.int _) .nil))) F
      refine ⟨_, _, rfl, r1, r2, r3, r4, rfl, false, bl_ne _, iteF ⟨_, rfl, s1115.trans ((same_new npr).trans (same_new n2))⟩⟩
    rintro σ H12 ⟨x4, rfl, s12⟩
    have St12 := St.same s12 St11
    have LS12 := LS.same s12 LS11
    have hg12 := s12 _ _ hg11
    have c12 := c11.trans (.of s12)
    clear St11 LS11 hg11 c11 e4 s12 zr
    obtain ⟨d0, d1, h0, h1, h2⟩ := id LS12
    have ns0 : s ≠ d0 := fun z => by rw [z, h1] at h0; cases h0
    dsimp only
    unfold tSeq tAsg
    dsimp only
    refine lcD ns (fun p => (Sum.inr (ch p.1) : Key)) (fun p => V.int p.2) (fun p => V.int p.2) (by omega) h1 (fun od R hR => ⟨_, rfl, s, _, 0, _, rfl, rfl, .inl (.inl (by rw [upd_ne ns0]; exact h0)), at_first, hR⟩) (fun od p H' R hm sm hR => ?_) (fun H13 ps s13 hps hp => ?_)
    · exact ⟨rfl, _, rfl, s, _, 0, _, rfl, rfl, .inl (.inl (sm _ _ (by rw [upd_ne ns0]; exact h0))), at_first, _, rfl, d0, _, rfl, rd_frz (sm _ _ upd_same) (val_n ok hm), hR _ (fun _ _ h => h)⟩
    have St13 := St.same s13 St12
    have LS13 := LS.same s13 LS12
    have hg13 := s13 _ _ hg12
    have c13 := c12.trans (.of s13)
    clear h0 h1 h2 ns0 St12 LS12 hg12 c12 hps
    obtain ⟨ss, hss⟩ : ∃ ss, ss = ns.map (·.2) := ⟨_, rfl⟩
    have es : (ns.map fun p => V.int p.2) = ss.map V.int := by rw [hss, List.map_map]; rfl
    rw [es] at hp
    obtain ⟨d0, d1, h0, h1, h2⟩ := id LS13
    obtain ⟨ks, hks⟩ : ∃ ks, ks = (srt cs).map (·.1) := ⟨_, rfl⟩
    have kl : ks.length ≤ 11 := by rw [hks, List.length_map, (srt_perm cs).length_eq]; exact c9
    have kr : ∀ z ∈ ks, 0 ≤ z ∧ z ≤ 999 := fun z hz => by
      rw [hks] at hz
      obtain ⟨p, hp, rfl⟩ := List.mem_map.mp hz
      have := dok.pl p ((srt_perm cs).mem_iff.mp hp)
      omega
    unfold gName tCB tCons tNil
    dsimp only
    refine lcL ks V.int (fun z => !decide (z ∈ gs) && !decide (z ∈ ss)) V.int (by omega) (fun R hR => ?_) (fun z H' R1 R2 hz sm h1' h2' => ?_) (fun H14 D s14 hD hl => ?_)
    · refine ⟨_, rfl, s, _, 1, _, rfl, rfl, .inl (.inl h0), at_snd, d1, kC cs, _, rfl, .inl h2, ints_of_keys cs, by rw [List.length_map]; omega, fun ys q hys1 hys2 hq => ?_⟩
      obtain rfl := keys_sorted dok.nd hys1 hys2
      rw [← hks]
      exact hR q _ (same_new hq) (.inl (.inl upd_same))
    · refine ⟨rfl, _, rfl, _, rfl, pg, _, rfl, .inl (.inl (.inl (sm _ _ hg13))), rfl, flat_int _, _, rfl, ?_⟩
      show if (!inV (.int z) (gs.map V.int)) = true then _ else _
      rw [inV_int]
      by_cases hb : z ∈ gs
      · rw [decide_eq_true hb] at h1' ⊢
        exact iteF (iteF (h1' _ (fun _ _ h => h) rfl))
      · rw [decide_eq_false hb] at h1' h2' ⊢
        refine iteT ⟨_, rfl, _, rfl, ps, _, rfl, .inl (.inl (.inl (sm _ _ hp))), rfl, flat_int _, _, rfl, ?_⟩
        show if (!inV (.int z) (ss.map V.int)) = true then _ else _
        rw [inV_int]
        cases hb2 : decide (z ∈ ss) with
        | true => exact iteF (h1' _ (fun _ _ h => h) (by rw [hb2]; rfl))
        | false => exact iteT ⟨_, rfl, h2' _ (fun _ _ h => h) (by rw [hb2]; rfl)⟩
    have St14 := St.same s14 St13
    have LS14 := LS.same s14 LS13
    have c14 := c13.trans (.of s14)
    obtain ⟨du, hdu⟩ : ∃ du, du = ks.filter (fun z => !decide (z ∈ gs) && !decide (z ∈ ss)) := ⟨_, rfl⟩
    rw [← hdu] at hl
    have dul : du.length ≤ 11 := by
      rw [hdu]
      exact Nat.le_trans (List.length_filter_le _ _) kl
    have dur : ∀ z ∈ du, 0 ≤ z ∧ z ≤ 999 := fun z hz => by
      rw [hdu] at hz
      exact kr z (List.mem_filter.mp hz).1
    have une : (((srt cs).map (·.1)).filter fun z => !decide (z ∈ goals ns (srt cs))) = du := by
      rw [hdu, ← hks]
      refine List.filter_congr fun z _ => ?_
      have e : z ∈ goals ns (srt cs) ↔ z ∈ ss ∨ z ∈ gs := by
        unfold goals
        rw [List.mem_append, hss, hgs, ((srt_perm cs).map _).mem_iff]
      by_cases a : z ∈ ss <;> by_cases b : z ∈ gs <;> simp [e, a, b]
    have Fd : Fit (.tuple (du.map PyData.int)) 4000 2 := PT.ints_fit (by omega) dur
    clear h0 h1 h2 hp hg13 s13 s14 St13 LS13 c13 kr
    refine ⟨D, _, rfl, .inl (.inl hl), fun td od htd hod => ?_⟩
    have s15 := same_new (o := .frz od (.tup (du.map V.int))) htd
    have ptd : PT (upd H14 td (.frz od (.tup (du.map V.int)))) td (du.map V.int) := PT.new hod
    have St15 := St.same s15 St14
    have LS15 := LS.same s15 LS14
    have c15 := c14.trans (.of s15)
    generalize upd H14 td (.frz od (.tup (du.map V.int))) = H15 at ptd St15 LS15 c15 ⊢
    clear s15 St14 LS14 c14 hl hD htd
    refine ⟨_, rfl, x, ns, srt cs, rfl, St15, fun H16 ta s16 pa => ?_⟩
    refine ⟨_, rfl, rfl, x, ns, srt cs, rfl, St.same s16 St15, fun H17 tb s17 pb => ?_⟩
    rw [une] at pa pb
    refine ⟨by show 2 ≤ sizeLine; exact sl_le (by decide), fun m1 hm1 => ?_⟩
    have s18 := same_new (o := .lst [V.ref ta, V.ref tb]) hm1
    have e18 : upd H17 m1 (.lst [V.ref ta, V.ref tb]) m1 = some (.lst [V.ref ta, V.ref tb]) := upd_same
    obtain ⟨r1, r2, r3, r4⟩ := shF (K := K) (two_list e18 (.tup (PT.same s18 (PT.same s17 pa)).sq (dp_ints _)) (.tup (PT.same s18 pb).sq (dp_ints _))) (two_fit Fd)
    refine ⟨_, _, rfl, r1, r2, r3, r4, ?_⟩
    have s1518 := (s16.trans s17).trans s18
    have ptd18 := PT.same s1518 ptd
    generalize upd H17 m1 (.lst [V.ref ta, V.ref tb]) = H18 at s1518 ptd18 ⊢
    refine ⟨_, rfl, _, rfl, by show 2 ≤ sizeLine; exact sl_le (by decide), fun m2 hm2 => ?_⟩
    have s19 := same_new (o := .lst [V.ref td, V.ref td]) hm2
    have e19 : upd H18 m2 (.lst [V.ref td, V.ref td]) m2 = some (.lst [V.ref td, V.ref td]) := upd_same
    obtain ⟨r1, r2, r3, r4⟩ := shF (K := K) (two_list e19 (.tup (PT.same s19 ptd18).sq (dp_ints _)) (.tup (PT.same s19 ptd18).sq (dp_ints _))) (two_fit Fd)
    refine ⟨_, _, rfl, r1, r2, r3, r4, rfl, false, bl_ne _, iteF ?_⟩
    have St19 := St.same (s1518.trans s19) St15
    have LS19 := LS.same (s1518.trans s19) LS15
    have c19 := c15.trans (.of (s1518.trans s19))
    generalize upd H18 m2 (.lst [V.ref td, V.ref td]) = H19 at St19 LS19 c19 ⊢
    clear s19 e19 r1 r2 r3 r4 ptd18 s1518 s18 e18 pa pb s16 s17 St15 LS15 c15 ptd une hm1 hm2
    refine ⟨_, rfl, s, ns, cs, rfl, LS19, ok, dok, fun H20 pr s20 hpr RL20 => ?_⟩
    rw [← hks] at RL20
    obtain ⟨rs, er, prs⟩ := RL20
    refine ⟨pr, _, rfl, .inl (.inl er), fun tr orr htr hor => ?_⟩
    have s21 := same_new (o := .frz orr (.tup (rs.map V.ref))) htr
    have RT21 : RT K (upd H20 tr (.frz orr (.tup (rs.map V.ref)))) tr (rings cs (come cs ns) ks) := ⟨rs, PT.new hor, prd_imm (.of s21) prs⟩
    have s1921 := s20.trans s21
    generalize upd H20 tr (.frz orr (.tup (rs.map V.ref))) = H21 at s1921 RT21 ⊢
    have Fr : Fit (rD (rings cs (come cs ns) ks)) 4000 2 := rings_fit dok _ _ kl
    have St21 := St.same s1921 St19
    have re : rings (srt cs) (come (srt cs) ns) ((srt cs).map (·.1)) = rings cs (come cs ns) ks := by rw [rings_srt dok.nd, hks]
    refine ⟨_, rfl, x, ns, srt cs, rfl, St21, fun H22 t1 s22 R22 => ?_⟩
    refine ⟨_, rfl, rfl, x, ns, srt cs, rfl, St.same s22 St21, fun H23 t2 s23 R23 => ?_⟩
    rw [re] at R22 R23
    refine ⟨by show 2 ≤ sizeLine; exact sl_le (by decide), fun m1 hm1 => ?_⟩
    have s24 := same_new (o := .lst [V.ref t1, V.ref t2]) hm1
    have e24 : upd H23 m1 (.lst [V.ref t1, V.ref t2]) m1 = some (.lst [V.ref t1, V.ref t2]) := upd_same
    obtain ⟨r1, r2, r3, r4⟩ := shF (K := K) (two_list e24 (dp_r (RT.same (s23.trans s24) R22)) (dp_r (RT.same s24 R23))) (two_fit Fr)
    refine ⟨_, _, rfl, r1, r2, r3, r4, ?_⟩
    have s2124 := (s22.trans s23).trans s24
    have R24 := RT.same s2124 RT21
    generalize upd H23 m1 (.lst [V.ref t1, V.ref t2]) = H24 at s2124 R24 ⊢
    refine ⟨_, rfl, _, rfl, by show 2 ≤ sizeLine; exact sl_le (by decide), fun m2 hm2 => ?_⟩
    have s25 := same_new (o := .lst [V.ref tr, V.ref tr]) hm2
    have e25 : upd H24 m2 (.lst [V.ref tr, V.ref tr]) m2 = some (.lst [V.ref tr, V.ref tr]) := upd_same
    obtain ⟨r1, r2, r3, r4⟩ := shF (K := K) (two_list e25 (dp_r (RT.same s25 R24)) (dp_r (RT.same s25 R24))) (two_fit Fr)
    refine ⟨_, _, rfl, r1, r2, r3, r4, rfl, ?_⟩
    rw [decide_eq_true rfl]
    refine ⟨true, rfl, iteT ?_⟩
    have s1925 := (s1921.trans s2124).trans s25
    obtain ⟨v5, u5, dx5, pd5, ad5, ld5, kk5, S5⟩ := St.same s1925 St19
    refine ⟨_, rfl, x, C, dx5, _, _, rfl, S5.ob, T.cl, T.n_text, rfl, _, rfl, s, ns, cs, rfl, LS.same s1925 LS19, ok, dok, fun H26 s26 => ⟨rfl, ?_⟩⟩
    rw [decide_eq_true rfl]
    exact k _ (c19.trans (.of (s1925.trans s26)))
end
end K1
namespace K1
open PySem PySem.Spec L2 Z K6 K9
section
variable {P : Program} {w : World} {K : PySem.W.Frag} {mg : Str → Option Value} {base : Heap} {C : Addr}
theorem ok_law_urn (T : Txt K mg C)  : Pr P w K mg base "_law_urn" s_law_urn 1 ["_law_script", "_law_turn"] (sp_law_jug K) := by
  obtain ⟨f, fd, F, gl, bd⟩ := T.d__law_urn
  refine ⟨f, fd, F, gl, bd, F.ok sc_law_urn (fun vs H Q E h => ?_) (fun cdv A outer s H vs Q E hr h => ?_)⟩
  · obtain ⟨a, ns, t, rfl, _⟩ := h
    rfl
  · obtain ⟨a, ns, t, rfl, hs, h1, h2, hz, k⟩ := h
    have hu := hu_of hr
    refine ⟨_, (pss_cons (ps_set (i := 2) sc_law_urn.nd rfl (Or.inl rfl) (pe_ifExp (pt_cmpR op_lt (pv 1) (pe_callB call_len_seq (by rfl) T.b_len (by decide +kernel) (pa_cons (pv 0) pa_nil)) (nomark _)) (pe_callTy call_int1 (by rfl) T.b_int (by decide +kernel) (pa_cons (pe_ix ix_list (pv 0) (pv 1) (fun _ _ => rfl)) pa_nil)) (pe_op op_add (pe_op op_add (pe_op op_mul pe_int (pv 1)) pe_int) (pe_op op_modN (pe_callTy call_int1 (by rfl) T.b_int (by decide +kernel) (pa_cons (pe_callB (cr_sum rfl) (by rfl) T.b_sum (by decide +kernel) (pa_cons (pe_slice sl_list (pv 0) po_none (po_some pe_int)) pa_nil)) pa_nil)) pe_int))))
      (pss_cons (ps_set (i := 3) sc_law_urn.nd rfl (Or.inl rfl) (pe_op op_add pe_int (pe_op op_mul pe_int (pv 1))))
      (pss_cons (ps_for PassesOwn.never rfl (pi_list (pe_op op_cat (pe_slice sl_list (pv 0) po_none (po_some pe_int)) (pe_lst (pa_cons (pv 2) pa_nil)))) (pg_name (i := 4) sc_law_urn.nd rfl (Or.inl rfl))
      (pss_one (ps_set (i := 3) sc_law_urn.nd rfl (Or.inl rfl) (pe_op op_modN (pe_callTy call_int1 (by rfl) T.b_int (by decide +kernel) (pa_cons (pe_op op_add (pe_op op_add (pe_op op_mul (pv 3) pe_int) (pe_op op_modN (pe_callTy call_int1 (by rfl) T.b_int (by decide +kernel) (pa_cons (pv 4) pa_nil)) pe_int)) pe_int) pa_nil)) pe_int))))
      (pss_one (ps_ret (pe_lst (pa_cons (pe_ifExp (PW.pt (pw_or (pt_cmpR op_lt (pv 2) pe_int (nomark _)) (pw_or1 (pt_cmpR op_ge (pv 2) (pe_op op_pow pe_int pe_int) (nomark _))))) (pe_callB call_abs (by rfl) T.b_abs (by decide +kernel) (pa_cons (pv 2) pa_nil)) pe_int) (pa_cons (pv 3) (pa_cons pe_int pa_nil))))))))), ?_⟩
    have nz1 : (2147483587 : Int) ≠ 0 := by decide
    have nz2 : (999983 : Int) ≠ 0 := by decide
    by_cases ht : t < (ns.length : Int)
    case' pos =>
      obtain ⟨y, hy, hat⟩ := at_of (xs := ns.map V.int) h1 (by rw [List.length_map]; exact ht)
      obtain ⟨own, _, rfl⟩ := List.mem_map.mp hy
      refine ⟨_, rfl, _, rfl, a, _, rfl, .inl hs, _, _, rfl, rfl, true, congrArg V.bl (decide_eq_true (by rw [List.length_map]; exact ht)), iteT ?_⟩
      refine ⟨_, rfl, _, rfl, a, _, t, _, rfl, rfl, hs, hat, .inl ⟨_, rfl, ?_⟩⟩
      obtain ⟨HX, hHX⟩ : ∃ HX, HX = H := ⟨_, rfl⟩
      have sX : Same H HX := by rw [hHX]; exact fun _ _ h => h
      rw [← hHX]
      clear hHX
    case' neg =>
      refine ⟨_, rfl, _, rfl, a, _, rfl, .inl hs, _, _, rfl, rfl, false, congrArg V.bl (decide_eq_false (by rw [List.length_map]; exact ht)), iteF ?_⟩
      refine ⟨_, rfl, _, _, rfl, rfl, .inl ⟨by decide, by decide⟩, _, _, rfl, rfl, ?_⟩
      refine ⟨_, rfl, _, rfl, a, _, rfl, hs, fun l0 hl0 => ?_⟩
      obtain ⟨two, h2s⟩ : ∃ two : List Int, cutV (ns.map V.int) none (some 2) = two.map V.int := ints_all fun x hx => by
        obtain ⟨z, _, e⟩ := List.mem_map.mp (cut_mem hx)
        exact ⟨z, e.symm⟩
      have sX := same_new (o := .lst (cutV (ns.map V.int) none (some 2))) hl0
      have eX : upd H l0 (.lst (cutV (ns.map V.int) none (some 2))) l0 = some (.lst (two.map V.int)) := by rw [upd_same, h2s]
      generalize upd H l0 (.lst (cutV (ns.map V.int) none (some 2))) = HX at sX eX ⊢
      refine ⟨l0, two, rfl, .inl (.inl eX), .inl ⟨_, rfl, _, _, rfl, rfl, nz2, _, _, rfl, rfl, ?_⟩⟩
      obtain ⟨own, ho⟩ : ∃ own : Int, 104729 * t + 17 + two.sum.fmod 999983 = own := ⟨_, rfl⟩
      refine set_int (T := fun z => gName 2 z _ _ _) ho ?_
    all_goals
      have hsX := SqL_same sX hs
      refine ⟨_, rfl, _, _, rfl, rfl, .inl ⟨by decide, by decide⟩, _, _, rfl, rfl, ?_⟩
      refine ⟨_, rfl, _, rfl, a, _, rfl, hsX, fun l hl => ?_⟩
      have s1 := same_new (o := .lst (cutV (ns.map V.int) none (some 8))) hl
      have l1 : upd HX l (.lst (cutV (ns.map V.int) none (some 8))) l = some (.lst (cutV (ns.map V.int) none (some 8))) := upd_same
      generalize upd HX l (.lst (cutV (ns.map V.int) none (some 8))) = H1 at s1 l1 ⊢
      have cm : ∀ x ∈ cutV (ns.map V.int) none (some 8), ∃ z : Int, x = .int z := fun x hx => by
        obtain ⟨z, _, e⟩ := List.mem_map.mp (cut_mem hx)
        exact ⟨z, e.symm⟩
      have cl8 : (cutV (ns.map V.int) none (some 8)).length ≤ 63 := Nat.le_trans (cutV_length _ _ _) (by rw [List.length_map]; exact hz)
      generalize cutV (ns.map V.int) none (some 8) = c8 at l1 cm cl8 ⊢
      refine ⟨_, rfl, sl_le (show 1 ≤ 100000 by decide), fun lo hlo => ?_⟩
      have s2 := same_new (o := .lst [V.int own]) hlo
      have l2 : upd H1 lo (.lst [V.int own]) lo = some (.lst [V.int own]) := upd_same
      have l1' := s2 _ _ l1
      generalize upd H1 lo (.lst [V.int own]) = H2 at s2 l2 l1' ⊢
      refine ⟨l, lo, _, _, rfl, rfl, l1', l2, ?_, fun lw hlw => ?_⟩
      · exact sl_le (by show c8.length + 1 ≤ 100000; omega)
      have s3 := same_new (o := .lst (c8 ++ [V.int own])) hlw
      have l3 : upd H2 lw (.lst (c8 ++ [V.int own])) lw = some (.lst (c8 ++ [V.int own])) := upd_same
      generalize upd H2 lw (.lst (c8 ++ [V.int own])) = H3 at s3 l3 ⊢
      have cm2 : ∀ x ∈ c8 ++ [V.int own], ∃ z : Int, x = .int z := fun x hx => by
        rcases List.mem_append.mp hx with h | h
        · exact cm x h
        · exact ⟨own, List.mem_singleton.mp h⟩
      have s03 : Same H H3 := sX.trans (s1.trans (s2.trans s3))
      refine ⟨lw, rfl, ⟨_, .inl (.inl l3)⟩, ?_⟩
      refine for_list (xs := c8 ++ [V.int own]) (fun i σ H' => H' = H3 ∧ ∃ sd : Int, ∃ x, σ = [some (.ref a), some (.int t), some (.int own), some (.int sd), x] ∧ -(2 ^ 64) < sd ∧ sd < 2 ^ 64) ⟨rfl, _, _, rfl, by omega, by omega⟩ (fun i σ H' _ h => .inl (.inl (by rw [h.1]; exact l3))) ?_ ?_
      · rintro i x σ H' hx ⟨rfl, sd, x0, rfl, b1, b2⟩
        obtain ⟨z, rfl⟩ := cm2 x (List.mem_of_getElem? hx)
        refine ⟨_, rfl, _, _, rfl, rfl, .inr ⟨by decide, by decide⟩, _, rfl, .inl ⟨_, rfl, _, _, rfl, rfl, nz1, _, _, rfl, rfl, _, _, rfl, rfl, .inl ⟨_, rfl, _, _, rfl, rfl, nz1, rfl, _, _, rfl, ?_, ?_⟩⟩⟩
        · exact Int.lt_of_lt_of_le (by decide) (fm_range (by decide)).1
        · exact Int.lt_trans (fm_range (by decide)).2 (by decide)
      rintro σ H' ⟨rfl, sd, x0, rfl, b1, b2⟩
      have fin : ∀ g : Int, ∀ q, H' q = none → Q (.ref q) (upd H' q (.lst [.int g, .int sd, .int 0])) := fun g q hq =>
        k _ q (s03.trans (same_new hq)) (none_of s03 hq) ⟨_, _, _, upd_same, b1, b2⟩
      refine ⟨_, rfl, _, _, rfl, rfl, _, rfl, ?_⟩
      by_cases d1 : own < 0
      · refine ifT (decide_eq_true d1) (ifT rfl ⟨_, rfl, _, rfl, ?_⟩)
        exact ⟨_, rfl, by show 3 ≤ sizeLine; exact sl_le (by decide), fun q hq => fin _ q hq⟩
      · refine ifF (decide_eq_false d1) ⟨_, rfl, _, _, rfl, rfl, ⟨by decide, by decide, by decide⟩, _, _, rfl, rfl, _, rfl, ?_⟩
        by_cases d2 : (10 : Int) ^ (18 : Int).toNat ≤ own
        · refine ifT (decide_eq_true d2) ⟨_, rfl, _, rfl, ?_⟩
          exact ⟨_, rfl, by show 3 ≤ sizeLine; exact sl_le (by decide), fun q hq => fin _ q hq⟩
        · refine ifF (decide_eq_false d2) ?_
          exact ⟨_, rfl, by show 3 ≤ sizeLine; exact sl_le (by decide), fun q hq => fin _ q hq⟩
end
end K1
namespace K1
open PySem PySem.Spec L2 Z K6 K9
section
variable {P : Program} {w : World} {K : PySem.W.Frag} {mg : Str → Option Value} {base : Heap} {C : Addr}
theorem ok_law (T : Txt K mg C) (G__law_right : PrG P w K mg base "_law_right" s_law_right 8 ["_law_urn_here"] sp_law_right) (G__law_urn : Pr P w K mg base "_law_urn" s_law_urn 1 ["_law_script", "_law_turn"] (sp_law_jug K)) : PrG P w K mg base "law" s_law 9 ["_law_script"] (sp_law K) := by
  obtain ⟨f, fd, F, gl, bd⟩ := T.d_law
  refine ⟨f, fd, F, gl, bd, okG F sc_law (fun vs H Q E h => ?_) (fun cdv A outer s H vs Q E hr hgd h => ?_)⟩
  · obtain ⟨a, ns, rfl, _⟩ := h
    rfl
  · obtain ⟨a, ns, rfl, hs, hz, k⟩ := h
    have hu := hu_of hr
    refine ⟨_, (pss_one (ps_ret (pe_callB (cr_all rfl) (by rfl) T.b_all (by decide +kernel) (pa_cons (pe_lc (own := [("_law_turn", 1)]) (g := gName 1) (tt := tYes) rfl sc_law.nd (pi_range1 rfl T.b_range (pa_cons (pe_callB (call_max2 rfl) (by rfl) T.b_max (by decide +kernel) (pa_cons pe_int (pa_cons (pe_callB (call_min2 rfl) (by rfl) T.b_min (by decide +kernel) (pa_cons (pe_callB call_len_seq (by rfl) T.b_len (by decide +kernel) (pa_cons (pv 0) pa_nil)) (pa_cons pe_int pa_nil))) pa_nil))) pa_nil)) (blkOk_by (own := [("_law_turn", 1)]) (N := N_law) (sc := defScope s_law) (by decide +kernel)) (fun _ _ _ _ _ => (pg_name (i := 1) sc_law.nd rfl (Or.inl rfl))) (fun _ _ _ _ _ => pts_nil) (fun _ _ _ _ _ => (pcallG G__law_right (hr.mono (by decide)) hgd (pa_cons (pcall G__law_urn (hr.mono (by decide)) (pa_cons (pv 0) (pa_cons (pv 1) pa_nil))) pa_nil)))) pa_nil)))), ?_⟩
    obtain ⟨n, hn, hn2, hn3⟩ : ∃ n : Int, n = (if (if (3 : Int) < ((ns.map V.int).length : Int) then (3 : Int) else ((ns.map V.int).length : Int)) > 2 then (if (3 : Int) < ((ns.map V.int).length : Int) then (3 : Int) else ((ns.map V.int).length : Int)) else 2) ∧ 2 ≤ n ∧ n ≤ 3 := ⟨_, rfl, by split <;> omega, by split <;> split <;> omega⟩
    refine ⟨_, rfl, a, _, rfl, .inl hs, _, _, rfl, _, _, rfl, ?_⟩
    refine ⟨n, congrArg (fun z => [V.int z]) hn.symm, by omega, by omega, fun D hD => ?_⟩
    have key : a ≠ D ∨ ∀ H', SqL K H' a (ns.map V.int) := by
      rcases hs with (q | ⟨o, q⟩) | q
      · exact .inl (ne_of_none q hD)
      · exact .inl (ne_of_none q hD)
      · exact .inr fun _ => .inr q
    refine lc_it (n := n.toNat) (fun i H' => SqL K H' a (ns.map V.int) ∧ H' D = some (.lst ((List.replicate i true).map V.bl))) ⟨SqL_same (same_new hD) hs, upd_same⟩ (fun i H' hi _ => hi) (fun H' _ => Nat.le_refl _) (fun i y H' H2 hi h yl => ?_) (fun H' h => ?_)
    · obtain ⟨hs', hk⟩ := h
      obtain ⟨rfl, rfl⟩ := yl
      refine ⟨rfl, _, rfl, _, rfl, a, ns, _, rfl, hs', by omega, by omega, hz, fun H3 j s3 hj jug => ⟨j, rfl, jug, fun H4 c4 => ?_⟩⟩
      have nD : D ≠ j := ne_of_none hk hj
      have k4 := c4 _ _ (s3 _ _ hk) nD
      have q4 : SqL K H4 a (ns.map V.int) := by
        rcases hs' with (q | ⟨o, q⟩) | q
        · exact .inl (.inl (c4 _ _ (s3 _ _ q) (ne_of_none q hj)))
        · exact .inl (.inr ⟨o, c4 _ _ (s3 _ _ q) (ne_of_none q hj)⟩)
        · exact .inr q
      refine ⟨_, k4, by rw [List.length_map, List.length_replicate]; exact Nat.lt_of_lt_of_le (show i < 100 by omega) (sl_le (by decide)), ?_, by rw [upd_same, List.replicate_succ', List.map_append]; rfl⟩
      rcases key with nk | nk
      · exact SqL.chg Chg.upd nk q4
      · exact nk _
    obtain ⟨hs', hk⟩ := h
    refine ⟨D, List.replicate n.toNat true, rfl, .inl (.inl hk), ?_⟩
    have e : (List.replicate n.toNat true).all id = true := by
      rw [List.all_eq_true]
      intro b hb
      exact (List.mem_replicate.mp hb).2
    rw [e]
    exact k H'
end
end K1
/-! What the top has left, and the end. -/
namespace K1
open PySem PySem.Spec L2 Z LamX K6 K9
theorem kit_not {K : PySem.W.Frag} {C : Addr} {T : String} (icl : PySem.W.isClsIn K C = true) (tcl : PySem.W.typeIn K (.ref C) = some (.type "type")) (s : PySem.W.subIn K (.type T) (.ref C) = some false) : PySem.W.kitOne K (.type T) (.ref C) = some false := by
  have e1 : ((PySem.W.clsIn K C).isSome && PySem.W.typeIn K (.ref C) == some (.type "type")) = true := by
    rw [tcl]
    unfold PySem.W.isClsIn at icl
    rw [icl]
    rfl
  have e : PySem.W.kitCls K (.type T) (.ref C) = some false := (if_pos e1).trans s
  unfold PySem.W.kitOne
  rw [if_neg (by intro z; exact nomatch eq_of_beq z)]
  exact e
theorem kit_sub {K : PySem.W.Frag} {C D : Addr} {b : Bool} (icl : PySem.W.isClsIn K D = true) (tcl : PySem.W.typeIn K (.ref D) = some (.type "type")) (n : PySem.W.subIn K (.ref C) (.ref D) = some true) : PySem.W.kitOne K (.ref C) (.ref D) = some true := by
  have e1 : ((PySem.W.clsIn K D).isSome && PySem.W.typeIn K (.ref D) == some (.type "type")) = true := by
    rw [tcl]
    unfold PySem.W.isClsIn at icl
    rw [icl]
    rfl
  have e : PySem.W.kitCls K (.ref C) (.ref D) = some true := (if_pos e1).trans n
  unfold PySem.W.kitOne
  split
  · rfl
  · exact e
theorem kit_self {K : PySem.W.Frag} {C : Addr} : PySem.W.kitOne K (.ref C) (.ref C) = some true := by
  unfold PySem.W.kitOne
  rw [if_pos (beq_self_eq_true _)]
theorem all_mk {l : PySem.W.OpenLaw} {w : World} {K : PySem.W.Frag} {h : Heap} {mg : Str → Option Value}  {fa C f0 f1 f2 f3 f4 f5 f6 f7 f8 f9 f10 f11 f12 f13 f14 f15 f16 f17 f18 f19 f20 f21 f22 f23 f24 f25 f26 f27 f28 f29 f30 f31 f32 : Addr} {t_LETTERS t_END t_LAST_PLACE t_MOST_NAMES t_MOST_CELLS : Tok} (X : K.In h) (G : h.Ns mainGlobals mg) (hfa : mg "law" = some (.ref fa)) (TO : ∀ nm ∈ ([] : List Str), TabOf mg h nm)
    {od0 an0 od1 an1 od2 an2 od3 an3 od4 an4 od5 an5 od6 an6 od7 an7 od8 an8 od9 an9 od10 an10 od11 an11 od12 an12 od13 an13 od14 an14 od15 an15 od16 an16 od17 an17 od18 an18 od19 an19 od20 an20 od21 an21 od22 an22 od23 an23 od24 an24 od25 an25 od26 an26 od27 an27 od28 an28 od29 an29 od30 an30 od31 an31 od32 an32 : Option Addr} {sl0 sl1 sl2 sl3 sl4 sl5 sl6 sl7 sl8 sl9 sl10 sl11 sl12 sl13 sl14 sl15 sl16 sl17 sl18 sl19 sl20 sl21 sl22 sl23 sl24 sl25 sl26 sl27 sl28 sl29 sl30 sl31 sl32 : Array (Option Value)} {oc0 kV0 dc0 pm0 cd0 ct0 oc1 kV1 dc1 pm1 cd1 ct1 oc2 kV2 dc2 pm2 cd2 ct2 oc3 kV3 dc3 pm3 cd3 ct3 oc4 kV4 dc4 pm4 cd4 ct4 oc5 kV5 dc5 pm5 cd5 ct5 oc6 kV6 dc6 pm6 cd6 ct6 oc7 kV7 dc7 pm7 cd7 ct7 oc8 kV8 dc8 pm8 cd8 ct8 oc9 kV9 dc9 pm9 cd9 ct9 oc10 kV10 dc10 pm10 cd10 ct10 oc11 kV11 dc11 pm11 cd11 ct11 oc12 kV12 dc12 pm12 cd12 ct12 oc13 kV13 dc13 pm13 cd13 ct13 oc14 kV14 dc14 pm14 cd14 ct14 oc15 kV15 dc15 pm15 cd15 ct15 oc16 kV16 dc16 pm16 cd16 ct16 oc17 kV17 dc17 pm17 cd17 ct17 oc18 kV18 dc18 pm18 cd18 ct18 oc19 kV19 dc19 pm19 cd19 ct19 oc20 kV20 dc20 pm20 cd20 ct20 oc21 kV21 dc21 pm21 cd21 ct21 oc22 kV22 dc22 pm22 cd22 ct22 oc23 kV23 dc23 pm23 cd23 ct23 oc24 kV24 dc24 pm24 cd24 ct24 oc25 kV25 dc25 pm25 cd25 ct25 oc26 kV26 dc26 pm26 cd26 ct26 oc27 kV27 dc27 pm27 cd27 ct27 oc28 kV28 dc28 pm28 cd28 ct28 oc29 kV29 dc29 pm29 cd29 ct29 oc30 kV30 dc30 pm30 cd30 ct30 oc31 kV31 dc31 pm31 cd31 ct31 oc32 kV32 dc32 pm32 cd32 ct32 : Value}
    (aC : PySem.W.nsIn K mainGlobals "Store" = some (some (.ref C)))
    (a0 : PySem.W.nsIn K mainGlobals "is_number" = some (some (.ref f0)))
    (l0 : K.lookup f0 = some ⟨oc0, od0, .func (PySem.W.fnOf "is_number" "is_number" (defArgs s_is_number) (defBody s_is_number) (defScope s_is_number) .none kV0 dc0 pm0 an0 cd0 ct0), sl0⟩)
    (c0 : PySem.W.codeIn K cd0 "is_number" = true)
    (k0 : PySem.W.keepIn K (.ref f0) = true)
    (a1 : PySem.W.nsIn K mainGlobals "is_whole" = some (some (.ref f1)))
    (l1 : K.lookup f1 = some ⟨oc1, od1, .func (PySem.W.fnOf "is_whole" "is_whole" (defArgs s_is_whole) (defBody s_is_whole) (defScope s_is_whole) .none kV1 dc1 pm1 an1 cd1 ct1), sl1⟩)
    (c1 : PySem.W.codeIn K cd1 "is_whole" = true)
    (k1 : PySem.W.keepIn K (.ref f1) = true)
    (a2 : PySem.W.nsIn K mainGlobals "is_place" = some (some (.ref f2)))
    (l2 : K.lookup f2 = some ⟨oc2, od2, .func (PySem.W.fnOf "is_place" "is_place" (defArgs s_is_place) (defBody s_is_place) (defScope s_is_place) .none kV2 dc2 pm2 an2 cd2 ct2), sl2⟩)
    (c2 : PySem.W.codeIn K cd2 "is_place" = true)
    (k2 : PySem.W.keepIn K (.ref f2) = true)
    (a3 : PySem.W.nsIn K mainGlobals "is_letter" = some (some (.ref f3)))
    (l3 : K.lookup f3 = some ⟨oc3, od3, .func (PySem.W.fnOf "is_letter" "is_letter" (defArgs s_is_letter) (defBody s_is_letter) (defScope s_is_letter) .none kV3 dc3 pm3 an3 cd3 ct3), sl3⟩)
    (c3 : PySem.W.codeIn K cd3 "is_letter" = true)
    (k3 : PySem.W.keepIn K (.ref f3) = true)
    (a4 : PySem.W.nsIn K mainGlobals "is_tuple_of" = some (some (.ref f4)))
    (l4 : K.lookup f4 = some ⟨oc4, od4, .func (PySem.W.fnOf "is_tuple_of" "is_tuple_of" (defArgs s_is_tuple_of) (defBody s_is_tuple_of) (defScope s_is_tuple_of) .none kV4 dc4 pm4 an4 cd4 ct4), sl4⟩)
    (c4 : PySem.W.codeIn K cd4 "is_tuple_of" = true)
    (k4 : PySem.W.keepIn K (.ref f4) = true)
    (a5 : PySem.W.findIn K (.ref C) "__init__" = some (some (.ref f5)))
    (i5 : PySem.W.isFn K (.ref f5) = true)
    (l5 : K.lookup f5 = some ⟨oc5, od5, .func (PySem.W.fnOf "__init__" "Store.__init__" (defArgs s_init) (defBody s_init) (defScope s_init) .none kV5 dc5 pm5 an5 cd5 ct5), sl5⟩)
    (c5 : PySem.W.codeIn K cd5 "Store.__init__" = true)
    (k5 : PySem.W.keepIn K (.ref f5) = true)
    (a6 : PySem.W.findIn K (.ref C) "__eq__" = some (some (.ref f6)))
    (i6 : PySem.W.isFn K (.ref f6) = true)
    (l6 : K.lookup f6 = some ⟨oc6, od6, .func (PySem.W.fnOf "__eq__" "Store.__eq__" (defArgs s_eq) (defBody s_eq) (defScope s_eq) .none kV6 dc6 pm6 an6 cd6 ct6), sl6⟩)
    (c6 : PySem.W.codeIn K cd6 "Store.__eq__" = true)
    (k6 : PySem.W.keepIn K (.ref f6) = true)
    (a7 : PySem.W.findIn K (.ref C) "take" = some (some (.ref f7)))
    (i7 : PySem.W.isFn K (.ref f7) = true)
    (l7 : K.lookup f7 = some ⟨oc7, od7, .func (PySem.W.fnOf "take" "Store.take" (defArgs s_take) (defBody s_take) (defScope s_take) .none kV7 dc7 pm7 an7 cd7 ct7), sl7⟩)
    (c7 : PySem.W.codeIn K cd7 "Store.take" = true)
    (k7 : PySem.W.keepIn K (.ref f7) = true)
    (a8 : PySem.W.nsIn K mainGlobals "_are_store_names" = some (some (.ref f8)))
    (l8 : K.lookup f8 = some ⟨oc8, od8, .func (PySem.W.fnOf "_are_store_names" "_are_store_names" (defArgs s_are_store_names) (defBody s_are_store_names) (defScope s_are_store_names) .none kV8 dc8 pm8 an8 cd8 ct8), sl8⟩)
    (c8 : PySem.W.codeIn K cd8 "_are_store_names" = true)
    (k8 : PySem.W.keepIn K (.ref f8) = true)
    (a9 : PySem.W.nsIn K mainGlobals "_wrong_cell" = some (some (.ref f9)))
    (l9 : K.lookup f9 = some ⟨oc9, od9, .func (PySem.W.fnOf "_wrong_cell" "_wrong_cell" (defArgs s_wrong_cell) (defBody s_wrong_cell) (defScope s_wrong_cell) .none kV9 dc9 pm9 an9 cd9 ct9), sl9⟩)
    (c9 : PySem.W.codeIn K cd9 "_wrong_cell" = true)
    (k9 : PySem.W.keepIn K (.ref f9) = true)
    (a10 : PySem.W.nsIn K mainGlobals "_store_text" = some (some (.ref f10)))
    (l10 : K.lookup f10 = some ⟨oc10, od10, .func (PySem.W.fnOf "_store_text" "_store_text" (defArgs s_store_text) (defBody s_store_text) (defScope s_store_text) .none kV10 dc10 pm10 an10 cd10 ct10), sl10⟩)
    (c10 : PySem.W.codeIn K cd10 "_store_text" = true)
    (k10 : PySem.W.keepIn K (.ref f10) = true)
    (a11 : PySem.W.nsIn K mainGlobals "need_store" = some (some (.ref f11)))
    (l11 : K.lookup f11 = some ⟨oc11, od11, .func (PySem.W.fnOf "need_store" "need_store" (defArgs s_need_store) (defBody s_need_store) (defScope s_need_store) .none kV11 dc11 pm11 an11 cd11 ct11), sl11⟩)
    (c11 : PySem.W.codeIn K cd11 "need_store" = true)
    (k11 : PySem.W.keepIn K (.ref f11) = true)
    (a12 : PySem.W.nsIn K mainGlobals "reached_from" = some (some (.ref f12)))
    (l12 : K.lookup f12 = some ⟨oc12, od12, .func (PySem.W.fnOf "reached_from" "reached_from" (defArgs s_reached_from) (defBody s_reached_from) (defScope s_reached_from) .none kV12 dc12 pm12 an12 cd12 ct12), sl12⟩)
    (c12 : PySem.W.codeIn K cd12 "reached_from" = true)
    (k12 : PySem.W.keepIn K (.ref f12) = true)
    (a13 : PySem.W.nsIn K mainGlobals "reached_cells" = some (some (.ref f13)))
    (l13 : K.lookup f13 = some ⟨oc13, od13, .func (PySem.W.fnOf "reached_cells" "reached_cells" (defArgs s_reached_cells) (defBody s_reached_cells) (defScope s_reached_cells) .none kV13 dc13 pm13 an13 cd13 ct13), sl13⟩)
    (c13 : PySem.W.codeIn K cd13 "reached_cells" = true)
    (k13 : PySem.W.keepIn K (.ref f13) = true)
    (a14 : PySem.W.nsIn K mainGlobals "lost" = some (some (.ref f14)))
    (l14 : K.lookup f14 = some ⟨oc14, od14, .func (PySem.W.fnOf "lost" "lost" (defArgs s_lost) (defBody s_lost) (defScope s_lost) .none kV14 dc14 pm14 an14 cd14 ct14), sl14⟩)
    (c14 : PySem.W.codeIn K cd14 "lost" = true)
    (k14 : PySem.W.keepIn K (.ref f14) = true)
    (a15 : PySem.W.nsIn K mainGlobals "_led_to" = some (some (.ref f15)))
    (l15 : K.lookup f15 = some ⟨oc15, od15, .func (PySem.W.fnOf "_led_to" "_led_to" (defArgs s_led_to) (defBody s_led_to) (defScope s_led_to) .none kV15 dc15 pm15 an15 cd15 ct15), sl15⟩)
    (c15 : PySem.W.codeIn K cd15 "_led_to" = true)
    (k15 : PySem.W.keepIn K (.ref f15) = true)
    (a16 : PySem.W.nsIn K mainGlobals "arrows_into" = some (some (.ref f16)))
    (l16 : K.lookup f16 = some ⟨oc16, od16, .func (PySem.W.fnOf "arrows_into" "arrows_into" (defArgs s_arrows_into) (defBody s_arrows_into) (defScope s_arrows_into) .none kV16 dc16 pm16 an16 cd16 ct16), sl16⟩)
    (c16 : PySem.W.codeIn K cd16 "arrows_into" = true)
    (k16 : PySem.W.keepIn K (.ref f16) = true)
    (a17 : PySem.W.nsIn K mainGlobals "unasked" = some (some (.ref f17)))
    (l17 : K.lookup f17 = some ⟨oc17, od17, .func (PySem.W.fnOf "unasked" "unasked" (defArgs s_unasked) (defBody s_unasked) (defScope s_unasked) .none kV17 dc17 pm17 an17 cd17 ct17), sl17⟩)
    (c17 : PySem.W.codeIn K cd17 "unasked" = true)
    (k17 : PySem.W.keepIn K (.ref f17) = true)
    (a18 : PySem.W.nsIn K mainGlobals "lost_rings" = some (some (.ref f18)))
    (l18 : K.lookup f18 = some ⟨oc18, od18, .func (PySem.W.fnOf "lost_rings" "lost_rings" (defArgs s_lost_rings) (defBody s_lost_rings) (defScope s_lost_rings) .none kV18 dc18 pm18 an18 cd18 ct18), sl18⟩)
    (c18 : PySem.W.codeIn K cd18 "lost_rings" = true)
    (k18 : PySem.W.keepIn K (.ref f18) = true)
    (a19 : PySem.W.nsIn K mainGlobals "_law_urn" = some (some (.ref f19)))
    (l19 : K.lookup f19 = some ⟨oc19, od19, .func (PySem.W.fnOf "_law_urn" "_law_urn" (defArgs s_law_urn) (defBody s_law_urn) (defScope s_law_urn) .none kV19 dc19 pm19 an19 cd19 ct19), sl19⟩)
    (c19 : PySem.W.codeIn K cd19 "_law_urn" = true)
    (k19 : PySem.W.keepIn K (.ref f19) = true)
    (a20 : PySem.W.nsIn K mainGlobals "_law_take" = some (some (.ref f20)))
    (l20 : K.lookup f20 = some ⟨oc20, od20, .func (PySem.W.fnOf "_law_take" "_law_take" (defArgs s_law_take) (defBody s_law_take) (defScope s_law_take) .none kV20 dc20 pm20 an20 cd20 ct20), sl20⟩)
    (c20 : PySem.W.codeIn K cd20 "_law_take" = true)
    (k20 : PySem.W.keepIn K (.ref f20) = true)
    (a21 : PySem.W.nsIn K mainGlobals "_law_of" = some (some (.ref f21)))
    (l21 : K.lookup f21 = some ⟨oc21, od21, .func (PySem.W.fnOf "_law_of" "_law_of" (defArgs s_law_of) (defBody s_law_of) (defScope s_law_of) .none kV21 dc21 pm21 an21 cd21 ct21), sl21⟩)
    (c21 : PySem.W.codeIn K cd21 "_law_of" = true)
    (k21 : PySem.W.keepIn K (.ref f21) = true)
    (a22 : PySem.W.nsIn K mainGlobals "_law_letters" = some (some (.ref f22)))
    (l22 : K.lookup f22 = some ⟨oc22, od22, .func (PySem.W.fnOf "_law_letters" "_law_letters" (defArgs s_law_letters) (defBody s_law_letters) (defScope s_law_letters) .none kV22 dc22 pm22 an22 cd22 ct22), sl22⟩)
    (c22 : PySem.W.codeIn K cd22 "_law_letters" = true)
    (k22 : PySem.W.keepIn K (.ref f22) = true)
    (a23 : PySem.W.nsIn K mainGlobals "_law_places" = some (some (.ref f23)))
    (l23 : K.lookup f23 = some ⟨oc23, od23, .func (PySem.W.fnOf "_law_places" "_law_places" (defArgs s_law_places) (defBody s_law_places) (defScope s_law_places) .none kV23 dc23 pm23 an23 cd23 ct23), sl23⟩)
    (c23 : PySem.W.codeIn K cd23 "_law_places" = true)
    (k23 : PySem.W.keepIn K (.ref f23) = true)
    (a24 : PySem.W.nsIn K mainGlobals "_law_store" = some (some (.ref f24)))
    (l24 : K.lookup f24 = some ⟨oc24, od24, .func (PySem.W.fnOf "_law_store" "_law_store" (defArgs s_law_store) (defBody s_law_store) (defScope s_law_store) .none kV24 dc24 pm24 an24 cd24 ct24), sl24⟩)
    (c24 : PySem.W.codeIn K cd24 "_law_store" = true)
    (k24 : PySem.W.keepIn K (.ref f24) = true)
    (a25 : PySem.W.nsIn K mainGlobals "_law_text" = some (some (.ref f25)))
    (l25 : K.lookup f25 = some ⟨oc25, od25, .func (PySem.W.fnOf "_law_text" "_law_text" (defArgs s_law_text) (defBody s_law_text) (defScope s_law_text) .none kV25 dc25 pm25 an25 cd25 ct25), sl25⟩)
    (c25 : PySem.W.codeIn K cd25 "_law_text" = true)
    (k25 : PySem.W.keepIn K (.ref f25) = true)
    (a26 : PySem.W.nsIn K mainGlobals "_law_made" = some (some (.ref f26)))
    (l26 : K.lookup f26 = some ⟨oc26, od26, .func (PySem.W.fnOf "_law_made" "_law_made" (defArgs s_law_made) (defBody s_law_made) (defScope s_law_made) .none kV26 dc26 pm26 an26 cd26 ct26), sl26⟩)
    (c26 : PySem.W.codeIn K cd26 "_law_made" = true)
    (k26 : PySem.W.keepIn K (.ref f26) = true)
    (a27 : PySem.W.nsIn K mainGlobals "_law_way" = some (some (.ref f27)))
    (l27 : K.lookup f27 = some ⟨oc27, od27, .func (PySem.W.fnOf "_law_way" "_law_way" (defArgs s_law_way) (defBody s_law_way) (defScope s_law_way) .none kV27 dc27 pm27 an27 cd27 ct27), sl27⟩)
    (c27 : PySem.W.codeIn K cd27 "_law_way" = true)
    (k27 : PySem.W.keepIn K (.ref f27) = true)
    (a28 : PySem.W.nsIn K mainGlobals "_law_reached" = some (some (.ref f28)))
    (l28 : K.lookup f28 = some ⟨oc28, od28, .func (PySem.W.fnOf "_law_reached" "_law_reached" (defArgs s_law_reached) (defBody s_law_reached) (defScope s_law_reached) .none kV28 dc28 pm28 an28 cd28 ct28), sl28⟩)
    (c28 : PySem.W.codeIn K cd28 "_law_reached" = true)
    (k28 : PySem.W.keepIn K (.ref f28) = true)
    (a29 : PySem.W.nsIn K mainGlobals "_law_rings" = some (some (.ref f29)))
    (l29 : K.lookup f29 = some ⟨oc29, od29, .func (PySem.W.fnOf "_law_rings" "_law_rings" (defArgs s_law_rings) (defBody s_law_rings) (defScope s_law_rings) .none kV29 dc29 pm29 an29 cd29 ct29), sl29⟩)
    (c29 : PySem.W.codeIn K cd29 "_law_rings" = true)
    (k29 : PySem.W.keepIn K (.ref f29) = true)
    (a30 : PySem.W.nsIn K mainGlobals "_law_crowd" = some (some (.ref f30)))
    (l30 : K.lookup f30 = some ⟨oc30, od30, .func (PySem.W.fnOf "_law_crowd" "_law_crowd" (defArgs s_law_crowd) (defBody s_law_crowd) (defScope s_law_crowd) .none kV30 dc30 pm30 an30 cd30 ct30), sl30⟩)
    (c30 : PySem.W.codeIn K cd30 "_law_crowd" = true)
    (k30 : PySem.W.keepIn K (.ref f30) = true)
    (a31 : PySem.W.nsIn K mainGlobals "_law_right" = some (some (.ref f31)))
    (l31 : K.lookup f31 = some ⟨oc31, od31, .func (PySem.W.fnOf "_law_right" "_law_right" (defArgs s_law_right) (defBody s_law_right) (defScope s_law_right) .none kV31 dc31 pm31 an31 cd31 ct31), sl31⟩)
    (c31 : PySem.W.codeIn K cd31 "_law_right" = true)
    (k31 : PySem.W.keepIn K (.ref f31) = true)
    (a32 : PySem.W.nsIn K mainGlobals "law" = some (some (.ref f32)))
    (l32 : K.lookup f32 = some ⟨oc32, od32, .func (PySem.W.fnOf "law" "law" (defArgs s_law) (defBody s_law) (defScope s_law) .none kV32 dc32 pm32 an32 cd32 ct32), sl32⟩)
    (c32 : PySem.W.codeIn K cd32 "law" = true)
    (k32 : PySem.W.keepIn K (.ref f32) = true)
    (pg : PySem.W.plainGet K C Str.empty = true)
    (hd : PySem.W.hasDictIn K C = true)
    (po : PySem.W.plainOver K C = true)
    (sa : PySem.W.findIn K (.ref C) "__setattr__" = some (some (.builtin "object.__setattr__")))
    (mk : PySem.W.makesIn K C = true)
    (kc : PySem.W.keepIn K (.ref C) = true)
    (n_names : PySem.W.findIn K (.ref C) "names" = some none)
    (n_cells : PySem.W.findIn K (.ref C) "cells" = some none)
    (n_letters : PySem.W.findIn K (.ref C) "letters" = some none)
    (n_text : PySem.W.findIn K (.ref C) "text" = some none)
    (n_places : PySem.W.findIn K (.ref C) "places" = some none)
    (n_arrows : PySem.W.findIn K (.ref C) "arrows" = some none)
    (n_led_to : PySem.W.findIn K (.ref C) "led_to" = some none)
    (isC : PySem.W.findIn K (.ref C) "__class__" = some (some (.builtin "object.__class__")))
    (isG : PySem.W.specialIn K (.builtin "object.__class__") "__get__" = some (some (.builtin "getset_descriptor.__get__")))
    (isT : PySem.W.takesIn K (.builtin "object.__class__") = some true)
    (isM : PySem.W.mroIn K C (.type "object") = some true)
    (neq : PySem.W.findIn K (.ref C) "__ne__" = some (some (.builtin "object.__ne__")))
    (icl : PySem.W.isClsIn K C = true)
    (tcl : PySem.W.typeIn K (.ref C) = some (.type "type"))
    (s_str : PySem.W.subIn K (.type "str") (.ref C) = some false)
    (f_str : PySem.W.notFirst K C (.type "str") = true)
    (s_int : PySem.W.subIn K (.type "int") (.ref C) = some false)
    (f_int : PySem.W.notFirst K C (.type "int") = true)
    (s_tuple : PySem.W.subIn K (.type "tuple") (.ref C) = some false)
    (f_tuple : PySem.W.notFirst K C (.type "tuple") = true)
    (z_isinstance : PySem.W.nsIn K mainGlobals "isinstance" = some none)
    (z_int : PySem.W.nsIn K mainGlobals "int" = some none)
    (z_bool : PySem.W.nsIn K mainGlobals "bool" = some none)
    (z_str : PySem.W.nsIn K mainGlobals "str" = some none)
    (z_len : PySem.W.nsIn K mainGlobals "len" = some none)
    (z_tuple : PySem.W.nsIn K mainGlobals "tuple" = some none)
    (z_dict : PySem.W.nsIn K mainGlobals "dict" = some none)
    (z_list : PySem.W.nsIn K mainGlobals "list" = some none)
    (z_enumerate : PySem.W.nsIn K mainGlobals "enumerate" = some none)
    (z_range : PySem.W.nsIn K mainGlobals "range" = some none)
    (z_divmod : PySem.W.nsIn K mainGlobals "divmod" = some none)
    (z_abs : PySem.W.nsIn K mainGlobals "abs" = some none)
    (z_sorted : PySem.W.nsIn K mainGlobals "sorted" = some none)
    (z_repr : PySem.W.nsIn K mainGlobals "repr" = some none)
    (z_all : PySem.W.nsIn K mainGlobals "all" = some none)
    (z_max : PySem.W.nsIn K mainGlobals "max" = some none)
    (z_min : PySem.W.nsIn K mainGlobals "min" = some none)
    (z_sum : PySem.W.nsIn K mainGlobals "sum" = some none)
    (g_LETTERS : PySem.W.nsIn K mainGlobals "LETTERS" = some (some (.str "abcdefghijklmnopqrstuvwxyz" t_LETTERS)))
    (g_END : PySem.W.nsIn K mainGlobals "END" = some (some (.int 0 t_END)))
    (g_LAST_PLACE : PySem.W.nsIn K mainGlobals "LAST_PLACE" = some (some (.int 999 t_LAST_PLACE)))
    (g_MOST_NAMES : PySem.W.nsIn K mainGlobals "MOST_NAMES" = some (some (.int 4 t_MOST_NAMES)))
    (g_MOST_CELLS : PySem.W.nsIn K mainGlobals "MOST_CELLS" = some (some (.int 500 t_MOST_CELLS))) :
    LawAtG l w K 9 63 "_law_script" mg fa h := by
  have e := hfa.symm.trans (PySem.W.mg_of X G a32)
  cases e
  have F0 := fun_mk (st := s_is_number) l0 c0 k0
  have b0 := F0.binds (ps := ["value"]) fun _ _ _ _ _ _ us hl => match us, hl with | [_], _ => rfl
  have F1 := fun_mk (st := s_is_whole) l1 c1 k1
  have b1 := F1.binds (ps := ["value", "low", "high"]) fun _ _ _ _ _ _ us hl => match us, hl with | [_, _, _], _ => rfl
  have F2 := fun_mk (st := s_is_place) l2 c2 k2
  have b2 := F2.binds (ps := ["value"]) fun _ _ _ _ _ _ us hl => match us, hl with | [_], _ => rfl
  have F3 := fun_mk (st := s_is_letter) l3 c3 k3
  have b3 := F3.binds (ps := ["value"]) fun _ _ _ _ _ _ us hl => match us, hl with | [_], _ => rfl
  have F4 := fun_mk (st := s_is_tuple_of) l4 c4 k4
  have b4 := F4.binds (ps := ["value", "many"]) fun _ _ _ _ _ _ us hl => match us, hl with | [_, _], _ => rfl
  have F5 := fun_mk (st := s_init) l5 c5 k5
  have b5 := F5.binds (ps := ["self", "names", "cells"]) fun _ _ _ _ _ _ us hl => match us, hl with | [_, _, _], _ => rfl
  have F6 := fun_mk (st := s_eq) l6 c6 k6
  have b6 := F6.binds (ps := ["self", "other"]) fun _ _ _ _ _ _ us hl => match us, hl with | [_, _], _ => rfl
  have F7 := fun_mk (st := s_take) l7 c7 k7
  have b7 := F7.binds (ps := ["self", "names", "cells"]) fun _ _ _ _ _ _ us hl => match us, hl with | [_, _, _], _ => rfl
  have F8 := fun_mk (st := s_are_store_names) l8 c8 k8
  have b8 := F8.binds (ps := ["value"]) fun _ _ _ _ _ _ us hl => match us, hl with | [_], _ => rfl
  have F9 := fun_mk (st := s_wrong_cell) l9 c9 k9
  have b9 := F9.binds (ps := ["cells"]) fun _ _ _ _ _ _ us hl => match us, hl with | [_], _ => rfl
  have F10 := fun_mk (st := s_store_text) l10 c10 k10
  have b10 := F10.binds (ps := ["names", "cells"]) fun _ _ _ _ _ _ us hl => match us, hl with | [_, _], _ => rfl
  have F11 := fun_mk (st := s_need_store) l11 c11 k11
  have b11 := F11.binds (ps := ["value"]) fun _ _ _ _ _ _ us hl => match us, hl with | [_], _ => rfl
  have F12 := fun_mk (st := s_reached_from) l12 c12 k12
  have b12 := F12.binds (ps := ["names", "arrows"]) fun _ _ _ _ _ _ us hl => match us, hl with | [_, _], _ => rfl
  have F13 := fun_mk (st := s_reached_cells) l13 c13 k13
  have b13 := F13.binds (ps := ["store"]) fun _ _ _ _ _ _ us hl => match us, hl with | [_], _ => rfl
  have F14 := fun_mk (st := s_lost) l14 c14 k14
  have b14 := F14.binds (ps := ["store"]) fun _ _ _ _ _ _ us hl => match us, hl with | [_], _ => rfl
  have F15 := fun_mk (st := s_led_to) l15 c15 k15
  have b15 := F15.binds (ps := ["places", "arrows"]) fun _ _ _ _ _ _ us hl => match us, hl with | [_, _], _ => rfl
  have F16 := fun_mk (st := s_arrows_into) l16 c16 k16
  have b16 := F16.binds (ps := ["store", "place"]) fun _ _ _ _ _ _ us hl => match us, hl with | [_, _], _ => rfl
  have F17 := fun_mk (st := s_unasked) l17 c17 k17
  have b17 := F17.binds (ps := ["store"]) fun _ _ _ _ _ _ us hl => match us, hl with | [_], _ => rfl
  have F18 := fun_mk (st := s_lost_rings) l18 c18 k18
  have b18 := F18.binds (ps := ["store"]) fun _ _ _ _ _ _ us hl => match us, hl with | [_], _ => rfl
  have F19 := fun_mk (st := s_law_urn) l19 c19 k19
  have b19 := F19.binds (ps := ["_law_script", "_law_turn"]) fun _ _ _ _ _ _ us hl => match us, hl with | [_, _], _ => rfl
  have F20 := fun_mk (st := s_law_take) l20 c20 k20
  have b20 := F20.binds (ps := ["_law_urn_here", "_law_size"]) fun _ _ _ _ _ _ us hl => match us, hl with | [_, _], _ => rfl
  have F21 := fun_mk (st := s_law_of) l21 c21 k21
  have b21 := F21.binds (ps := ["_law_urn_here", "_law_some"]) fun _ _ _ _ _ _ us hl => match us, hl with | [_, _], _ => rfl
  have F22 := fun_mk (st := s_law_letters) l22 c22 k22
  have b22 := F22.binds (ps := ["_law_urn_here", "_law_many"]) fun _ _ _ _ _ _ us hl => match us, hl with | [_, _], _ => rfl
  have F23 := fun_mk (st := s_law_places) l23 c23 k23
  have b23 := F23.binds (ps := ["_law_urn_here", "_law_many"]) fun _ _ _ _ _ _ us hl => match us, hl with | [_, _], _ => rfl
  have F24 := fun_mk (st := s_law_store) l24 c24 k24
  have b24 := F24.binds (ps := ["_law_urn_here", "_law_letters_here", "_law_most"]) fun _ _ _ _ _ _ us hl => match us, hl with | [_, _, _], _ => rfl
  have F25 := fun_mk (st := s_law_text) l25 c25 k25
  have b25 := F25.binds (ps := ["_law_store_here"]) fun _ _ _ _ _ _ us hl => match us, hl with | [_], _ => rfl
  have F26 := fun_mk (st := s_law_made) l26 c26 k26
  have b26 := F26.binds (ps := ["_law_store_here"]) fun _ _ _ _ _ _ us hl => match us, hl with | [_], _ => rfl
  have F27 := fun_mk (st := s_law_way) l27 c27 k27
  have b27 := F27.binds (ps := ["_law_store_here", "_law_at"]) fun _ _ _ _ _ _ us hl => match us, hl with | [_, _], _ => rfl
  have F28 := fun_mk (st := s_law_reached) l28 c28 k28
  have b28 := F28.binds (ps := ["_law_store_here"]) fun _ _ _ _ _ _ us hl => match us, hl with | [_], _ => rfl
  have F29 := fun_mk (st := s_law_rings) l29 c29 k29
  have b29 := F29.binds (ps := ["_law_store_here"]) fun _ _ _ _ _ _ us hl => match us, hl with | [_], _ => rfl
  have F30 := fun_mk (st := s_law_crowd) l30 c30 k30
  have b30 := F30.binds (ps := ["_law_urn_here", "_law_letters_here", "_law_most"]) fun _ _ _ _ _ _ us hl => match us, hl with | [_, _, _], _ => rfl
  have F31 := fun_mk (st := s_law_right) l31 c31 k31
  have b31 := F31.binds (ps := ["_law_urn_here"]) fun _ _ _ _ _ _ us hl => match us, hl with | [_], _ => rfl
  have F32 := fun_mk (st := s_law) l32 c32 k32
  have b32 := F32.binds (ps := ["_law_script"]) fun _ _ _ _ _ _ us hl => match us, hl with | [_], _ => rfl
  have T : Txt K mg C := {
    b_isinstance := PySem.W.mg_none_of X G z_isinstance
    b_int := PySem.W.mg_none_of X G z_int
    b_bool := PySem.W.mg_none_of X G z_bool
    b_str := PySem.W.mg_none_of X G z_str
    b_len := PySem.W.mg_none_of X G z_len
    b_tuple := PySem.W.mg_none_of X G z_tuple
    b_dict := PySem.W.mg_none_of X G z_dict
    b_list := PySem.W.mg_none_of X G z_list
    b_enumerate := PySem.W.mg_none_of X G z_enumerate
    b_range := PySem.W.mg_none_of X G z_range
    b_divmod := PySem.W.mg_none_of X G z_divmod
    b_abs := PySem.W.mg_none_of X G z_abs
    b_sorted := PySem.W.mg_none_of X G z_sorted
    b_repr := PySem.W.mg_none_of X G z_repr
    b_all := PySem.W.mg_none_of X G z_all
    b_max := PySem.W.mg_none_of X G z_max
    b_min := PySem.W.mg_none_of X G z_min
    b_sum := PySem.W.mg_none_of X G z_sum
    c_LETTERS := ⟨_, PySem.W.mg_of X G g_LETTERS⟩
    c_END := ⟨_, PySem.W.mg_of X G g_END⟩
    c_LAST_PLACE := ⟨_, PySem.W.mg_of X G g_LAST_PLACE⟩
    c_MOST_NAMES := ⟨_, PySem.W.mg_of X G g_MOST_NAMES⟩
    c_MOST_CELLS := ⟨_, PySem.W.mg_of X G g_MOST_CELLS⟩
    mgC := PySem.W.mg_of X G aC
    cl := ⟨pg, hd, po, sa⟩
    n_names := n_names
    n_cells := n_cells
    n_letters := n_letters
    n_text := n_text
    n_places := n_places
    n_arrows := n_arrows
    n_led_to := n_led_to
    isC := isC
    isG := isG
    isT := isT
    isM := isM
    k_self := kit_self
    k_str := kit_not icl tcl s_str
    k_int := kit_not icl tcl s_int
    k_tup := kit_not icl tcl s_tuple
    f_str := f_str
    f_int := f_int
    f_tup := f_tuple
    d_is_number := ⟨_, _, F0, PySem.W.mg_of X G a0, b0⟩
    d_is_whole := ⟨_, _, F1, PySem.W.mg_of X G a1, b1⟩
    d_is_place := ⟨_, _, F2, PySem.W.mg_of X G a2, b2⟩
    d_is_letter := ⟨_, _, F3, PySem.W.mg_of X G a3, b3⟩
    d_is_tuple_of := ⟨_, _, F4, PySem.W.mg_of X G a4, b4⟩
    d_init := ⟨_, _, F5, ⟨mk, a5, i5, kc⟩, b5⟩
    d_eq := ⟨_, _, F6, ⟨a6, i6, neq, isM, b6⟩⟩
    d_take := ⟨_, _, F7, ⟨a7, i7, k7⟩, b7⟩
    d__are_store_names := ⟨_, _, F8, PySem.W.mg_of X G a8, b8⟩
    d__wrong_cell := ⟨_, _, F9, PySem.W.mg_of X G a9, b9⟩
    d__store_text := ⟨_, _, F10, PySem.W.mg_of X G a10, b10⟩
    d_need_store := ⟨_, _, F11, PySem.W.mg_of X G a11, b11⟩
    d_reached_from := ⟨_, _, F12, PySem.W.mg_of X G a12, b12⟩
    d_reached_cells := ⟨_, _, F13, PySem.W.mg_of X G a13, b13⟩
    d_lost := ⟨_, _, F14, PySem.W.mg_of X G a14, b14⟩
    d__led_to := ⟨_, _, F15, PySem.W.mg_of X G a15, b15⟩
    d_arrows_into := ⟨_, _, F16, PySem.W.mg_of X G a16, b16⟩
    d_unasked := ⟨_, _, F17, PySem.W.mg_of X G a17, b17⟩
    d_lost_rings := ⟨_, _, F18, PySem.W.mg_of X G a18, b18⟩
    d__law_urn := ⟨_, _, F19, PySem.W.mg_of X G a19, b19⟩
    d__law_take := ⟨_, _, F20, PySem.W.mg_of X G a20, b20⟩
    d__law_of := ⟨_, _, F21, PySem.W.mg_of X G a21, b21⟩
    d__law_letters := ⟨_, _, F22, PySem.W.mg_of X G a22, b22⟩
    d__law_places := ⟨_, _, F23, PySem.W.mg_of X G a23, b23⟩
    d__law_store := ⟨_, _, F24, PySem.W.mg_of X G a24, b24⟩
    d__law_text := ⟨_, _, F25, PySem.W.mg_of X G a25, b25⟩
    d__law_made := ⟨_, _, F26, PySem.W.mg_of X G a26, b26⟩
    d__law_way := ⟨_, _, F27, PySem.W.mg_of X G a27, b27⟩
    d__law_reached := ⟨_, _, F28, PySem.W.mg_of X G a28, b28⟩
    d__law_rings := ⟨_, _, F29, PySem.W.mg_of X G a29, b29⟩
    d__law_crowd := ⟨_, _, F30, PySem.W.mg_of X G a30, b30⟩
    d__law_right := ⟨_, _, F31, PySem.W.mg_of X G a31, b31⟩
    d_law := ⟨_, _, F32, PySem.W.mg_of X G a32, b32⟩
  }
  refine ⟨PySem.W.fnOf "law" "law" (defArgs s_law) (defBody s_law) (defScope s_law) .none kV32 dc32 pm32 an32 cd32 ct32, [], (sp_law K), ?_, ?_, ?_, fun s v => .of_eq rfl, ?_, fun base _ _ TB => ?_⟩
  · exact fun p hp => by cases hp
  · exact fun p hp => by cases hp
  · exact fun p hp => by cases hp
  · exact fun H a ns hl _ hS => ⟨a, ns, rfl, hS, hl, fun _ => rfl⟩
  have G__law_take : Pr l.prog w K mg base "_law_take" s_law_take 1 ["_law_urn_here", "_law_size"] q_take := ok_law_take T 
  have G__law_of : Pr l.prog w K mg base "_law_of" s_law_of 2 ["_law_urn_here", "_law_some"] (sp_law_one_of K) := ok_law_of T G__law_take
  have G__law_places : Pr l.prog w K mg base "_law_places" s_law_places 3 ["_law_urn_here", "_law_many"] q_places := ok_law_places T G__law_of G__law_take
  have G__law_store : Pr l.prog w K mg base "_law_store" s_law_store 4 ["_law_urn_here", "_law_letters_here", "_law_most"] q_store := ok_law_store T G__law_places G__law_of G__law_take
  have G__law_crowd : Pr l.prog w K mg base "_law_crowd" s_law_crowd 5 ["_law_urn_here", "_law_letters_here", "_law_most"] q_crowd := ok_law_crowd T G__law_store G__law_take
  have G__law_letters : Pr l.prog w K mg base "_law_letters" s_law_letters 3 ["_law_urn_here", "_law_many"] sp_law_letters := ok_law_letters T G__law_of
  have G_is_tuple_of : Pr l.prog w K mg base "is_tuple_of" s_is_tuple_of 1 ["value", "many"] (sp_is_tuple_of K) := ok_is_tuple_of T 
  have G_is_number : Pr l.prog w K mg base "is_number" s_is_number 1 ["value"] sp_is_number := ok_is_number T 
  have G_is_whole : Pr l.prog w K mg base "is_whole" s_is_whole 2 ["value", "low", "high"] sp_is_whole := ok_is_whole T G_is_number
  have G_is_place : Pr l.prog w K mg base "is_place" s_is_place 3 ["value"] sp_is_place := ok_is_place T G_is_whole
  have G__wrong_cell : Pr l.prog w K mg base "_wrong_cell" s_wrong_cell 4 ["cells"] (sp_wrong_cell K) := ok_wrong_cell T G_is_tuple_of G_is_place
  have G__store_text : Pr l.prog w K mg base "_store_text" s_store_text 1 ["names", "cells"] (sp_store_text K) := ok_store_text T 
  have G_take : PrM l.prog w K mg base C "take" "Store.take" s_take 2 ["self", "names", "cells"] (sp_take K C) := ok_take T G__store_text
  have G_is_letter : Pr l.prog w K mg base "is_letter" s_is_letter 1 ["value"] sp_is_letter := ok_is_letter T 
  have G__are_store_names : Pr l.prog w K mg base "_are_store_names" s_are_store_names 4 ["value"] (sp_are_store_names K) := ok_are_store_names T G_is_tuple_of G_is_letter G_is_place
  have G_init : PrI l.prog w K mg base C "Store.__init__" s_init 5 ["self", "names", "cells"] (sp_init K C) := ok_init T G__wrong_cell G_take G__are_store_names
  have G__law_made : Pr l.prog w K mg base "_law_made" s_law_made 7 ["_law_store_here"] (q_made K C) := ok_law_made T G_init
  have G__law_way : Pr l.prog w K mg base "_law_way" s_law_way 1 ["_law_store_here", "_law_at"] q_way := ok_law_way T 
  have G__law_reached : Pr l.prog w K mg base "_law_reached" s_law_reached 2 ["_law_store_here"] q_reached := ok_law_reached T G__law_way
  have G__law_rings : Pr l.prog w K mg base "_law_rings" s_law_rings 3 ["_law_store_here"] (q_rings K) := ok_law_rings T G__law_reached G__law_way
  have G__law_text : Pr l.prog w K mg base "_law_text" s_law_text 1 ["_law_store_here"] q_text := ok_law_text T 
  have G_need_store : Pr l.prog w K mg base "need_store" s_need_store 1 ["value"] (q_need_store K C) := ok_need_store T 
  have G_unasked : Pr l.prog w K mg base "unasked" s_unasked 2 ["store"] (q_unasked K C) := ok_unasked T G_need_store
  have G__led_to : Pr l.prog w K mg base "_led_to" s_led_to 1 ["places", "arrows"] q_led_to := ok_led_to T 
  have G_arrows_into : Pr l.prog w K mg base "arrows_into" s_arrows_into 4 ["store", "place"] (q_arrows_into K C) := ok_arrows_into T G_need_store G_is_place G__led_to
  have G_reached_from : Pr l.prog w K mg base "reached_from" s_reached_from 1 ["names", "arrows"] (q_reached_from K) := ok_reached_from T 
  have G_reached_cells : Pr l.prog w K mg base "reached_cells" s_reached_cells 2 ["store"] (sp_reached_cells K C) := ok_reached_cells T G_reached_from
  have G_lost : Pr l.prog w K mg base "lost" s_lost 3 ["store"] (sp_lost K C) := ok_lost T G_need_store G_reached_cells
  have G_lost_rings : Pr l.prog w K mg base "lost_rings" s_lost_rings 4 ["store"] (q_lost_rings K C) := ok_lost_rings T G_lost
  have G_eq : PrE l.prog w K mg base C "Store.__eq__" s_eq 1 (sp_eq K C) := ok_eq T 
  have G__law_right : PrG l.prog w K mg base "_law_right" s_law_right 8 ["_law_urn_here"] sp_law_right := ok_law_right T G__law_crowd G__law_letters G__law_made G__law_rings G__law_text G__law_take G_unasked G_arrows_into G_lost_rings G_eq
  have G__law_urn : Pr l.prog w K mg base "_law_urn" s_law_urn 1 ["_law_script", "_law_turn"] (sp_law_jug K) := ok_law_urn T 
  have G_law : PrG l.prog w K mg base "law" s_law 9 ["_law_script"] (sp_law K) := ok_law T G__law_right G__law_urn
  obtain ⟨f, fd, F, gl, bd, R⟩ := G_law
  have e1 := gl.symm.trans (PySem.W.mg_of X G a32)
  cases e1
  obtain ⟨x1, x2, x3, x4, x5, x6, x7, x8, x9, e2, lk, _⟩ := F.ex
  rw [l32] at lk
  injection lk with lk
  injection lk with _ _ l3 _
  injection l3 with l4
  first | rw [← l4] at R | rw [l4] at R | rw [e2, ← l4] at R
  exact R
theorem walk {l : PySem.W.OpenLaw} {q : Program} {loose : List Str} {XP : (Str → Option Value) → Heap → Prop} {YP : World → Heap → Prop} {d : DefRec} {K : Params → PySem.W.Frag} (hn : l.most = some 63) (hdf : d.params.defaults = [])
    (hrec : (([] : List Str).all fun nm => (PyProof.Rows.recsOf q).any fun e => e.name == nm) = true) (hY : ∀ (w : World) (h : Heap), YP w h → (K w.params).In h)
    (F : ∀ (w : World) (mg : Str → Option Value) (fa : Addr) (h : Heap), (K w.params).In h → h.Ns mainGlobals mg → mg d.name = some (.ref fa) → (∀ nm ∈ ([] : List Str), TabOf mg h nm) → LawAtG l w (K w.params) 9 63 "_law_script" mg fa h) :
    PySem.W.WalkO q loose XP YP l.row.toRowW d [] (fun f vs => PySem.call f vs) :=
  walkGT2 (n := 63) (k := 9) (x := "_law_script") hn (by decide) hdf ⟨rfl, by decide, by decide⟩ hY _ hrec F
end K1
open PySem PySem.W PyProof.Rows
set_option maxRecDepth 100000 in
set_option maxHeartbeats 0 in
theorem PySem.Challenge.cw_arrowcells_k79_whole_arrows_and_lost_rin_holds : PySem.Challenge.rw_arrowcells_k79_whole_arrows_and_lost_rin.Holds := by
  w_on; o_law; k_head; (case hw => w_witness2)
  k_fill
  refine K1.walk (l := PySem.Challenge.rw_arrowcells_k79_whole_arrows_and_lost_rin) rfl rfl (by decide +kernel) (fun w h Y => by first | exact PySem.W.kIn_of Y | exact PySem.W.km_in_of Y) ?F
  case F =>
    intro w mg fa h KX G hmg TO
    refine' K1.all_mk KX G hmg TO ?aC ?a0 ?l0 ?c0 ?k0 ?a1 ?l1 ?c1 ?k1 ?a2 ?l2 ?c2 ?k2 ?a3 ?l3 ?c3 ?k3 ?a4 ?l4 ?c4 ?k4 ?a5 ?i5 ?l5 ?c5 ?k5 ?a6 ?i6 ?l6 ?c6 ?k6 ?a7 ?i7 ?l7 ?c7 ?k7 ?a8 ?l8 ?c8 ?k8 ?a9 ?l9 ?c9 ?k9 ?a10 ?l10 ?c10 ?k10 ?a11 ?l11 ?c11 ?k11 ?a12 ?l12 ?c12 ?k12 ?a13 ?l13 ?c13 ?k13 ?a14 ?l14 ?c14 ?k14 ?a15 ?l15 ?c15 ?k15 ?a16 ?l16 ?c16 ?k16 ?a17 ?l17 ?c17 ?k17 ?a18 ?l18 ?c18 ?k18 ?a19 ?l19 ?c19 ?k19 ?a20 ?l20 ?c20 ?k20 ?a21 ?l21 ?c21 ?k21 ?a22 ?l22 ?c22 ?k22 ?a23 ?l23 ?c23 ?k23 ?a24 ?l24 ?c24 ?k24 ?a25 ?l25 ?c25 ?k25 ?a26 ?l26 ?c26 ?k26 ?a27 ?l27 ?c27 ?k27 ?a28 ?l28 ?c28 ?k28 ?a29 ?l29 ?c29 ?k29 ?a30 ?l30 ?c30 ?k30 ?a31 ?l31 ?c31 ?k31 ?a32 ?l32 ?c32 ?k32 ?pg ?hd ?po ?sa ?mk ?kc ?n_names ?n_cells ?n_letters ?n_text ?n_places ?n_arrows ?n_led_to ?isC ?isG ?isT ?isM ?neq ?icl ?tcl ?s_str ?f_str ?s_int ?f_int ?s_tuple ?f_tuple ?z_isinstance ?z_int ?z_bool ?z_str ?z_len ?z_tuple ?z_dict ?z_list ?z_enumerate ?z_range ?z_divmod ?z_abs ?z_sorted ?z_repr ?z_all ?z_max ?z_min ?z_sum ?g_LETTERS ?g_END ?g_LAST_PLACE ?g_MOST_NAMES ?g_MOST_CELLS
    (case aC => k_is)
    (case a0 => k_is)
    (case l0 => k_is)
    (case c0 => k_is)
    (case k0 => k_is)
    (case a1 => k_is)
    (case l1 => k_is)
    (case c1 => k_is)
    (case k1 => k_is)
    (case a2 => k_is)
    (case l2 => k_is)
    (case c2 => k_is)
    (case k2 => k_is)
    (case a3 => k_is)
    (case l3 => k_is)
    (case c3 => k_is)
    (case k3 => k_is)
    (case a4 => k_is)
    (case l4 => k_is)
    (case c4 => k_is)
    (case k4 => k_is)
    (case a5 => k_is)
    (case i5 => k_is)
    (case l5 => k_is)
    (case c5 => k_is)
    (case k5 => k_is)
    (case a6 => k_is)
    (case i6 => k_is)
    (case l6 => k_is)
    (case c6 => k_is)
    (case k6 => k_is)
    (case a7 => k_is)
    (case i7 => k_is)
    (case l7 => k_is)
    (case c7 => k_is)
    (case k7 => k_is)
    (case a8 => k_is)
    (case l8 => k_is)
    (case c8 => k_is)
    (case k8 => k_is)
    (case a9 => k_is)
    (case l9 => k_is)
    (case c9 => k_is)
    (case k9 => k_is)
    (case a10 => k_is)
    (case l10 => k_is)
    (case c10 => k_is)
    (case k10 => k_is)
    (case a11 => k_is)
    (case l11 => k_is)
    (case c11 => k_is)
    (case k11 => k_is)
    (case a12 => k_is)
    (case l12 => k_is)
    (case c12 => k_is)
    (case k12 => k_is)
    (case a13 => k_is)
    (case l13 => k_is)
    (case c13 => k_is)
    (case k13 => k_is)
    (case a14 => k_is)
    (case l14 => k_is)
    (case c14 => k_is)
    (case k14 => k_is)
    (case a15 => k_is)
    (case l15 => k_is)
    (case c15 => k_is)
    (case k15 => k_is)
    (case a16 => k_is)
    (case l16 => k_is)
    (case c16 => k_is)
    (case k16 => k_is)
    (case a17 => k_is)
    (case l17 => k_is)
    (case c17 => k_is)
    (case k17 => k_is)
    (case a18 => k_is)
    (case l18 => k_is)
    (case c18 => k_is)
    (case k18 => k_is)
    (case a19 => k_is)
    (case l19 => k_is)
    (case c19 => k_is)
    (case k19 => k_is)
    (case a20 => k_is)
    (case l20 => k_is)
    (case c20 => k_is)
    (case k20 => k_is)
    (case a21 => k_is)
    (case l21 => k_is)
    (case c21 => k_is)
    (case k21 => k_is)
    (case a22 => k_is)
    (case l22 => k_is)
    (case c22 => k_is)
    (case k22 => k_is)
    (case a23 => k_is)
    (case l23 => k_is)
    (case c23 => k_is)
    (case k23 => k_is)
    (case a24 => k_is)
    (case l24 => k_is)
    (case c24 => k_is)
    (case k24 => k_is)
    (case a25 => k_is)
    (case l25 => k_is)
    (case c25 => k_is)
    (case k25 => k_is)
    (case a26 => k_is)
    (case l26 => k_is)
    (case c26 => k_is)
    (case k26 => k_is)
    (case a27 => k_is)
    (case l27 => k_is)
    (case c27 => k_is)
    (case k27 => k_is)
    (case a28 => k_is)
    (case l28 => k_is)
    (case c28 => k_is)
    (case k28 => k_is)
    (case a29 => k_is)
    (case l29 => k_is)
    (case c29 => k_is)
    (case k29 => k_is)
    (case a30 => k_is)
    (case l30 => k_is)
    (case c30 => k_is)
    (case k30 => k_is)
    (case a31 => k_is)
    (case l31 => k_is)
    (case c31 => k_is)
    (case k31 => k_is)
    (case a32 => k_is)
    (case l32 => k_is)
    (case c32 => k_is)
    (case k32 => k_is)
    (case pg => k_is)
    (case hd => k_is)
    (case po => k_is)
    (case sa => k_is)
    (case mk => k_is)
    (case kc => k_is)
    (case n_names => k_is)
    (case n_cells => k_is)
    (case n_letters => k_is)
    (case n_text => k_is)
    (case n_places => k_is)
    (case n_arrows => k_is)
    (case n_led_to => k_is)
    (case isC => k_is)
    (case isG => k_is)
    (case isT => k_is)
    (case isM => k_is)
    (case neq => k_is)
    (case icl => k_is)
    (case tcl => k_is)
    (case s_str => k_is)
    (case f_str => k_is)
    (case s_int => k_is)
    (case f_int => k_is)
    (case s_tuple => k_is)
    (case f_tuple => k_is)
    (case z_isinstance => k_is)
    (case z_int => k_is)
    (case z_bool => k_is)
    (case z_str => k_is)
    (case z_len => k_is)
    (case z_tuple => k_is)
    (case z_dict => k_is)
    (case z_list => k_is)
    (case z_enumerate => k_is)
    (case z_range => k_is)
    (case z_divmod => k_is)
    (case z_abs => k_is)
    (case z_sorted => k_is)
    (case z_repr => k_is)
    (case z_all => k_is)
    (case z_max => k_is)
    (case z_min => k_is)
    (case z_sum => k_is)
    (case g_LETTERS => k_is)
    (case g_END => k_is)
    (case g_LAST_PLACE => k_is)
    (case g_MOST_NAMES => k_is)
    (case g_MOST_CELLS => k_is)
