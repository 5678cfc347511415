import PyProof.Rows.All
import Wide.All
import OpenK.AllK
import Wide.FinOn
import PyProof.ReprRoads
import KE.KDictPairs
import KE.GoesMore
import HandS.Base
import HandS.Call
import HandS.List
import HandS.Comp
import HandS.Ends
import HandS.Dict
import HandS.Iter
import HandS.Text
import HandS.Words
import HandS.WordsList
import HandS.WordsDict
import HandS.FStr
import HandS.IsInst
import HandS.TupAny
import HandS.DictComp
import HandS.Defaults
import HandS.MakeKwOnly
import HandS.OwnEq
import KE.DatumOrd
import KE.KMathG
import OpenK.KMeth
import HandS.WideBits
import HandS.Gcd
import HandS.Deep
import KE.KExcIs
import HandS.Lambda
import HandS.ExcInit
import HandS.ExcField
import HandS.ExcOwn
import HandS.TryMany
import HandS.ExcIs
import HandS.WordsExc
import PyProof.CallFns
import HandS.SortRule
import HandS.SortInts
import HandS.SortKw
import HandS.Keys
import HandS.More
import HandS.SetFor
import HandS.Strs
import HandS.EndTab
import HandS.Flow
import HandS.Style
import HandS.Wide
import PyProof.FactsAll.dict
import PySem.Challenge.RW_arrowcells_k03_ways_ends_tails_rings
set_option Elab.async false
set_option linter.all false
set_option maxRecDepth 100000
set_option maxHeartbeats 16000000
/-! Own rules over the hand layer: tuples without a dict of their own, dict(tuple), enumerate(tuple), repr, keywords. -/
namespace Z
open PySem PySem.Spec PyProof.Rows L2

/-! ### tuples whose object is known to have no dict -/
def PObj (o : Obj) : Prop := o.cls = .type "tuple" ∧ o.dict = none ∧ ∃ (its : Array Value) (n : Nat), o.data = .seq its n
def PT (H : Hp) (a : Addr) (xs : List V) : Prop := ∃ o : Obj, H a = some (.frz o (.tup xs)) ∧ PObj o
def newT (H : Hp) (xs : List V) (Q : VK) : Prop := ∀ (p : Addr) (o : Obj), H p = none → PObj o → Q (.ref p) (upd H p (.frz o (.tup xs)))
theorem PT.sq {K : PySem.W.Frag} {H : Hp} {a : Addr} {xs : List V} (h : PT H a xs) : SqT K H a xs := by
  obtain ⟨o, e, _⟩ := h
  exact .inl (.inr ⟨o, e⟩)
theorem PT.new {H : Hp} {p : Addr} {o : Obj} {xs : List V} (ho : PObj o) : PT (upd H p (.frz o (.tup xs))) p xs := ⟨o, upd_same, ho⟩
theorem PT.same {H H' : Hp} {a : Addr} {xs : List V} (e : Same H H') (h : PT H a xs) : PT H' a xs := by
  obtain ⟨o, q, ho⟩ := h
  exact ⟨o, e _ _ q, ho⟩
section
variable {X : Cx} {pins : List (Addr × Obj)} {σ : L2.St} {H : Hp} {s : Shared}
theorem lay_tup {xs : List V} {its : List Value} {Q : VK} {t : Nat} (I : Inv X pins σ H s) (r : Vals xs its) (hz : xs.length ≤ sizeLine) (q : newT H xs Q) :
    EP X pins σ Q (.ref s.heap.objs.size) { s with heap := s.heap.push { cls := .type "tuple", data := .seq its.toArray }, toks := t } := by
  have hn := I.hok.fresh (Nat.le_refl _)
  have hp : PObj { cls := .type "tuple", data := .seq its.toArray } := ⟨rfl, rfl, _, _, rfl⟩
  refine ⟨.ref s.heap.objs.size, _, I.laid (t' := t) (o := .frz { cls := .type "tuple", data := .seq its.toArray } (.tup xs)) (fun b u e => Heap.get?_push_of_some _ e) (Nat.le_refl _) ?_, rfl, q _ _ hn hp⟩
  exact ⟨Heap.get?_push_size _ rfl, hz, its, r, _, Heap.get?_push_size _ rfl, rfl, _, rfl⟩
end
section
variable {X : Cx} {es : List Expr} {t : TA} {pos : Pos}
/-- (a, b): a tuple known to be plain -/
def tTupP (t : TA) : TE := fun σ H Q => t σ H fun xs H1 => xs.length ≤ sizeLine ∧ newT H1 xs Q
theorem pe_tupP {x1} (h : PA X es t) : PE X (.Tuple es x1 pos) (tTupP t) := by
  constructor
  intro pins s σ H Q I hq
  refine wpAny_Tuple_spliced (thn (h.run pos pins s σ H _ I hq) fun us s1 hv => ?_)
  obtain ⟨xs, H1, I1, r, z, q⟩ := hv
  exact ⟨by rw [← r.length]; exact z, lay_tup (t := s1.toks) I1 r z q⟩
/-- tuple(list) -/
def rTupP (K : PySem.W.Frag) : List V → Hp → VK → Prop := fun xs H Q => ∃ p ys, xs = [.ref p] ∧ SqL K H p ys ∧ newT H ys Q
theorem call_tupP : CallR X (.type "tuple") (rTupP X.K) := by
  intro pins s σ H xs us Q I r h
  obtain ⟨p, ys, rfl, hq, q⟩ := h
  obtain ⟨u, rfl, rx⟩ := vals1 r
  cases rx
  obtain ⟨its, r', pl, hz⟩ := I.list hq
  have hlen := r'.length
  refine call_tuple_list pl.isList (fun h' kp => ?_) (by rw [List.size_toArray]; omega)
  exact lay_tup (s := { s with heap := h' }) (t := s.toks) (I.kept (t' := s.toks) kp) r' hz q
/-- t + u -/
def rCatP (K : PySem.W.Frag) : R2 := fun x y H Q => ∃ a b xs ys, x = .ref a ∧ y = .ref b ∧ SqT K H a xs ∧ SqT K H b ys ∧ xs.length + ys.length ≤ sizeLine ∧
  (xs = [] → Q (.ref b) H) ∧ (xs ≠ [] → ys = [] → Q (.ref a) H) ∧ (xs ≠ [] → ys ≠ [] → newT H (xs ++ ys) Q)
theorem op_catP : OpR X (binaryOp .Add) (rCatP X.K) := by
  intro pins s σ H x y v u Q I rx ry h
  obtain ⟨a, b, xs, ys, ex, ey, ha, hb, hz, q0, q1, q2⟩ := h
  by_cases hx : xs = []
  · exact op_catA pins s σ H x y v u Q I rx ry ⟨a, b, xs, ys, ex, ey, ha, hb, hz, q0, q1, fun z => absurd hx z⟩
  · subst ex ey
    cases rx
    cases ry
    obtain ⟨its, r1, p1, _⟩ := I.tuple ha
    obtain ⟨its2, r2, p2, _⟩ := I.tuple hb
    have n1 : its ≠ [] := fun z => hx (r1.nil_iff.mp z)
    refine HT.cat_tup p1 p2 n1 (fun z => ?_) (fun z => ?_) ?_
    · exact ⟨.ref a, H, I, rfl, q1 hx (r2.nil_iff.mp z)⟩
    · have := lay_tup (t := s.toks) I (r1.append r2) (by rw [List.length_append]; exact hz) (q2 hx fun w => z (r2.nil_iff.mpr w))
      exact this
    · rw [← r1.length, ← r2.length]
      exact hz
/-- t[lo:hi] -/
def rSlP (K : PySem.W.Frag) : V → Option Int → Option Int → Hp → VK → Prop := fun x lo hi H Q => ∃ a xs, x = .ref a ∧ SqT K H a xs ∧
  (HT.sIx xs.length 0 lo = 0 ∧ HT.sIx xs.length xs.length hi = xs.length → Q (.ref a) H) ∧ (¬ (HT.sIx xs.length 0 lo = 0 ∧ HT.sIx xs.length xs.length hi = xs.length) → newT H (cutV xs lo hi) Q)
theorem sl_tupP : SlR X (rSlP X.K) := by
  intro pins s σ H x v vl vu lo hi sl Q I rx hs pl pu h
  obtain ⟨a, xs, ex, hx, q1, q2⟩ := h
  by_cases hw : HT.sIx xs.length 0 lo = 0 ∧ HT.sIx xs.length xs.length hi = xs.length
  · exact sl_tupA pins s σ H x v vl vu lo hi sl Q I rx hs pl pu ⟨a, xs, ex, hx, q1, fun z => absurd hw z⟩
  · subst ex
    cases rx
    obtain ⟨its, r, ht, hz⟩ := I.tuple hx
    have hlen : its.toArray.size = xs.length := (List.size_toArray ..).trans r.length.symm
    refine ⟨"tuple", _, PyProof.Rows.slot_tuple_getitem.lookup, ht.typeIs, HT.getItem_tuple_cut ht hs pl pu ?_ ?_ ?_⟩
    · rw [hlen]; exact hw
    · rw [hlen]
      have rr := (r.drop (HT.sIx xs.length 0 lo)).take (HT.sIx xs.length xs.length hi - HT.sIx xs.length 0 lo)
      exact lay_tup (xs := cutV xs lo hi) (t := s.toks) I rr (Nat.le_trans (cutV_length xs lo hi) hz) (q2 hw)
    · rw [hlen]; exact hz
end
end Z
namespace Z
open PySem PySem.Spec PyProof.Rows L2
/-! ### dict(t), t a tuple of pairs -/
section
variable {X : Cx} {pins : List (Addr × Obj)} {σ : L2.St} {H : Hp} {s : Shared}
theorem key_is {k : Key} {u : Value} (r : RelV (kV k) u) : keyIs k u = true := by
  cases k with
  | inl i => obtain ⟨t, rfl⟩ := (show ∃ t, u = Value.int i t from r); exact keyIs_int i t
  | inr x => obtain ⟨t, rfl⟩ := (show ∃ t, u = Value.str x t from r); exact keyIs_str x t
theorem pairs2 (I : Inv X pins σ H s) : ∀ {ps : List Addr} {kvs : List (Key × V)}, Paired (fun p kv => SqT X.K H p [kV kv.1, kv.2]) ps kvs →
    ∃ (ws : List (Value × Value)) (vs : List (Key × Value)), KV kvs vs ∧ ws.length = ps.length ∧ vs.length = ps.length ∧
      ∀ (j : Nat) (a b : Value), ws[j]? = some (a, b) → (∃ T, ps[j]? = some T ∧ s.heap.IsTuple T #[a, b]) ∧ ∃ k, vs[j]? = some (k, b) ∧ keyIs k a = true
  | _, _, .nil => ⟨[], [], .nil, rfl, rfl, fun j a b e => by simp at e⟩
  | _, _, .cons (a := p) (b := kv) h t => by
    obtain ⟨ws, vs, r, l1, l2, hp⟩ := pairs2 I t
    obtain ⟨its, rv, ht, _⟩ := I.tuple h
    obtain ⟨u, y, ei, ru, ry⟩ := vals2 rv
    subst ei
    refine ⟨(u, y) :: ws, (kv.1, y) :: vs, .cons ⟨rfl, ry⟩ r, by simp [l1], by simp [l2], fun j a b e => ?_⟩
    cases j with
    | zero =>
      have e' : (u, y) = (a, b) := Option.some.inj e
      cases e'
      exact ⟨⟨p, rfl, ht⟩, kv.1, rfl, key_is ru⟩
    | succ j => simpa using hp j a b (by simpa using e)
end
section
variable {X : Cx}
def rDictT (K : PySem.W.Frag) : List V → Hp → VK → Prop := fun xs H Q => ∃ (a : Addr) (ps : List Addr) (kvs : List (Key × V)), xs = [.ref a] ∧ PT H a (ps.map V.ref) ∧ Paired (fun p kv => SqT K H p [kV kv.1, kv.2]) ps kvs ∧
  ∀ p, H p = none → Q (.ref p) (upd H p (.dK (mergeK [] kvs)))
theorem call_dictT (hcalm : X.calm = true) : CallR X (.type "dict") (rDictT X.K) := by
  intro pins s σ H xs us Q I r q
  obtain ⟨a, ps, kvs, ex, hq, hp, q⟩ := q
  subst ex
  obtain ⟨u, eu, rx⟩ := vals1 r
  subst eu
  cases rx
  obtain ⟨its, rv, _, hz⟩ := I.tuple (hq.sq (K := X.K))
  have ei := refs_at rv
  subst ei
  rw [List.length_map] at hz
  obtain ⟨ws, vs, rel, l1, l2, hpr⟩ := pairs2 I hp
  obtain ⟨o, ho, hc, hd, its2, n, hdat⟩ := hq
  obtain ⟨hget, _, its3, rv3, o3, ho3, hc3, n3, hd3⟩ := (show ObjOk X.prog X.w H s.heap a (.frz o (.tup (ps.map V.ref))) from I.hok a _ ho)
  rw [hget] at ho3
  cases ho3
  have e3 := refs_at rv3
  subst e3
  have pl : PlainSeq "tuple" s.heap a (ps.map Value.ref).toArray := ⟨o, n3, hget, hc, hd, hd3⟩
  have pi : PairItems s.heap (ps.map Value.ref).toArray (fun j => ps.getD j 0) ws := by
    refine ⟨by simp [l1], fun j k v e => ?_⟩
    obtain ⟨⟨T, e1, e2⟩, _⟩ := hpr j k v e
    have e4 : ps.getD j 0 = T := by rw [List.getD_eq_getElem?_getD, e1]; rfl
    refine ⟨?_, .inl ?_⟩
    · simp [e1]
    · show s.heap.IsTuple (ps.getD j 0) #[k, v]
      rw [e4]; exact e2
  have hv : PairsHave (mixKind X.prog X.w) ws.length (PairRel ws) vs := by
    refine ⟨by rw [l1, l2], fun i key v e => ?_⟩
    obtain ⟨_, k, e1, e2⟩ := hpr i key v e
    exact ⟨k, e1, e2⟩
  refine PySem.call_dict_pairs (PairArg.tuple a (ps.map Value.ref).toArray (fun j => ps.getD j 0) ws) (I.ok.hd hcalm) ⟨pl, pi⟩ hv (by rw [l1]; exact hz) fun h' tk hd' k => ?_
  have hm : (s.heap.objs.size == sysModules) = false := beq_eq_false_iff_ne.mpr (Nat.ne_of_gt I.big)
  have hlen : (mergeK [] kvs).length ≤ sizeLine := by
    refine Nat.le_trans (length_mergeK kvs []) ?_
    rw [List.length_nil, Nat.zero_add, rel.length, l2]
    exact hz
  refine ⟨.ref s.heap.objs.size, upd H s.heap.objs.size (.dK (mergeK [] kvs)), ?_, rfl, q _ (I.hok.fresh (Nat.le_refl _))⟩
  refine I.laid (t' := tk) (fun b u e => k b u (by simp) e) (Nat.le_refl _) ?_
  exact ⟨hlen, hm, merged [] vs, KV.merge rel .nil, hd'⟩
end

/-! ### enumerate(t), t a tuple -/
open PySem.Builtin in
theorem meets_enum1 {v : Value} {o : Obj} {H : Heap → Prop} (B : Begins v o H) :
    Meets (Builtin.«enumerate.__new__» ⟨[.type "enumerate", v], []⟩) (fun _ R s => H s.heap ∧
      R (.ok (.ret (.ref (s.heap.push o).objs.size)))
        { s with heap := (s.heap.push o).push { cls := .type "enumerate", data := .fields #[.none, .bool false, .ref s.heap.objs.size, rawInt 0, .none, .none] } }) := by
  refine .of_wp fun prog w A R s h => ?_
  obtain ⟨hp, g, d, tk, os⟩ := s
  obtain ⟨h1, h⟩ := h
  have subE := sub_enumerate
  have q1 : ∀ {A' : Around} {E Q : Value → Shared → Prop}, Q (.ref hp.objs.size) ⟨hp.push o, g, d, tk, os⟩ → wpAny (model prog w) A' (pyIter v) Q E ⟨hp, g, d, tk, os⟩ := fun q => B.iter prog w _ _ ⟨hp, g, d, tk, os⟩ _ h1 q
  wp_walk using q1
  refine wpAny_stack_any fun st => wpAny_pure ?_
  split
  · rename_i c _ _ _ _ _
    cases (c == Value.type "enumerate") <;> (wp_walk using q1; exact ⟨_, rfl, h⟩)
  · wp_walk using q1
    exact ⟨_, rfl, h⟩
theorem call_enum_tuple {prog : Program} {w : World} {A : Around} {E : Value → Shared → Prop} {s : Shared} {t : Addr} {items : Array Value} {Q : Value → Shared → Prop} (hL : s.heap.IsTuple t items)
    (h : ∀ h', IsEnum h' (s.heap.objs.size + 1) s.heap.objs.size 0 .none → h'.IsTupleIter s.heap.objs.size t 0 → h'.objs.size = s.heap.objs.size + 2 →
      (∀ b o, s.heap.get? b = some o → h'.get? b = some o) → Q (.ref (s.heap.objs.size + 1)) { s with heap := h' }) :
    wpAny (model prog w) A (call (.type "enumerate") [.ref t]) Q E s := by
  refine callType_new F.called_enumerate (by decide) (F.typeCall_enumerate_1 _) (F.newCall_enumerate_1 _) (fun obj => F.args_object_init_2 obj _) F.entry_enumerate_new
    (meets_enum1 (begins_tuple t items)) ⟨hL, ?_⟩
  have hz : (s.heap.push { cls := .type "tuple_iterator", data := .fields #[.ref t, .int 0 0] }).objs.size = s.heap.objs.size + 1 := Heap.size_push ..
  show _ ∧ _
  rw [hz]
  have he : IsEnum ((s.heap.push { cls := .type "tuple_iterator", data := .fields #[.ref t, .int 0 0] }).push
      { cls := .type "enumerate", data := .fields #[.none, .bool false, .ref s.heap.objs.size, rawInt 0, .none, .none] }) (s.heap.objs.size + 1) s.heap.objs.size 0 .none := by
    have q := Heap.get?_push_size (s.heap.push { cls := .type "tuple_iterator", data := .fields #[.ref t, .int 0 0] })
      (o := { cls := .type "enumerate", data := .fields #[.none, .bool false, .ref s.heap.objs.size, rawInt 0, .none, .none] }) rfl
    rw [hz] at q
    exact q
  exact ⟨⟨_, he, rfl⟩, h _ he ⟨_, Heap.get?_push_of_some _ (Heap.get?_push_size _ rfl), rfl, rfl⟩ (by rw [Heap.size_push, hz]) fun b o x => Heap.get?_push_of_some _ (Heap.get?_push_of_some _ x)⟩
section
/-- the tuple at a, each item in a new pair with its place -/
def IteT (K : PySem.W.Frag) (a : Addr) : It :=
  ⟨fun i H => ∃ (xs : List V) (x : V), SqT K H a xs ∧ xs[i]? = some x,
   fun i H v H' => ∃ T x, v = .ref T ∧ H T = none ∧ H' = upd H T (.tup [.int (i : Nat), x]) ∧ ∀ xs, SqT K H a xs → xs[i]? = some x,
   fun i H => ∃ xs : List V, SqT K H a xs ∧ xs.length = i⟩
theorem turn_enumT {P : Program} {w : World} {K : PySem.W.Frag} {elts : List Expr} {kk : Nat} {tpos : Pos} (a e it : Addr) :
    Turn P w K (.Tuple elts kk tpos) (IteT K a) [e, it] e (fun i h => (∃ old, IsEnum h e it ((i : Nat) : Int) old) ∧ h.IsTupleIter it a i ∧ e ≠ it ∧ a ≠ it ∧ a ≠ e) := by
  refine ⟨by simp, fun i h st b hb => ?_, fun i h h' st k => ?_, ?_, ?_, ?_⟩
  · obtain ⟨⟨old, he⟩, ⟨o, ho, hc, hd⟩, _⟩ := st
    rcases (by simpa using hb : b = e ∨ b = it) with z | z
    · subst z; exact ⟨_, he, fun v q => nomatch q⟩
    · subst z; exact ⟨o, ho, fun v q => by rw [hd] at q; cases q⟩
  · obtain ⟨⟨old, he⟩, hi, hne⟩ := st
    exact ⟨⟨old, k e (by simp) _ he⟩, hi.at fun o q => k it (by simp) o q, hne⟩
  · intro X hP hw hK hc i pins s σ H E I hf st hg
    subst hP hw hK
    obtain ⟨⟨old, he⟩, hit, hne, hai, hae⟩ := st
    obtain ⟨xs, x, hq, hx⟩ := hg
    obtain ⟨its, rv, p, hz⟩ := I.tuple hq
    obtain ⟨u, hu, ru⟩ := rv.get hx
    have hel : e < s.heap.objs.size := Heap.lt_size he
    have hil : it < s.heap.objs.size := by obtain ⟨_, q, _⟩ := hit; exact Heap.lt_size q
    have D := Draws.tuple (prog := X.prog) (w := X.w) (A := X.A.in1) (I.ok.hd hc) it a hai its.toArray
    have hlt : i < its.toArray.size := by
      have := (List.getElem?_eq_some_iff.mp hu).1
      simpa using this
    refine wpAny_pyNext_enum_itemD D he ⟨hit, p⟩ hlt hne (by simp [hne, Ne.symm hae]) fun x' h' tk hP ho hst hT hsz hk => ?_
    have ex : x' = u := by
      have q : its.toArray[i]? = some x' := hP
      have q2 : its.toArray[i]? = some u := by simpa using hu
      rw [q2] at q
      exact (Option.some.inj q).symm
    subst ex
    refine ⟨_, rfl, wpAny_letOwnedTupleGo_enum (s := { s with heap := h', toks := tk + 1 }) ho fun h'' he' sb => ?_⟩
    have hT2 : h''.get? s.heap.objs.size = some { cls := .type "tuple", data := .seq #[.int i tk, x'] } := (sb.2 _ (Nat.ne_of_gt hel)).trans hT
    have new : ObjOk X.prog X.w (upd H s.heap.objs.size (.tup [.int (i : Nat), x])) h'' s.heap.objs.size (.tup [.int (i : Nat), x]) := by
      refine ⟨by show 2 ≤ sizeLine; decide, [.int i tk, x'], .cons ⟨_, rfl⟩ (.cons ru .nil), ?_⟩
      exact ⟨_, hT2, rfl, _, rfl⟩
    have I1 : Inv X pins σ (upd H s.heap.objs.size (.tup [.int (i : Nat), x])) { s with heap := h'', toks := tk + 1 } := by
      refine I.turnedNew (ch := [e, it]) (fun b ob hb q => ?_) hf (Nat.le_refl _) new
      have nb : b ≠ e := fun z => hb (by simp [z])
      exact (sb.2 b nb).trans (hk b ob nb (fun z => hb (by simp [z])) q)
    refine ⟨.ref s.heap.objs.size, _, I1, rfl, ⟨_, x, rfl, I.hok.fresh (Nat.le_refl _), rfl, fun ys hy => by rw [I.tuple_inj hy hq]; exact hx⟩, ⟨⟨x', ?_⟩, hst.1.at fun o q => (sb.2 it (Ne.symm hne)).trans q, hne, hai, hae⟩, fun b hb => ?_⟩
    · have e1 : ((i + 1 : Nat) : Int) = (i : Int) + 1 := by omega
      rw [e1]
      exact he'
    · have hb' : b < s.heap.objs.size := by
        rcases (by simpa using hb : b = e ∨ b = it) with z | z
        · exact z ▸ hel
        · exact z ▸ hil
      rw [upd_ne (Nat.ne_of_lt hb')]
      exact (hf b hb).1
  · intro X hP hw hK hc i pins s σ H E I hf st hg
    subst hP hw hK
    obtain ⟨⟨old, he⟩, hit, hne, hai, hae⟩ := st
    obtain ⟨xs, hq, hx⟩ := hg
    obtain ⟨its, rv, p, hz⟩ := I.tuple hq
    obtain ⟨f0, f1, f2, f3, f4, f5⟩ := hf it (by simp)
    have hl := rv.length
    have D := Draws.tuple (prog := X.prog) (w := X.w) (A := X.A.in1) (I.ok.hd hc) it a hai its.toArray
    have ei : its.toArray.size = i := by rw [List.size_toArray, ← hl]; exact hx
    exact wpAny_pyNext_enum_endD D he ⟨by rw [ei]; exact hit, p⟩ fun h' eb => ⟨rfl, I.turned (t' := s.toks) (fun b o hb q => eb b o hb q) f0 f1 f3 f4 f5⟩
  · intro A i s Q E st h
    obtain ⟨⟨_, he⟩, _⟩ := st
    exact wpAny_pyIter_enum he h
def iEnumT (K : PySem.W.Frag) (ta : TA) : TI := fun σ H R => ta σ H fun vs H1 => ∃ a xs, vs = [.ref a] ∧ SqT K H1 a xs ∧ R (IteT K a) H1
theorem pi_enumT {X : Cx} {e : Expr} {ta : TA} {p pos tpos : Pos} {elts : List Expr} {kk : Nat} (hg : Gl X "enumerate") (hm : X.mg "enumerate" = none) (ha : PA X [e] ta)
    (hs : starEach [e] X.env = [(false, eval e X.env)] := by rfl) : PI X (.Tuple elts kk tpos) (.Call (.Name "enumerate" p) [e] [] pos) (iEnumT X.K ta) := by
  constructor
  intro pins s σ H R I h
  refine Call_ (ld_blt I hg hm boot_enumerate (PyProof.Rows.callWith_type1 (thn (ha.run pos pins s σ H _ I h) fun us s1 hv => ?_) hs rfl))
  obtain ⟨vs, H1, I1, r1, a, xs, ex, hq, q⟩ := hv
  subst ex
  obtain ⟨u, eu, rx⟩ := vals1 r1
  subst eu
  cases rx
  obtain ⟨its, rv, p', hz⟩ := I1.tuple hq
  have hal : a < s1.heap.objs.size := p'.lt
  refine call_enum_tuple (items := its.toArray) p' fun h' he hit hsz hk => wpAny_pyIter_enum he ?_
  have I2 : Inv X pins σ H1 { s1 with heap := h' } := I1.kept (t' := s1.toks) hk
  have na : a ≠ s1.heap.objs.size := Nat.ne_of_lt hal
  have na2 : a ≠ s1.heap.objs.size + 1 := Nat.ne_of_lt (Nat.lt_succ_of_lt hal)
  refine ⟨s1.heap.objs.size + 1, [s1.heap.objs.size + 1, s1.heap.objs.size], _, _, H1, rfl, I2, turn_enumT a (s1.heap.objs.size + 1) s1.heap.objs.size, ⟨⟨.none, he⟩, hit, Nat.succ_ne_self _, na, na2⟩, fun b hb => ?_, q⟩
  have hle : s1.heap.objs.size ≤ b := by
    rcases (by simpa using hb : b = s1.heap.objs.size + 1 ∨ b = s1.heap.objs.size) with z | z
    · exact z ▸ Nat.le_succ _
    · exact z ▸ Nat.le_refl _
  exact I1.fpOk hle (I1.hok.fresh hle)
end
end Z
namespace Z
open PySem PySem.Spec PyProof.Rows L2
/-! ### defs that are called while no repr runs -/
structure FnG (P : Program) (w : World) (K : PySem.W.Frag) (mg : Str → Option Value) (base : Heap) (k : Nat) (f : Addr) (fd : FuncData) (ps : List Str) (sp : Sp) : Prop where
  len : ∀ vs H Q E, sp vs H Q E → vs.length = ps.length
  run : ∀ (A : Around) (outer : List Env) (s : Shared) (H : Hp) (args : Args) (us : List Value) (vs : List V) (Q : VK) (E : XK), Room k A → A.guards = some [] →
    Env0 P w K mg base A outer s H → BindsTo s fd args (ps.zip us) → Vals vs us → sp vs H Q E → codeAny (model P w) A (.call (.ref f) args) (CR CX0 outer P w H s Q E) s
theorem FnG.of {P : Program} {w : World} {K : PySem.W.Frag} {mg : Str → Option Value} {base : Heap} {k : Nat} {f : Addr} {fd : FuncData} {ps : List Str} {sp : Sp}
    (F : FnOk P w K mg base CX0 k f fd ps sp) : FnG P w K mg base k f fd ps sp :=
  ⟨F.len, fun A outer s H args us vs Q E hr _ => F.run A outer s H args us vs Q E hr⟩
section
variable {P : Program} {w : World} {K : PySem.W.Frag} {mg : Str → Option Value} {base : Heap}
theorem okG {x qual : Str} {st : Stmt} {f : Addr} {fd : FuncData} {N ps : List Str} {k : Nat} {sp : Sp} (F : Fun K x qual st f fd) (S : FnScope N ps (defScope st)) (len : ∀ vs H Q E, sp vs H Q E → vs.length = ps.length)
    (hbody : ∀ (cdv : Value) (A : Around) (outer : List Env) (s : Shared) (H : Hp) (vs : List V) (Q : VK) (E : XK), Room k (A.deeper (envOfC qual (defScope st) s.heap.objs.size f cdv)) →
      (A.deeper (envOfC qual (defScope st) s.heap.objs.size f cdv)).guards = some [] → sp vs H Q E →
      ∃ t, PSs (cxOf CX0 P w K mg base N qual (defScope st) f cdv A outer s H E).nox (defBody st) t ∧ t { nx := fun _ H' => Q .non H', rt := Q } (start N vs) H) : FnG P w K mg base (k + 1) f fd ps sp := by
  obtain ⟨oc, od, kV, doc, pm, an, cdv, ct, osl, rfl, lk, hcd⟩ := F.ex
  refine ⟨len, fun A outer s H args us vs Q E hr hgd e0 hb r hsp => ?_⟩
  have keepB : ∀ b o, base.get? b = some o → s.heap.get? b = some o := fun b o e => (e0.bs b o e).1
  have KX : K.In s.heap := e0.mod.kin.keeps keepB
  have lim : s.heap.NoLimit := e0.mod.nolimit.keeps keepB
  refine codeAny_call_function hr.depth (KX _ _ lk) rfl S.co S.gen rfl (PySem.W.codeRec_of KX hcd) (hb _ _ _ _ ?_)
  refine wpAny_newFunctionEnv_cells S.kind (fun y hy => ?_) fun env he s1 x => ?_
  · rcases S.par y.1 (List.of_mem_zip (a := y.1) (b := y.2) hy).1 with q | q
    · exact .inl q
    · exact .inr ⟨q, PySem.W.cellsFrom_some _ _ _ (.inl q)⟩
  subst he
  refine ⟨lim.keeps x.toInCall.keep, codeAny_func ?_⟩
  obtain ⟨t, ht, hq⟩ := hbody cdv A outer s H vs Q E (hr.deeper _) (by simpa [Around.deeper] using hgd) hsp
  have I0 := inv_start (CX := CX0) (E := E) (cd := cdv) (qual := qual) (f := f) (N := N) S hr.hd e0 (len _ _ _ _ hsp) r x
  refine wpAny_mono (ht.nox.run [] s1 (start N vs) H _ I0 hq) (fun fl s' hs => ?_) fun e s' hs => hs
  have fin : ∀ {σ' : L2.St} {H' : Hp} {v : V} {u : Value}, Inv (cxOf CX0 P w K mg base N qual (defScope st) f cdv A outer s H E) [] σ' H' s' → RelV v u → Q v H' → CE outer P w H s Q u s' :=
    fun J rv q => ⟨_, _, J.os, J.bare, J.base, J.hok, rv, q⟩
  match fl, hs with
  | .ret u, ⟨v, σ', H', J, rv, q⟩ => exact fin J rv q
  | .next, ⟨σ', H', J, q⟩ => exact fin (v := V.non) (u := Value.none) J rfl q
  | .brk, ⟨_, _, _, q⟩ => exact q.elim
  | .cont, ⟨_, _, _, q⟩ => exact q.elim
end
section
variable {X : Cx} {k : Nat} {f : Addr} {fd : FuncData} {ps : List Str} {sp : Sp} {E : XK} {x : Str} {p pos : Pos} {e : Expr} {es : List Expr} {t : TA}
theorem run_fnG {pins : List (Addr × Obj)} {σ : L2.St} {H : Hp} {s : Shared} {Q : VK} {us : List Value} {vs : List V} (F : FnG X.prog X.w X.K X.mg X.base k f fd ps sp) (hr : Room k X.A) (hgd : X.A.guards = some []) (hb : Binds X.K fd ps [])
    (I : Inv X pins σ H s) (r : Vals vs us) (h : sp vs H Q E) : wpAny (model X.prog X.w) X.A (call (.ref f) us) (EP X pins σ Q) X.xe s := by
  have hl : (us ++ []).length = ps.length := by rw [List.append_nil, ← r.length]; exact F.len _ _ _ _ h
  have hb' := hb s us I.kIn hl
  rw [List.append_nil] at hb'
  refine wpAny_call (codeAny_mono (F.run X.A X.stack s H ⟨us, []⟩ us vs Q E hr hgd I.env0 hb' r h) fun r s' hq => ?_)
  match r, hq with
  | .error e, hq => exact False.elim hq
  | .ok (.ret u), hq => exact I.after hq
  | .ok .next, hq => exact False.elim hq
  | .ok .brk, hq => exact False.elim hq
  | .ok .cont, hq => exact False.elim hq
/-- f(e, ..) -/
def tCallG (sp : Sp) (E : XK) (t : TA) : TE := fun σ H Q => t σ H fun vs H1 => sp vs H1 Q E
theorem pe_callG (F : FnG X.prog X.w X.K X.mg X.base k f fd ps sp) (hr : Room k X.A) (hgd : X.A.guards = some []) (hg : Gl X x) (hm : X.mg x = some (.ref f)) (hk : PySem.W.keepIn X.K (.ref f) = true) (hb : Binds X.K fd ps [])
    (ha : PA X (e :: es) t) (hdb : (x == ("__debug__" : Str)) = false := by decide) (he : starEach (e :: es) X.env = (false, eval e X.env) :: starEach es X.env := by rfl) (hpl : (backTo pos (starEach es X.env)).any (·.1) = false := by rfl) :
    PE X (.Call (.Name x p) (e :: es) [] pos) (tCallG sp E0 t) := by
  constructor
  intro pins s σ H Q I h
  refine wpAny_Call_Name_kw (ld_glob I hg hm ?_ hdb)
  refine PySem.W.callWith_K (h₀ := X.base) I.ok.mod.kin hk (thn (ha.run pos pins s σ H _ I h) fun us s1 hv => ?_) he hpl
  obtain ⟨vs, H1, I1, r, q⟩ := hv
  exact ⟨I1.kIn, run_fnG F hr hgd hb I1 r q⟩
/-! ### repr of a list or a tuple -/
def rRepr (K : PySem.W.Frag) : List V → Hp → VK → Prop := fun xs H Q => ∃ (a : Addr) (d : PyData), xs = [.ref a] ∧ Dp K H (.ref a) d ∧ d.showable = true ∧ d.hasDict = false ∧ d.depth ≤ 60 ∧ d.shown.length ≤ sizeLine ∧ Q (.str d.shown) H
theorem call_repr (hgd : X.A.guards = some []) (hu : X.A.units + 64 < cLine) : CallR X (.builtin "repr") (rRepr X.K) := by
  intro pins s σ H xs us Q I r h
  obtain ⟨a, d, ex, hd, sh, nd, dep, hz, q⟩ := h
  subst ex
  obtain ⟨u, eu, rx⟩ := vals1 r
  subst eu
  obtain ⟨as, rd⟩ := Dp.reads I d _ _ hd rx
  cases rx
  refine repr_of_reads' rd sh (fun z => by rw [nd] at z; cases z) hgd (by omega) (fun _ _ e => e) (fun h' t tk hk => ?_) hz
  exact ⟨.str d.shown, H, I.kept (t' := tk) hk, ⟨t, rfl⟩, q⟩
end
end Z
namespace Z
open PySem PySem.Spec PyProof.Rows L2
open PySem.W (Frag findIn isFn mroIn notFirst InstAt Looks looks_findIn looks_mroIn looks_subIn ifBound_K)
section
variable {prog : Program} {w : World} {A : Around} {E : Value → Shared → Prop} {s : Shared} {K : Frag} {x C L f : Addr} {h₀ : Heap} {m : Str → Option Value} {ox : Obj} {od : Option Obj} {b tb : Value}
theorem ne_builtin {Q : Fin → Shared → Prop} (hu : A.units < cLine) (X : K.In s.heap) (I : InstAt s.heap x ox C od) (hs : findIn K (.ref C) "__eq__" = some (some (.ref f))) (hf : isFn K (.ref f) = true)
    (h : wpAny (model prog w) A (call (.ref f) [.ref x, b]) (fun v s' => ∃ c, v = .bool c ∧ Q (.done (.ret (.bool (!c)))) s') E s) :
    wpAny (model prog w) A (Builtin.«object.__ne__» ⟨[.ref x, b], []⟩) Q E s := by
  unfold Builtin.«object.__ne__»
  refine wpAny_bind (wpAny_pure ?_)
  refine wpAny_bind (wpAny_cRoomFor hu ?_)
  refine wpAny_bind (m := callSpecialIfBound? (.ref x) (Str.ofString "__eq__") [b]) (ifBound_K X I hs hf (wpAny_mono h (fun r s' hr => ?_) fun _ _ y => y))
  obtain ⟨c, rfl, hq⟩ := hr
  exact wpAny_bind (wpAny_truthy_bool (wpAny_pure hq))
theorem isObj {M : Model} {h : Heap} (X : K.In h) (I : InstAt h x ox C od) (hm : mroIn K C (.type "object") = some true) : Looks M h (isInstance (.ref x) (.type "object")) true := by
  exact (I.type).andThen (looks_mroIn X hm)
theorem try_ne {Q : Option Value → Shared → Prop} (hu : A.units + 1 < cLine) (X : K.In s.heap) (I : InstAt s.heap x ox C od) (hs : findIn K (.ref C) "__eq__" = some (some (.ref f))) (hf : isFn K (.ref f) = true)
    (hne : findIn K (.ref C) "__ne__" = some (some (.builtin "object.__ne__"))) (hm : mroIn K C (.type "object") = some true)
    (h : wpAny (model prog w) A.in1 (call (.ref f) [.ref x, b]) (fun v s' => ∃ c, v = .bool c ∧ Q (some (.bool (!c))) s') E s) :
    wpAny (model prog w) A (tryCompare (.ref x) "__ne__" b) Q E s := by
  have FN : Slot "object" "__ne__" "object.__ne__" := PySem.F.cmp_object.ne
  have goal : wpAny (model prog w) A (call (.builtin "object.__ne__") [.ref x, b]) (fun v s' => ∃ c, v = .bool c ∧ Q (some v) s') E s := by
    refine wpAny_call (codeAny_call_builtin FN.plain PySem.F.cmpEntry_ne (PySem.W.check_slot PySem.F.cmpKind_ne PySem.F.cmpSplit_ne (isObj X I hm) (PySem.F.cmpArgs_ne _ _) ?_))
    refine ne_builtin (A := A.in1) hu X I hs hf (wpAny_mono h (fun v s' hv => ?_) fun _ _ e => e)
    obtain ⟨c, rfl, hq⟩ := hv
    exact ⟨c, rfl, !c, rfl, hq⟩
  have fin : wpAny (model prog w) A (call (.builtin "object.__ne__") ([.ref x] ++ [b]) >>= fun v => pure (some v)) (fun r s' => ∃ c, r = some (.bool c) ∧ Q r s') E s := by
    refine wpAny_bind (wpAny_mono goal (fun v s' hv => ?_) fun _ _ e => e)
    obtain ⟨c, rfl, hq⟩ := hv
    exact wpAny_pure ⟨c, rfl, hq⟩
  have key : wpAny (model prog w) A (callSpecialIfBound? (.ref x) "__ne__" [b]) (fun r s' => ∃ c, r = some (.bool c) ∧ Q r s') E s := by
    simp only [callSpecialIfBound?, bindSpecialIfBound?]
    refine wpAny_holding (wpAny_bind (wpAny_bind (wpAny_bind (I.type.here ((looks_findIn X hne).here ?_)))))
    simp only [FN.bind]
    refine wpAny_bind (wpAny_askSetting (wpAny_ite ?_))
    split
    · exact wpAny_bind (wpAny_pure (wpAny_pure fin))
    · exact wpAny_tryCatch (wpAny_bind (wpAny_pure (wpAny_pure fin)))
  unfold tryCompare
  refine wpAny_bind (wpAny_mono key (fun r s' hr => ?_) fun _ _ e => e)
  obtain ⟨c, rfl, hq⟩ := hr
  exact wpAny_pure hq
theorem rich_ne {Q : Value → Shared → Prop} (hu : A.units + 1 < cLine) (X : K.In s.heap) (I : InstAt s.heap x ox C od) (hb : Looks (model prog w) s.heap (typeOf b) tb) (hn : notFirst K C tb = true)
    (hs : findIn K (.ref C) "__eq__" = some (some (.ref f))) (hf : isFn K (.ref f) = true) (hne : findIn K (.ref C) "__ne__" = some (some (.builtin "object.__ne__"))) (hm : mroIn K C (.type "object") = some true)
    (h : wpAny (model prog w) A.in1 (call (.ref f) [.ref x, b]) (fun v s' => ∃ c, v = .bool c ∧ Q (.bool (!c)) s') E s) : wpAny (model prog w) A (richCompare .NotEq (.ref x) b) Q E s := by
  have one : wpAny (model prog w) A (tryCompare (.ref x) "__ne__" b) (fun r s' => ∃ v, r = some v ∧ Q v s') E s := by
    refine try_ne hu X I hs hf hne hm (wpAny_mono h (fun v s' hv => ?_) fun _ _ e => e)
    obtain ⟨c, rfl, hq⟩ := hv
    exact ⟨c, rfl, _, rfl, hq⟩
  unfold richCompare
  simp only [oneThing_ref, cmpInfo_NotEq]
  refine wpAny_holding (wpAny_bind (wpAny_cRoomFor (by omega) ?_))
  refine wpAny_bind (I.type.here (wpAny_bind (hb.here ?_)))
  by_cases q : (Value.ref C != tb) = true
  · rw [if_pos q]
    have e : PySem.W.subIn K tb (.ref C) = some false := by
      rcases Bool.or_eq_true_iff.mp hn with e | e
      · rw [eq_of_beq e] at q; simp at q
      · exact eq_of_beq e
    refine wpAny_bind ((looks_subIn X e).here ?_)
    simp only [Bool.false_eq_true, if_false]
    refine wpAny_bind (wpAny_mono one (fun r s' z => ?_) fun _ _ e => e)
    obtain ⟨v, rfl, hq⟩ := z
    exact wpAny_pure hq
  · rw [if_neg q]
    refine wpAny_bind (wpAny_pure ?_)
    simp only [Bool.false_eq_true, if_false]
    refine wpAny_bind (wpAny_mono one (fun r s' z => ?_) fun _ _ e => e)
    obtain ⟨v, rfl, hq⟩ := z
    exact wpAny_pure hq
end
/-! ### == and != of an own class with an __eq__ of its own -/
/-- the class's facts -/
structure OwnEq (K : Frag) (C f : Addr) (fd : FuncData) : Prop where
  eq : findIn K (.ref C) "__eq__" = some (some (.ref f))
  fn : isFn K (.ref f) = true
  ne : findIn K (.ref C) "__ne__" = some (some (.builtin "object.__ne__"))
  top : mroIn K C (.type "object") = some true
  bd : Binds K fd ["self", "other"] []
/-- the right side's type, as the comparison asks it -/
inductive RightOf (K : Frag) (C : Addr) (H : Hp) : V → Prop where
  | int (i : Int) (h : notFirst K C (.type "int") = true) : RightOf K C H (.int i)
  | str (x : Str) (h : notFirst K C (.type "str") = true) : RightOf K C H (.str x)
  | tup {a : Addr} {xs : List V} (e : SqT K H a xs) (h : notFirst K C (.type "tuple") = true) : RightOf K C H (.ref a)
  | ins {a dx : Addr} {fs : List (Str × V)} (e : H a = some (.ins C dx fs)) : RightOf K C H (.ref a)
section
variable {X : Cx} {k : Nat} {C f : Addr} {fd : FuncData} {sp : Sp}
theorem RightOf.look {pins : List (Addr × Obj)} {σ : L2.St} {H : Hp} {s : Shared} {v : V} {u : Value} (I : Inv X pins σ H s) (r : RightOf X.K C H v) (ru : RelV v u) :
    ∃ tb, Looks (model X.prog X.w) s.heap (typeOf u) tb ∧ notFirst X.K C tb = true := by
  cases r with
  | int i h => obtain ⟨t, rfl⟩ := (show ∃ t, u = Value.int i t from ru); exact ⟨_, Looks.of_pure rfl, h⟩
  | str x h => obtain ⟨t, rfl⟩ := (show ∃ t, u = Value.str x t from ru); exact ⟨_, Looks.of_pure rfl, h⟩
  | @tup a xs e h =>
    cases (show u = Value.ref a from ru)
    obtain ⟨its, _, ⟨o, ho, hc, _⟩, _⟩ := I.tuple e
    exact ⟨.type "tuple", fun A Q E s' kp q => wpAny_typeOf ⟨o, kp _ _ ho, hc⟩ q, h⟩
  | @ins a dx fs e =>
    cases (show u = Value.ref a from ru)
    obtain ⟨mA, J, _⟩ := ins_get I.hok e
    obtain ⟨od, J, _⟩ := J.look
    exact ⟨.ref C, J.type, by simp [notFirst]⟩
/-- what stands for the comparison's wish: a bool comes -/
def rOwnC (C : Addr) (sp : Sp) (g : Bool → Bool) (K : Frag) : R2 := fun x y H Q => ∃ a dx fs, x = .ref a ∧ H a = some (.ins C dx fs) ∧ RightOf K C H y ∧ sp [x, y] H (fun v H' => ∃ c, v = .bl c ∧ Q (.bl (g c)) H') E0
theorem op_ownEq (F : FnOk X.prog X.w X.K X.mg X.base CX0 k f fd ["self", "other"] sp) (O : OwnEq X.K C f fd) (hr : Room k X.A) : OpR X (compareOp .Eq) (rOwnC C sp id X.K) := by
  intro pins s σ H x y v u Q I rx ry h
  obtain ⟨a, dx, fs, rfl, ha, hy, hsp⟩ := h
  cases rx
  obtain ⟨mA, J, _⟩ := ins_get I.hok ha
  obtain ⟨od, J, _⟩ := J.look
  obtain ⟨tb, hb, hn⟩ := hy.look I ry
  obtain ⟨m, hF⟩ := I.fr
  show wpAny (model X.prog X.w) X.A (richCompare .Eq (.ref a) u) (EP X pins σ Q) X.xe s
  refine PySem.W.cmp_K (op := .Eq) hr.units0 hF I.ok.mod.kin J hb hn O.eq O.fn ?_
  refine wpAny_mono (run_fn (dvs := []) (ds := []) (Q := fun v H' => ∃ c, v = .bl c ∧ Q (.bl (id c)) H') (vs := [.ref a, y]) (us := [.ref a, u]) F hr O.bd .nil pass0 I (.cons rfl (.cons ry .nil)) (by simpa using hsp)) (fun v s' hv => ?_) fun _ _ e => e
  obtain ⟨z, H', I', rz, c, rfl, q⟩ := hv
  cases (show v = Value.bool c from rz)
  exact ⟨.bl c, H', I', rfl, q⟩
theorem run_fn_in1 {pins : List (Addr × Obj)} {σ : L2.St} {H : Hp} {s : Shared} {Q : VK} {us : List Value} {vs : List V} {ps : List Str} (F : FnOk X.prog X.w X.K X.mg X.base CX0 k f fd ps sp) (hr : Room (k + 1) X.A) (hb : Binds X.K fd ps [])
    (I : Inv X pins σ H s) (r : Vals vs us) (h : sp vs H Q E0) : wpAny (model X.prog X.w) X.A.in1 (call (.ref f) us) (EP X pins σ Q) X.xe s := by
  have hl : (us ++ []).length = ps.length := by rw [List.append_nil, ← r.length]; exact F.len _ _ _ _ h
  have hb' := hb s us I.kIn hl
  rw [List.append_nil] at hb'
  refine wpAny_call (codeAny_mono (F.run X.A.in1 X.stack s H ⟨us, []⟩ us vs Q E0 hr.in1 I.env0.in1 hb' r h) fun r s' hq => ?_)
  match r, hq with
  | .error e, hq => exact False.elim hq
  | .ok (.ret u), hq => exact I.after hq
  | .ok .next, hq => exact False.elim hq
  | .ok .brk, hq => exact False.elim hq
  | .ok .cont, hq => exact False.elim hq
theorem op_ownNe (F : FnOk X.prog X.w X.K X.mg X.base CX0 k f fd ["self", "other"] sp) (O : OwnEq X.K C f fd) (hr : Room (k + 1) X.A) : OpR X (compareOp .NotEq) (rOwnC C sp (fun c => !c) X.K) := by
  intro pins s σ H x y v u Q I rx ry h
  obtain ⟨a, dx, fs, rfl, ha, hy, hsp⟩ := h
  cases rx
  obtain ⟨mA, J, _⟩ := ins_get I.hok ha
  obtain ⟨od, J, _⟩ := J.look
  obtain ⟨tb, hb, hn⟩ := hy.look I ry
  show wpAny (model X.prog X.w) X.A (richCompare .NotEq (.ref a) u) (EP X pins σ Q) X.xe s
  refine rich_ne (by have := hr.un; omega) I.kIn J hb hn O.eq O.fn O.ne O.top ?_
  refine wpAny_mono (run_fn_in1 (Q := fun v H' => ∃ c, v = .bl c ∧ Q (.bl (!c)) H') (vs := [.ref a, y]) (us := [.ref a, u]) F hr O.bd I (.cons rfl (.cons ry .nil)) hsp) (fun v s' hv => ?_) fun _ _ e => e
  obtain ⟨z, H', I', rz, c, rfl, q⟩ := hv
  cases (show v = Value.bool c from rz)
  exact ⟨c, rfl, .bl (!c), H', I', rfl, q⟩
end
/-! ### calls by keywords alone -/
theorem kbn_of {K : Frag} {fd : FuncData} {ps ks : List Str} {n : Nat} (g : {α : Type} → List α → List α → List α) (hrel : ∀ {vs zs : List V} {us ws : List Value}, Vals vs us → Vals zs ws → Vals (g vs zs) (g us ws))
    (h : ∀ us ws : List Value, us.length = n → ws.length = ks.length → bindArgs fd ⟨us, ks.zip ws⟩ = pure (ps.zip (g us ws))) : KBn K fd ps n ks (fun us ws => g us ws) (fun vs zs => g vs zs) :=
  ⟨fun _ us ws _ h1 h2 => .of_eq (h us ws h1 h2), hrel⟩
section
variable {X : Cx} {CX : CXT} {k n : Nat} {f C : Addr} {fd : FuncData} {ps ks : List Str} {sp : Sp} {E : XK} {x m : Str} {p pos apos : Pos} {o : Expr} {kws : List Keyword} {ta : TE} {tk : TA} {g : List Value → List Value → List Value} {gV : List V → List V → List V}
/-- f(k = v, ..) -/
theorem pe_callN0 (F : FnOk X.prog X.w X.K X.mg X.base CX k f fd ps sp) (hr : Room k X.A) (hg : Gl X x) (hm : X.mg x = some (.ref f)) (hk : PySem.W.keepIn X.K (.ref f) = true) (hb : KBn X.K fd ps 0 ks g gV) (hx : Passes CX X E) (hkw : PK X kws tk)
    (hall : (backToKw pos (keywordEach kws X.env)).all (·.1.isSome) = true := by rfl) (hks : (backToKw pos (keywordEach kws X.env)).filterMap (·.1) = ks := by rfl)
    (hdb : (x == ("__debug__" : Str)) = false := by decide) (hpl : ((backTo pos (starEach [] X.env)).any (·.1) || (backToKw pos (keywordEach kws X.env)).any (·.1.isNone)) = false := by rfl) :
    PE X (.Call (.Name x p) [] kws pos) (tCallN 0 ks.length sp gV E tNil tk) := by
  constructor
  intro pins s σ H Q I h
  refine wpAny_Call_Name_kw (ld_glob I hg hm ?_ hdb)
  refine PySem.W.callWith_KW0 (h₀ := X.base) I.ok.mod.kin hk hall (thn (hkw.run pos pins s σ H _ I h) fun ws s2 hv => ?_) hpl
  obtain ⟨zs, H2, I2, rz, l1, l2, q2⟩ := hv
  refine ⟨I2.kIn, ?_⟩
  rw [hks]
  exact run_fnN (us := []) (vs := []) F hr hb hx I2 .nil rz rfl l2 q2
/-- o.m(k = v, ..) -/
def tMethN (C : Addr) (m : Str) (n : Nat) (sp : Sp) (gV : List V → List V → List V) (E : XK) (ta : TE) (tk : TA) : TE := fun σ H Q => ta σ H fun x H1 => ∃ a dx fs, x = .ref a ∧ H1 a = some (.ins C dx fs) ∧ fs.lookup m = none ∧
  tk σ H1 fun zs H2 => zs.length = n ∧ sp (gV [x] zs) H2 Q E
theorem pe_methN0 {pl : Sem Bool} (he : PE X o ta) (c : Cls X.K C) (hm : Meth X.K C m f) (F : FnOk X.prog X.w X.K X.mg X.base CX k f fd ps sp) (hr : Room k X.A) (hb : KBn X.K fd ps 1 ks g gV) (hx : Passes CX X E) (hkw : PK X kws tk)
    (hall : (backToKw pos (keywordEach kws X.env)).all (·.1.isSome) = true := by rfl) (hks : (backToKw pos (keywordEach kws X.env)).filterMap (·.1) = ks := by rfl)
    (hpl : ((backTo pos (starEach [] X.env)).any (·.1) || (backToKw pos (keywordEach kws X.env)).any (·.1.isNone)) = false := by rfl)
    (ht : eval (.Call (.Attribute o m apos) [] kws pos) X.env = (do
      let ov ← eval o X.env
      standAt apos.atName
      let (f, first) ← holding [ov] (getMethod ov m pl)
      callWith pos f first (backTo pos (starEach [] X.env)) (backToKw pos (keywordEach kws X.env))) := by rfl) :
    PE X (.Call (.Attribute o m apos) [] kws pos) (tMethN C m ks.length sp gV E ta tk) := by
  constructor
  intro pins s σ H Q I h
  refine PySem.W.methodCall_KW (pl := pl) (thn (he.run pins s σ H _ I h) fun u s1 hv => ?_) ht
  obtain ⟨x, H1, I1, rx, a, dx, fs, ex, ea, l, q⟩ := hv
  subst ex
  obtain rfl : u = Value.ref a := rx
  refine getmeth_ok I1 ea c hm l ?_
  refine PySem.W.callWith_KW0 (first := [.ref a]) (h₀ := X.base) I1.ok.mod.kin hm.kp hall (thn (hkw.run pos pins s1 σ H1 _ I1 q) fun ws s2 hv => ?_) hpl
  obtain ⟨zs, H2, I2, rz, l2, q2⟩ := hv
  refine ⟨I2.kIn, ?_⟩
  rw [hks]
  exact run_fnN (n := 1) (us := [.ref a]) (vs := [.ref a]) F hr hb hx I2 (.cons rfl .nil) rz rfl (by simpa using l2) q2
end
end Z
namespace Z
open PySem PySem.Spec PyProof.Rows L2
/-! ### the law's end, for a law that is called while no repr runs -/
theorem law_callG {P : Program} {w : World} {K : PySem.W.Frag} {mg mb : Str → Option Value} {k : Nat} {fa a : Addr} {fd : FuncData} {x : Str} {sp : Sp} {s₁ : Shared} {vs : List Value} {ns : List Int}
    (KX : K.In s₁.heap) (hns : s₁.heap.Ns mainGlobals mg) (hb : s₁.heap.Ns builtinsNs mb) (hbb : ∀ x : Str, x ≠ "__name__" → mb x = bootBuiltins x) (hlim : s₁.heap.NoLimit) (hg : s₁.gens = #[])
    (ha : s₁.heap.get? a = some { cls := .type "list", data := .seq vs.toArray }) (hi : IntsAre vs ns) (hl : ns.length ≤ sizeLine) (hr : Room k callerA)
    (F : ∀ base : Heap, K.In base → base.Ns mainGlobals mg → FnG P w K mg base k fa fd [x] sp) (hbind : ∀ (s : Shared) (u : Value), BindsTo s fd ⟨[u], []⟩ [(x, u)])
    (hsp : ∀ H : Hp, Only H → SqL K H a (ns.map V.int) → sp [.ref a] H (fun v _ => v = .bl true) fun _ _ _ => False) :
    codeAny (model P w) callerA (.call (.ref fa) ⟨[.ref a], []⟩) (fun r s' => r = .ok (.ret (.bool true)) ∧ OldK s₁.heap s'.heap ∧ s'.os = s₁.os ∧ AllBare s'.gens) s₁ := by
  have rv := vals_ints hi
  have lenV := hi.length
  suffices core : ∀ H : Hp, Only H → SqL K H a (ns.map V.int) → HOk P w H s₁.heap → (∀ b, H b ≠ none → b = a) → (H a ≠ none → K.lookup a = none) →
      codeAny (model P w) callerA (.call (.ref fa) ⟨[.ref a], []⟩) (fun r s' => r = .ok (.ret (.bool true)) ∧ OldK s₁.heap s'.heap ∧ s'.os = s₁.os ∧ AllBare s'.gens) s₁ by
    cases hk : K.lookup a with
    | some o =>
      have e := KX a o hk
      rw [ha] at e
      cases e
      have none0 : ∀ (b : Addr) (u : HO), (fun _ => none : Hp) b = some u → False := fun b u z => by cases (show (none : Option HO) = some u from z)
      refine core (fun _ => none) (fun _ => .inl rfl) (.inr ⟨_, vs.toArray, _, hk, rfl, rfl, rfl, ?_, by simpa using rv⟩) (fun b u z => (none0 b u z).elim) (fun b z => absurd rfl z) fun z => absurd rfl z
      rw [List.size_toArray, lenV]
      exact hl
    | none =>
      let sc : HO := .frz { cls := .type "list", data := .seq vs.toArray } (.lst (ns.map V.int))
      refine core (fun b => if b = a then some sc else none) (fun b => ?_) (.inl (.inr ⟨{ cls := .type "list", data := .seq vs.toArray }, if_pos rfl⟩)) (fun b u z => ?_) (fun b z => ?_) fun _ => hk
      · by_cases e : b = a
        · exact .inr ⟨_, _, if_pos e⟩
        · exact .inl (if_neg e)
      · by_cases e : b = a
        · subst e
          have z' : some sc = some u := (if_pos rfl).symm.trans z
          cases z'
          exact ⟨ha, by rw [List.length_map]; exact hl, vs, _, rv, ha⟩
        · cases (if_neg e).symm.trans z
      · by_cases e : b = a
        · exact e
        · exact absurd (if_neg e) z
  intro H hO hS hok hA hK
  have isA : ∀ {b : Addr}, H b ≠ none → s₁.heap.get? b = some { cls := .type "list", data := .seq vs.toArray } := fun {b} z => by rw [hA b z]; exact ha
  have noD : ∀ {b : Addr} {o : Obj} {es : Array DictEntry} {ep : Nat}, s₁.heap.get? b = some o → o.data = .dict es ep → H b = none := fun {b o es ep} e d => by
    by_cases z : H b = none
    · exact z
    · rw [isA z] at e
      cases e
      cases (show Data.seq vs.toArray _ = Data.dict es ep from d)
  have nsK : ∀ {b : Addr} {m : Str → Option Value}, s₁.heap.Ns b m → (hidT s₁.heap H).Ns b m := fun n => by
    obtain ⟨o, es, ep, e, d, r⟩ := n
    exact ⟨o, es, ep, hidT_get e (noD e d), d, r⟩
  have hKb : K.In (hidT s₁.heap H) := fun b o e => hidT_get (KX b o e) (by
    by_cases z : H b = none
    · exact z
    · have eb := hA b z
      subst eb
      rw [hK z] at e
      cases e)
  have hM : Mod K mg (hidT s₁.heap H) := ⟨hKb, nsK hns, ⟨mb, nsK hb, hbb⟩, let ⟨mc, h1, h2⟩ := hlim; ⟨mc, nsK h1, h2⟩⟩
  have nil0 : ∀ b : Addr, b ∉ ([] : List Addr) := fun b => by simp
  have e0 : Env0 P w K mg (hidT s₁.heap H) callerA [] s₁ H := ⟨rfl, hM, fun b o e => of_hidT e, Nat.le_of_eq (hidT_size _ _), trivial, fun b hb => absurd hb (nil0 b), hok, .of_eq hg⟩
  refine codeAny_mono ((F _ hKb (nsK hns)).run callerA [] s₁ H ⟨[.ref a], []⟩ [.ref a] [.ref a] _ _ hr rfl e0 (hbind s₁ (.ref a)) (.cons rfl .nil) (hsp H hO hS)) fun r s' h => ?_
  match r, h with
  | .error e, h => exact False.elim h
  | .ok .next, h => exact False.elim h
  | .ok .brk, h => exact False.elim h
  | .ok .cont, h => exact False.elim h
  | .ok (.ret u), h =>
    obtain ⟨v, H', os, bare, un, hok', r', q⟩ := h
    cases (show v = .bl true from q)
    cases (show u = Value.bool true from r')
    refine ⟨rfl, OldK.of_keep fun b o e => ?_, os, bare⟩
    by_cases z : H b = none
    · exact un.keep b o e z (nil0 b) (by simp)
    · rcases hO b with y | ⟨ob, xs, y⟩
      · exact absurd y z
      · obtain ⟨e1, _⟩ := hok b _ y
        obtain ⟨e2, _⟩ := hok' b _ (un.frzs b ob _ y)
        rw [e] at e1
        cases e1
        exact e2
/-- the goal that k_head leaves, from the law's promise -/
theorem walkG {l : PySem.W.OpenLaw} {n k : Nat} {q : Program} {loose : List Str} {XP : (Str → Option Value) → Heap → Prop} {YP : World → Heap → Prop} {d : DefRec} {K : Params → PySem.W.Frag} {sp : World → Sp} {x : Str}
    (hn : l.most = some n) (hn2 : n ≤ sizeLine) (hdf : d.params.defaults = []) (hr : Room k callerA) (hY : ∀ (w : World) (h : Heap), YP w h → (K w.params).In h)
    (F : ∀ (w : World) (mg : Str → Option Value) (fa : Addr) (h : Heap), (K w.params).In h → h.Ns mainGlobals mg → mg d.name = some (.ref fa) →
      ∃ fd : FuncData, (∀ (s : Shared) (u : Value), BindsTo s fd ⟨[u], []⟩ [(x, u)]) ∧ ∀ base : Heap, (K w.params).In base → base.Ns mainGlobals mg → FnG l.prog w (K w.params) mg base k fa fd [x] (sp w))
    (hsp : ∀ (w : World) (H : Hp) (a : Addr) (ns : List Int), ns.length ≤ n → Only H → SqL (K w.params) H a (ns.map V.int) → sp w [.ref a] H (fun v _ => v = .bl true) fun _ _ _ => False) :
    PySem.W.WalkO q loose XP YP l.row.toRowW d [] (fun f vs => PySem.call f vs) := by
  refine Att.attach_call hn hdf fun w s₀ s₁ mg mb fa o pm cd doc a vs ns G Y ho hd hcd hmg hobj hints hlen hg => ?_
  have KX := hY w _ Y
  obtain ⟨fd, hb, hF⟩ := F w mg fa _ KX G.T.g hmg
  exact law_callG KX G.T.g G.T.b G.T.builtins G.T.nolimit hg hobj hints (Nat.le_trans hlen hn2) hr hF hb fun H hO hS => hsp w H a ns hlen hO hS
end Z
namespace Z
open PySem PySem.Spec PyProof.Rows L2
/-! ### name = {k: v for ..}: a local is set to a dict comprehension -/
def InBlk (X : Cx) (scope : Scope) (p : Cx → Prop) : Prop := ∀ s H C cl fp, p (X.blk s H scope (compEnvC scope cl C X.env) fp)
theorem sw_dict {k v : Expr} {cs : List Comprehension} {scope : Scope} {pos py : Pos} {y : Str} {l : Nat} {env : Env} (hk : env.scope.kind = .function) (hy : env.scope.names.lookup y = some .local)
    (hl : (py.line == pos.line) = true) (ha : (scope.names.any fun q => q.1 == y && (q.2 == .local || q.2 == .cell)) = false) : swapsWith (.DictComp k v cs scope pos) (some (.Name y py)) l env = pure true := by
  have e1 : env.kindOf y = some .local := hy
  have e2 : env.blockKind = .function := by
    unfold Env.blockKind
    rw [hk]
    rfl
  unfold swapsWith
  simp only [e1, e2, ha, hl, Expr.pos]
  rfl
theorem ps_setDc {X : Cx} {i : Nat} {y : Str} {py pos sp : Pos} {k v tg iter : Expr} {ifs : List Expr} {scope : Scope} {own : List (Str × Nat)} {wi : TI} {g : TG} {tt : TT} {tk tv : TE} (hc : X.calm = true) (hN : X.N.Nodup)
    (hy : X.N[i]? = some y) (yl : X.env.scope.names.lookup y = some .local) (sw : swapsWith (.DictComp k v [⟨tg, iter, ifs, 0⟩] scope pos) (some (.Name y py)) sp.line X.env = pure true) (hi : PI X tg iter wi)
    (ok : BlkOk X.N X.env.scope scope own) (bg : InBlk X scope fun Y => PG Y tg g) (bt : InBlk X scope fun Y => PTs Y ifs tt) (bk : InBlk X scope fun Y => PE Y k tk) (bv : InBlk X scope fun Y => PE Y v tv)
    (hs : ∀ x, foldedSetIterable iter X.env x = pure x := by intro _; rfl) : PS X (.Assign [.Name y py] (.DictComp k v [⟨tg, iter, ifs, 0⟩] scope pos) sp) (tAsg (tDc wi g tt tk tv (own.map (·.2))) (gName i)) := by
  constructor
  intro pins s σ H D I h
  rw [exec_Assign_Name_used _ _ _ _ sw]
  refine wpAny_bind (wpAny_standAt (wpAny_bind ?_))
  have q0 : tDc wi g tt tk tv (own.map (·.2)) σ H (fun z Hz => gName i z σ Hz D.nx) := h
  show wpAny _ X.A (do
    let _ ← comprehension (.DictComp k v [⟨tg, iter, ifs, 0⟩] scope pos) scope X.env (firstIterPos [⟨tg, iter, ifs, 0⟩] pos) newDict false (eval iter X.env) (some (assign (.Name y py) X.env))) _ _ s
  have core := dc_core (Qf := fun _ z => SP X pins D .next z) hc hN I hi ok bg bt bk bv hs q0 (use := some (assign (.Name y py) X.env)) (pos := pos) (pos' := firstIterPos [⟨tg, iter, ifs, 0⟩] pos)
  refine wpAny_bind (thn (core fun L C s' m H' J q hn f => ?_) fun _ _ z => wpAny_pure (wpAny_pure z))
  show wpAny _ _ (assign (.Name y py) X.env (.ref L)) _ _ _
  refine wpAny_assign_Name (store_ok2 (v := V.ref L) J hN hy (.inl yl) rfl (fun s2 J2 hb => ?_) (.inr yl))
  obtain ⟨a, sb, ha⟩ := hb
  obtain ⟨f0, f1, f2, f3, f4, f5⟩ := f
  have nC : C ≠ a := by
    rcases ha with z | z
    · rw [z]
      exact f1
    · exact fun e => f4 y a z e.symm
  exact ⟨m, hn.sameBut sb nC, fun h3 sb3 => ⟨_, H', J2.turned (t' := s2.toks) (fun b o hb e => (sb3.2 b hb).trans e) f0 f1 f3 f4 f5, q⟩⟩
end Z
namespace Z
open PySem PySem.Spec PyProof.Rows L2 PySem.W
/-! ### bits of whole numbers that are not below 0 -/
def blN (b : Nat) : Nat := if b = 0 then 0 else b.log2 + 1
section
variable {X : Cx}
theorem OpR.imp' {op : Value → Value → Sem Value} {r r' : R2} (h : OpR X op r) (k : ∀ x y H Q, r' x y H Q → r x y H Q) : OpR X op r' :=
  fun pins s σ H x y v u Q I rx ry q => h pins s σ H x y v u Q I rx ry (k x y H Q q)
theorem blN_lt (b : Nat) : b < 2 ^ blN b := by
  unfold blN
  split
  · omega
  · exact Nat.lt_log2_self
def rNN (g : Nat → Nat → Nat) : R2 := fun x y H Q => ∃ a b : Nat, x = .int (a : Int) ∧ y = .int (b : Int) ∧ Q (.int ((g a b : Nat) : Int)) H
theorem bitAnd_nat (a b : Nat) : Builtin.bitAnd (a : Int) (b : Int) = ((a &&& b : Nat) : Int) := by
  rw [bitAnd_pp (by omega) (by omega), Int.toNat_natCast, Int.toNat_natCast]
theorem op_andNN : OpR X (binaryOp .BitAnd) (rNN fun a b => a &&& b) := OpR.imp' op_and fun x y H Q ⟨a, b, h1, h2, q⟩ => ⟨a, b, h1, h2, by have e := bitAnd_nat a b; show Q (.int (Builtin.bitAnd (a : Int) (b : Int))) H; rw [e]; exact q⟩
theorem op_orNN : OpR X (binaryOp .BitOr) (rNN fun a b => a ||| b) := OpR.imp' op_or fun x y H Q ⟨a, b, h1, h2, q⟩ => ⟨a, b, h1, h2, by
  show Q (.int (Builtin.bitOr (a : Int) (b : Int))) H
  rw [Bits.bitOr_pp (by omega) (by omega), Int.toNat_natCast, Int.toNat_natCast]; exact q⟩
theorem op_xorNN : OpR X (binaryOp .BitXor) (rNN fun a b => a ^^^ b) := OpR.imp' op_xor fun x y H Q ⟨a, b, h1, h2, q⟩ => ⟨a, b, h1, h2, by
  show Q (.int (Builtin.bitXor (a : Int) (b : Int))) H
  rw [Bits.bitXor_pp (by omega) (by omega), Int.toNat_natCast, Int.toNat_natCast]; exact q⟩
theorem op_shrNN : OpR X (binaryOp .RShift) (rNN fun a b => a >>> b) := OpR.imp' op_shr fun x y H Q ⟨a, b, h1, h2, q⟩ => ⟨a, b, h1, h2, by omega, by
  show Q (.int ((a : Int) / 2 ^ (b : Int).toNat)) H
  rw [Int.toNat_natCast]
  have e : ((a : Int) / 2 ^ b) = ((a >>> b : Nat) : Int) := by rw [Nat.shiftRight_eq_div_pow]; simp
  rw [e]; exact q⟩
theorem op_shlNN : OpR X (binaryOp .LShift) (fun x y H Q => ∃ a b : Nat, x = .int (a : Int) ∧ y = .int (b : Int) ∧ (∃ n, a < 2 ^ n ∧ n + b ≤ 100000000) ∧ Q (.int ((a <<< b : Nat) : Int)) H) :=
  OpR.imp' op_shlW fun x y H Q ⟨a, b, h1, h2, ⟨n, hn, hs⟩, q⟩ => ⟨a, b, h1, h2, shl_ok (n := n) (by simpa using hn) (by omega), by
    show Q (.int ((a : Int) * 2 ^ (b : Int).toNat)) H
    rw [Int.toNat_natCast]
    have e : ((a : Int) * 2 ^ b) = ((a <<< b : Nat) : Int) := by rw [Nat.shiftLeft_eq]; simp
    rw [e]; exact q⟩
/-- a whole number as a truth value -/
theorem intBits_nat (a : Nat) : Builtin.Int.intBits (a : Int) = blN a := by
  unfold Builtin.Int.intBits blN
  simp
def tBitsN (to : TE) : TE := fun σ H Q => to σ H fun x H1 => ∃ a : Nat, x = .int (a : Int) ∧ Q (.int ((blN a : Nat) : Int)) H1
end
section
variable {X : Cx}
def tInt (t : TE) : TT := fun σ H Q => t σ H fun x H1 => ∃ i : Int, x = .int i ∧ Q (i != 0) H1
theorem pt_int {e : Expr} {t : TE} (h : PE X e t) (he : ∀ whole, isTrue e X.env whole = (do let v ← whole; standAt e.pos; holding [v] (truthy v)) := by intro _; rfl) : L2.PT X e (tInt t) := by
  refine ⟨fun pins s σ H Q I hw => ?_⟩
  refine isTrue_plain (thn (h.run pins s σ H _ I hw) fun v s1 hv => ?_) (he _)
  obtain ⟨x, H1, I1, r1, i, rfl, q⟩ := hv
  exact tru_ok pins s1 σ H1 (.int i) v Q I1 r1 ⟨_, rfl, q⟩
end
/-! ### math.lcm -/
section
variable {X : Cx}
def rLcm : List V → Hp → VK → Prop := fun vs H Q => ∃ a b : Nat, vs = [.int (a : Int), .int (b : Int)] ∧ a < 2 ^ 30 ∧ b < 2 ^ 30 ∧ Q (.int ((Nat.lcm a b : Nat) : Int)) H
theorem log2_lt {a n : Nat} (h : a < 2 ^ n) (hn : 0 < n) : a.log2 < n := by
  by_cases e : a = 0
  · subst e; simpa using hn
  · exact (Nat.log2_lt e).mpr h
theorem cr_lcm : CallR X (.builtin "math.lcm") rLcm := by
  intro pins s σ H vs us Q I r h
  obtain ⟨a, b, rfl, ha, hb, q⟩ := h
  obtain ⟨t, u, rfl⟩ := Vals.int2 r
  have le : Nat.lcm a b ≤ a * b := by
    unfold Nat.lcm
    exact Nat.div_le_self _ _
  have lt : a * b < 2 ^ 60 := by
    have := Nat.mul_le_mul (Nat.le_of_lt_succ (show a < (2 ^ 30 - 1) + 1 by omega)) (Nat.le_of_lt_succ (show b < (2 ^ 30 - 1) + 1 by omega))
    omega
  refine PySem.W.mg_lcm_v (c := ((Nat.lcm a b : Nat) : Int)) (by simp; omega) (by simp; omega) (by simp [Nat.lcm]) ?_ ⟨.int _, H, I.tok _, ⟨_, rfl⟩, q⟩
  rw [Int.natAbs_natCast, bitsLine_eq]
  have := log2_lt (a := Nat.lcm a b) (n := 60) (by omega) (by omega)
  omega
end
/-! ### min(t, default = ..), max(l, default = ..) -/
section
variable {X : Cx}
theorem hold_ints {h : Heap} : ∀ {ns : List Int} {its : List Value}, Vals (ns.map V.int) its → HoldAll h its ns
  | [], _, .nil => ⟨[], .nil⟩
  | n :: ns, _, .cons r t => by
    obtain ⟨u, rfl⟩ := (show ∃ t, _ = Value.int n t from r)
    obtain ⟨as, ra⟩ := hold_ints (h := h) t
    exact ⟨[] ++ as, .cons (.int n u) ra⟩
def headMin : List Int → V → V → Prop
  | [], d, v => v = d
  | n :: ns, _, v => v = .int (minOf n ns)
def headMax : List Int → V → V → Prop
  | [], d, v => v = d
  | n :: ns, _, v => v = .int (maxOf n ns)
theorem holds_int {h : Heap} {v : Value} {i : Int} (r : Holds h v i) : RelV (.int i) v := by
  obtain ⟨as, r⟩ := r
  cases r with
  | int i t => exact ⟨t, rfl⟩
/-- min(t, default = d), t a tuple of whole numbers -/
def tMinD (K : PySem.W.Frag) (ta tk : TA) : TE := fun σ H Q => ta σ H fun vs H1 => tk σ H1 fun zs H2 => ∃ (a : Addr) (ns : List Int) (d : V), vs = [.ref a] ∧ zs = [d] ∧ SqT K H2 a (ns.map V.int) ∧ ∀ v, headMin ns d v → Q v H2
theorem pe_minD {e : Expr} {kws : List Keyword} {ta tk : TA} {p pos : Pos} {k : Nat} (hcalm : X.calm = true) (hr : Room k X.A) (hg : Gl X "min") (hm : X.mg "min" = none) (ha : PA X [e] ta) (hkw : PK X kws tk)
    (he : backTo pos (starEach [e] X.env) = (false, eval e X.env) :: backTo pos (starEach [] X.env) := by rfl) (hpl : (backTo pos (starEach [e] X.env)).any (·.1) = false := by rfl)
    (hall : (backToKw pos (keywordEach kws X.env)).all (·.1.isSome) = true := by rfl) (hkn : (backToKw pos (keywordEach kws X.env)).any (·.1.isNone) = false := by rfl)
    (hks : (backToKw pos (keywordEach kws X.env)).filterMap (·.1) = [("default" : Str)] := by rfl) : PE X (.Call (.Name "min" p) [e] kws pos) (tMinD X.K ta tk) := by
  refine ⟨fun pins s σ H Q I h => ?_⟩
  refine wpAny_Call_Name_kw (ld_blt I hg hm (show bootBuiltins "min" = some (.builtin "min") by decide +kernel) ?_ (by decide) (by decide))
  refine callWith_kw (thn (ha.run pos pins s σ H _ I h) fun us s1 hv => ?_) he hpl hall hkn
  obtain ⟨vs, H1, I1, r1, q1⟩ := hv
  refine thn (hkw.run pos pins s1 σ H1 _ I1 q1) fun ws s2 hv2 => ?_
  obtain ⟨zs, H2, I2, r2, a, ns, d, ev, ez, ht, q⟩ := hv2
  subst ev ez
  obtain ⟨u, eu, rx⟩ := vals1 r1
  subst eu
  cases rx
  obtain ⟨z, ez, rz⟩ := vals1 r2
  subst ez
  rw [hks]
  obtain ⟨its, rv, ht', _⟩ := I2.tuple ht
  have hu := hr.un
  refine PySem.W.min_tuple_datum_default (xs := ns) (I2.ok.hd hcalm) ht' (by simpa using hold_ints rv) (by show X.A.units + 1 + 0 < cLine; omega) (fun e0 h' tk hk => ?_) fun y ys i v h' tk e1 hi hh hk => ?_
  · subst e0
    exact ⟨d, H2, I2.kept (t' := tk) hk, rz, q d rfl⟩
  · subst e1
    exact ⟨.int (minOf y ys), H2, I2.kept (t' := tk) hk, holds_int hh, q _ rfl⟩
def tMaxD (K : PySem.W.Frag) (ta tk : TA) : TE := fun σ H Q => ta σ H fun vs H1 => tk σ H1 fun zs H2 => ∃ (a : Addr) (ns : List Int) (d : V), vs = [.ref a] ∧ zs = [d] ∧ SqL K H2 a (ns.map V.int) ∧ ∀ v, headMax ns d v → Q v H2
theorem pe_maxD {e : Expr} {kws : List Keyword} {ta tk : TA} {p pos : Pos} {k : Nat} (hcalm : X.calm = true) (hr : Room k X.A) (hg : Gl X "max") (hm : X.mg "max" = none) (ha : PA X [e] ta) (hkw : PK X kws tk)
    (he : backTo pos (starEach [e] X.env) = (false, eval e X.env) :: backTo pos (starEach [] X.env) := by rfl) (hpl : (backTo pos (starEach [e] X.env)).any (·.1) = false := by rfl)
    (hall : (backToKw pos (keywordEach kws X.env)).all (·.1.isSome) = true := by rfl) (hkn : (backToKw pos (keywordEach kws X.env)).any (·.1.isNone) = false := by rfl)
    (hks : (backToKw pos (keywordEach kws X.env)).filterMap (·.1) = [("default" : Str)] := by rfl) : PE X (.Call (.Name "max" p) [e] kws pos) (tMaxD X.K ta tk) := by
  refine ⟨fun pins s σ H Q I h => ?_⟩
  refine wpAny_Call_Name_kw (ld_blt I hg hm (show bootBuiltins "max" = some (.builtin "max") by decide +kernel) ?_ (by decide) (by decide))
  refine callWith_kw (thn (ha.run pos pins s σ H _ I h) fun us s1 hv => ?_) he hpl hall hkn
  obtain ⟨vs, H1, I1, r1, q1⟩ := hv
  refine thn (hkw.run pos pins s1 σ H1 _ I1 q1) fun ws s2 hv2 => ?_
  obtain ⟨zs, H2, I2, r2, a, ns, d, ev, ez, ht, q⟩ := hv2
  subst ev ez
  obtain ⟨u, eu, rx⟩ := vals1 r1
  subst eu
  cases rx
  obtain ⟨z, ez, rz⟩ := vals1 r2
  subst ez
  rw [hks]
  obtain ⟨its, rv, ht', _⟩ := I2.list ht
  have hu := hr.un
  refine PySem.W.max_list_datum_default (xs := ns) (I2.ok.hd hcalm) ht'.isList (by simpa using hold_ints rv) (by show X.A.units + 1 + 0 < cLine; omega) (fun e0 h' tk hk => ?_) fun y ys i v h' tk e1 hi hh hk => ?_
  · subst e0
    exact ⟨d, H2, I2.kept (t' := tk) hk, rz, q d rfl⟩
  · subst e1
    exact ⟨.int (maxOf y ys), H2, I2.kept (t' := tk) hk, holds_int hh, q _ rfl⟩
end
/-! ### x in c, c an object with a __contains__ of its own -/
section
variable {X : Cx} {k : Nat} {C f : Addr} {fd : FuncData} {sp : Sp}
structure OwnIn (K : PySem.W.Frag) (C f : Addr) (fd : FuncData) (ps : List Str) : Prop where
  at_ : PySem.W.findIn K (.ref C) "__contains__" = some (some (.ref f))
  fn : PySem.W.isFn K (.ref f) = true
  bd : Binds K fd ps []
def rOwnIn (C : Addr) (sp : Sp) : R2 := fun x y H Q => ∃ a dx fs, y = .ref a ∧ H a = some (.ins C dx fs) ∧ sp [y, x] H (fun v H' => ∃ c, v = .bl c ∧ Q (.bl c) H') E0
theorem op_ownIn {ps : List Str} (F : FnOk X.prog X.w X.K X.mg X.base CX0 k f fd ps sp) (O : OwnIn X.K C f fd ps) (hr : Room k X.A) : OpR X (compareOp .In) (rOwnIn C sp) := by
  intro pins s σ H x y v u Q I rx ry h
  obtain ⟨a, dx, fs, rfl, ha, hsp⟩ := h
  cases ry
  obtain ⟨mA, J, _⟩ := ins_get I.hok ha
  obtain ⟨od, J, _⟩ := J.look
  obtain ⟨m, hF⟩ := I.fr
  refine PySem.W.in_K hF I.ok.mod.kin J O.at_ O.fn ?_
  refine wpAny_mono (run_fn (dvs := []) (ds := []) (Q := fun v H' => ∃ c, v = .bl c ∧ Q (.bl c) H') (vs := [.ref a, x]) (us := [.ref a, v]) F hr O.bd .nil pass0 I (.cons rfl (.cons rx .nil)) (by simpa using hsp)) (fun w s' hv => ?_) fun _ _ e => e
  obtain ⟨z, H', I', rz, c, rfl, q⟩ := hv
  cases (show w = Value.bool c from rz)
  exact wpAny_truthy_bool ⟨.bl c, H', I', rfl, q⟩
end
end Z
namespace Z
open PySem PySem.Spec PyProof.Rows L2 PySem.W
theorem and_rest : ∀ (n a b : Nat), a ≤ n → (a ^^^ (a &&& b)) + (a &&& b) = a
  | 0, a, b, h => by
    obtain rfl : a = 0 := by omega
    simp
  | n + 1, a, b, h => by
    by_cases e : a = 0
    · subst e; simp
    have ih := and_rest n (a / 2) (b / 2) (by omega)
    have d1 : (a &&& b) / 2 = (a / 2) &&& (b / 2) := Nat.and_div_two
    have d2 : (a ^^^ (a &&& b)) / 2 = (a / 2) ^^^ ((a &&& b) / 2) := Nat.xor_div_two
    have m1 : (a &&& b) % 2 = (a % 2) &&& (b % 2) := by have := @Nat.and_mod_two_pow a b 1; simpa using this
    have m2 : (a ^^^ (a &&& b)) % 2 = (a % 2) ^^^ ((a &&& b) % 2) := by have := @Nat.xor_mod_two_pow a (a &&& b) 1; simpa using this
    rw [d1] at d2
    rw [m1] at m2
    have ha := Nat.mod_two_eq_zero_or_one a
    have hb := Nat.mod_two_eq_zero_or_one b
    have key : (a ^^^ (a &&& b)) % 2 + (a &&& b) % 2 = a % 2 := by
      rw [m1, m2]
      rcases ha with ha | ha <;> rcases hb with hb | hb <;> rw [ha, hb] <;> rfl
    omega
section
variable {X : Cx}
theorem op_andInv : OpR X (binaryOp .BitAnd) (fun x y H Q => ∃ a b : Nat, x = .int (a : Int) ∧ y = .int (Builtin.bitNot (b : Int)) ∧ Q (.int ((a ^^^ (a &&& b) : Nat) : Int)) H) :=
  OpR.imp' op_and fun x y H Q ⟨a, b, h1, h2, q⟩ => ⟨_, _, h1, h2, by
    have nb : ¬ 0 ≤ Builtin.bitNot (b : Int) := by show ¬ 0 ≤ -(b : Int) - 1; omega
    have nn : Builtin.bitNot (Builtin.bitNot (b : Int)) = (b : Int) := by show -(-(b : Int) - 1) - 1 = _; omega
    show Q (.int (Builtin.bitAnd (a : Int) (Builtin.bitNot (b : Int)))) H
    rw [bitAnd_pn (by omega) nb, nn, Int.toNat_natCast, Int.toNat_natCast]
    have := and_rest a a b (Nat.le_refl _)
    rw [show (a : Int) - ((a &&& b : Nat) : Int) = ((a ^^^ (a &&& b) : Nat) : Int) by omega]
    exact q⟩
theorem op_isB : OpR X (compareOp .Is) (fun x y H Q => ∃ c d, x = .bl c ∧ y = .bl d ∧ Q (.bl (c == d)) H) := by
  intro pins s σ H x y v u Q I rx ry h
  obtain ⟨c, d, rfl, rfl, q⟩ := h
  cases rx
  cases ry
  exact is_bool ⟨.bl _, H, I, rfl, q⟩
end
end Z
namespace Z
open PySem PySem.Spec PyProof.Rows L2
/-! ### a weaker wish, behind arguments -/
def tMono (t : TA) : TA := fun σ H R => ∃ R' : List V → Hp → Prop, t σ H R' ∧ ∀ vs H', R' vs H' → R vs H'
theorem pa_mono {X : Cx} {es : List Expr} {t : TA} (h : PA X es t) : PA X es (tMono t) := ⟨fun pos pins s σ H R I hR => by
  obtain ⟨R', h1, h2⟩ := hR
  exact thn (h.run pos pins s σ H R' I h1) fun us s1 ⟨vs, H1, I1, r, q⟩ => ⟨vs, H1, I1, r, h2 _ _ q⟩⟩
/-! ### own errors with one field -/
/-- what __init__ promises: the field is set, in a new dict -/
def spErr (C : Addr) (f : Str) : Sp := fun vs H Q _ => ∃ (a : Addr) (v : V), vs = [.ref a, v] ∧ H a = some (exo a C none) ∧
  ∀ dx, H dx = none → dx ≠ a → Q .non (upd (upd H dx (exd dx [(f, v)])) a (exo a C (some dx)))
/-- the class as the top has left it; its __init__ at fI -/
structure ErrAt (K : PySem.W.Frag) (mg : Str → Option Value) (x q f : Str) (st : Stmt) (C : Addr) : Prop where
  gC : mg x = some (.ref C)
  ox : OexC K C
  xf : XfC K C
  no : PySem.W.findIn K (.ref C) f = some none
  te : PySem.W.exmOne K (.ref C) (.ref C) = some true
  fn : ∃ (fI : Addr) (fd : FuncData), Fun K "__init__" q st fI fd ∧ PySem.W.findIn K (.ref C) "__init__" = some (some (.ref fI)) ∧ PySem.W.typeIn K (.ref fI) = some (.type "function") ∧ Binds K fd ["self", f] []
/-- the same, with what its __init__ keeps -/
def PrErr (P : Program) (w : World) (K : PySem.W.Frag) (mg : Str → Option Value) (base : Heap) (x f : Str) (C : Addr) : Prop :=
  mg x = some (.ref C) ∧ OexC K C ∧ ∃ (fI : Addr) (fd : FuncData), PySem.W.findIn K (.ref C) "__init__" = some (some (.ref fI)) ∧ PySem.W.typeIn K (.ref fI) = some (.type "function") ∧ Binds K fd ["self", f] [] ∧ FnOk P w K mg base CX0 1 fI fd ["self", f] (spErr C f)
/-- an error of the class at C flies: its own dict, new, holds f = v; all else is as it was -/
def Bad (C : Addr) (f : Str) (v : V) (H : Hp) (E : XK) : Prop := ∀ d H', Same H H' → H d = none → H' d = some (.xd [(f, v)]) → E (.ref C) (some d) H'
theorem Bad.imp {C : Addr} {f : Str} {v : V} {H : Hp} {E E' : XK} (h : Bad C f v H E) (k : ∀ cls d H', E cls d H' → E' cls d H') : Bad C f v H E' := fun d H' s n e => k _ _ _ (h d H' s n e)
theorem Bad.later {C : Addr} {f : Str} {v : V} {H H1 : Hp} {E : XK} (s : Same H H1) (h : Bad C f v H E) : Bad C f v H1 E := fun d H' s1 n e => h d H' (fun b o q => s1 b o (s b o q)) (by
  cases q : H d with
  | none => rfl
  | some o => rw [s _ _ q] at n; cases n) e
def tErr (C : Addr) (f : Str) (ta : TA) : L2.St → Hp → XK → Prop := fun σ H Q => ta σ H fun vs H1 => ∃ v, vs = [v] ∧ Bad C f v H1 Q
section
variable {X : Cx} {C : Addr} {x f : Str} {e : Expr} {es : List Expr} {ta : TA} {p pos pos2 : Pos} {W : WX}
theorem pmk_err (E : PrErr X.prog X.w X.K X.mg X.base x f C) (hr : Room 2 X.A) (ha : PA X (e :: es) ta) (hg : Gl X x := by rfl)
    (hdb : (x == ("__debug__" : Str)) = false := by decide) (he : starEach (e :: es) X.env = (false, eval e X.env) :: starEach es X.env := by rfl) (hpl : (backTo pos (starEach es X.env)).any (·.1) = false := by rfl) :
    PMk X (.Call (.Name x p) (e :: es) [] pos) (tErr C f ta) := by
  obtain ⟨gC, ox, fI, fd, iC, tI, bd, F⟩ := E
  intro pins s σ H Q I h
  refine pmk_oex (k := 1) (dvs := []) (ds := []) ox iC tI F hr bd .nil pass0 hg gC (pa_mono ha) hdb he hpl pins s σ H Q I ⟨_, h, fun vs H1 hv => ?_⟩
  obtain ⟨v, rfl, hb⟩ := hv
  refine ⟨by show 1 ≤ 1000; decide, fun a ha => ⟨a, v, rfl, upd_same, fun dx hdx hne => ⟨rfl, dx, [(f, v)], upd_same, ?_, ?_, ?_⟩⟩⟩
  · rw [upd_ne hne, upd_same]
  · rw [upd_ne hne] at hdx
    exact hdx
  · rw [upd_ne hne] at hdx
    refine hb dx _ (fun b o q => ?_) hdx upd_same
    have n1 : b ≠ dx := ne_of_none q hdx
    have n2 : b ≠ a := ne_of_none q ha
    rw [upd_ne n1, del_ne n2, upd_ne n2, upd_ne n1, upd_ne n2]
    exact q
/-- raise C(e) -/
def tRaise (W : WX) (C : Addr) (f : Str) (ta : TA) : TS := fun _ σ H => tErr C f ta σ H fun cls d H' => W cls d σ H'
theorem ps_raiseE (hc : X.calm = true) (tk : Takes X W) (E : PrErr X.prog X.w X.K X.mg X.base x f C) (hr : Room 2 X.A) (ha : PA X (e :: es) ta) (hg : Gl X x := by rfl)
    (hdb : (x == ("__debug__" : Str)) = false := by decide) (he : starEach (e :: es) X.env = (false, eval e X.env) :: starEach es X.env := by rfl) (hpl : (backTo pos (starEach es X.env)).any (·.1) = false := by rfl) :
    PS X (.Raise (some (.Call (.Name x p) (e :: es) [] pos)) none pos2) (tRaise W C f ta) := ps_raise hc tk (pmk_err E hr ha hg hdb he hpl)
end
/-! ### try, several clauses, each with a name -/
/-- a clause: its class, the slot of its name, its suite -/
abbrev Clause := Value × Nat × (Addr → Value → Option Addr → TS)
def endsAs (D : Ends) (i : Nat) : Ends := { nx := fun σ' H' => D.nx (σ'.set i none) H', rt := D.rt, bk := fun σ' H' => D.bk (σ'.set i none) H', ct := fun σ' H' => D.ct (σ'.set i none) H' }
def wEach (K : PySem.W.Frag) (Wout : WX) (D : Ends) : List Clause → WX
  | [] => Wout
  | c :: r => fun cls d σ H => (PySem.W.exmOne K cls c.1 = some true ∧ ∀ a, H a = none → c.2.2 a cls d (endsAs D c.2.1) (σ.set c.2.1 (some (.ref a))) H) ∨ (PySem.W.exmOne K cls c.1 = some false ∧ wEach K Wout D r cls d σ H)
inductive Each (X : Cx) : List ExceptHandler → List Clause → Prop
  | nil : Each X [] []
  | cons {x n : Str} {c : Value} {i : Nat} {ts : Addr → Value → Option Addr → TS} {b₀ : Stmt} {suite : List Stmt} {np pos' : Pos} {hds : List ExceptHandler} {l : List Clause} (hi : X.N[i]? = some n) (hln : X.env.kindOf n = some .local) (hc : Names X x c)
      (hsu : ∀ (a : Addr) (oe : Obj) (cls : Value) (d : Option Addr) (pn : List (Addr × Obj)), Zc cls d oe → (∃ vs, oe.data = .fields vs) → PSs (X.suite a ((a, oe) :: pn)) (b₀ :: suite) (ts a cls d)) (r : Each X hds l) :
      Each X (.ExceptHandler (some (.Name x np)) (some n) (b₀ :: suite) pos' :: hds) ((c, i, ts) :: l)
section
variable {X : Cx} {pins : List (Addr × Obj)} {σ : L2.St} {H : Hp} {a : Addr} {cls : Value} {d : Option Addr} {B : Heap} {sI : Shared} {Wout : WX} {D : Ends}
/-- the exception, held by the frame that looks at it, is offered to the clauses -/
theorem offered (hs : X.stack = X.env :: X.outer) (hf : X.env.frame = some X.env.locals) (hN : X.N.Nodup) (tk : Takes X Wout) (nb : ∀ b o, sI.heap.get? b = some o → b ∉ frs X.stack → B.get? b = some o) (J : Inv X pins σ H sI) (na : H a = none) :
    ∀ {hds : List ExceptHandler} {l : List Clause} {s : Shared}, Each X hds l → HandSPX.FlyingZ B (X.env :: X.outer) a (Zc cls d) s.heap → sI.heap.UpToSlots s.heap → s.os = sI.os → AllBare s.gens → wEach X.K Wout D l cls d σ H →
      wpAny (model X.prog X.w) X.A (handleBy (.ref a) X.env hds) (SP X pins D) X.xe s := by
  intro hds l s hk
  induction hk with
  | nil =>
    intro fl up os ag w
    obtain ⟨_, _, _, oe, vs, T, oT, ts, he, hz, hd, h1, hr⟩ := id fl
    refine wpAny_handleBy_nil ?_
    unfold PySem.passOn
    refine wpAny_bind (wpAny_field he hd h1 ?_)
    rw [if_neg (by simp : ¬ ((Value.ref T == Value.none) = true))]
    have out : wpAny (model X.prog X.w) X.A (setFlight (.ref a) X.env.frame) (fun _ s2 => wpAny (model X.prog X.w) X.A (throw (.ref a) : Sem Flow) (SP X pins D) X.xe s2) X.xe s := by
      rw [hf]
      obtain ⟨hp, g, dr, t, o⟩ := s
      refine HandSPX.setFlight_upZ fl fun h4 hh up4 => wpAny_throw (tk _ _ ⟨a, B, sI, pins, σ, H, cls, d, rfl, J, nb, up.trans up4, .inr (.inr (by rw [hs]; exact hh)), na, os, ag, w⟩)
    first
      | exact wpAny_bind (wpAny_pure (wpAny_bind out))
      | exact wpAny_bind out
  | @cons x n c i ts b₀ suite np pos' hds2 l2 hi hln hc hsu r ih =>
    intro fl up os ag w
    obtain ⟨hp, g, dr, t, o⟩ := s
    have J0 : Inv X pins σ H ⟨hp, g, dr, t, o⟩ := J.landed nb fl.1 up os ag
    -- where the exception stands: no frame
    have apart : ∀ {h : Heap}, HandSPX.FlyingZ B (X.env :: X.outer) a (Zc cls d) h → a ≠ X.env.locals ∧ a ∉ X.fs := fun {h} f => by
      obtain ⟨oe, vs, he, _, hd⟩ := f.there
      have nf : a ∉ frs (X.env :: X.outer) := fun hm => by
        obtain ⟨_, o', e', hn⟩ := f.2.2.1.mem hm
        rw [he] at e'
        cases e'
        exact hn _ hd
      refine ⟨fun z => nf (List.mem_filterMap.mpr ⟨X.env, List.mem_cons_self, by rw [hf, z]⟩), fun hm => ?_⟩
      obtain ⟨e, he', q⟩ := List.mem_filterMap.mp hm
      exact nf (List.mem_filterMap.mpr ⟨e, List.mem_cons_of_mem _ he', q⟩)
    obtain ⟨oe, vs, he, hz, hd⟩ := fl.there
    obtain ⟨nL, nF⟩ := apart fl
    have S0 := J0.suite he hd na nL nF
    refine wpAny_handleBy_cons (codeAny_handlers_test ?_) (by intro q; cases q)
    have LT : PySem.W.Looks (model X.prog X.w) hp (typeOf (.ref a)) cls := fun _ _ _ _ k q => wpAny_typeOf_ref (k _ _ he) (by rw [hz.1]; exact q)
    have named : ∀ {Q : Value → Shared → Prop} {E : Value → Shared → Prop}, Q c ⟨hp, g, dr, t, o⟩ → wpAny (model X.prog X.w) (X.A.mark (some (.ref a))) (eval (.Name x np) X.env) Q E ⟨hp, g, dr, t, o⟩ := fun {Q E} q => by
      obtain ⟨hg, hdb, hm | ⟨hm, hv, hnn⟩⟩ := hc
      · exact ld_glob (X := X.suite a ((a, oe) :: (X.pn ++ pins))) S0 hg hm q hdb
      · exact ld_blt (X := X.suite a ((a, oe) :: (X.pn ++ pins))) S0 hg hm hv q hnn hdb
    rcases w with ⟨hb, hyes⟩ | ⟨hb, hno⟩
    · have LM := PySem.W.exm_one (M := model X.prog X.w) J0.kIn LT hb
      refine named (LM.here (codeAny_handlers_suite_as (HandSPX.lands_againZ fl fun h2 fl2 up2 => ?_)))
      have J2 : Inv X pins σ H ⟨h2, g, dr, t, o⟩ := J.landed nb fl2.1 (up.trans up2) os ag
      obtain ⟨oe2, vs2, he2, hz2, hd2⟩ := fl2.there
      have S2 := J2.suite he2 hd2 na nL nF
      refine store_ok (X := X.suite a ((a, oe2) :: (X.pn ++ pins))) (v := .ref a) S2 hN hi (.inl hln) rfl (fun s5 S5 => ?_) (.inr hln)
      refine wpAny_mono ((hsu a oe2 cls d (X.pn ++ pins) hz2 ⟨_, hd2⟩).run [] s5 _ H _ S5 (hyes a na)) (fun f s6 q6 => ?_) (fun _ _ z => z.elim)
      have gone : ∀ {σ6 : L2.St} {H6 : Hp} {Q : Shared → Prop}, Inv (X.suite a ((a, oe2) :: (X.pn ++ pins))) [] σ6 H6 s6 → (∀ s7, Inv X pins (σ6.set i none) H6 s7 → Q s7) →
          wpAny (model X.prog X.w) X.A (do bindName X.env n .none; unbindBehindTheSuite X.env n pos') (fun _ s7 => Q s7) X.xe s6 := fun S6 k => gone_ok (S6.unsuite J2.ok) hN hi hln k
      match f, q6 with
      | .next, ⟨_, _, S6, q⟩ => exact gone S6 fun s7 J7 => ⟨_, _, J7, q⟩
      | .brk, ⟨_, _, S6, q⟩ => exact gone S6 fun s7 J7 => ⟨_, _, J7, q⟩
      | .cont, ⟨_, _, S6, q⟩ => exact gone S6 fun s7 J7 => ⟨_, _, J7, q⟩
      | .ret u, ⟨_, _, _, S6, rv, q⟩ => exact gone S6 fun s7 J7 => ⟨_, _, _, J7, rv, q⟩
    · have LM := PySem.W.exm_one (M := model X.prog X.w) J0.kIn LT hb
      refine named (LM.here ?_)
      show wpAny _ X.A (handleBy (.ref a) X.env hds2) _ _ _
      exact ih fl up os ag hno
end
section
variable {X : Cx} {body : List Stmt} {h₀ : ExceptHandler} {hds : List ExceptHandler} {l : List Clause} {pos : Pos} {tb : WX → TS} {Wout : WX}
/-- try: body / except x as n: .. / except y as m: .. -/
theorem ps_try_each (hs : X.stack = X.env :: X.outer) (hf : X.env.frame = some X.env.locals) (hN : X.N.Nodup) (tk : Takes X Wout)
    (hb : ∀ (W : WX) (pn : List (Addr × Obj)) (xe : Value → Shared → Prop), Takes (X.tr pn xe) W → PassesOwn (model X.prog X.w) X.A X.env xe → PSs (X.tr pn xe) body (tb W))
    (hh : Each X (h₀ :: hds) l) : PS X (.Try body (h₀ :: hds) [] [] pos) (fun D σ H => tb (wEach X.K Wout D l) D σ H) := by
  refine ⟨fun pins s σ H D I h => ?_⟩
  have ok := I.ok
  have hfr : X.A.frames = some (X.env :: X.outer) := by rw [ok.frames, hs]
  have run := fun (xe : Value → Shared → Prop) (tk' : Takes (X.tr (X.pn ++ pins) xe) (wEach X.K Wout D l)) (po : PassesOwn (model X.prog X.w) X.A X.env xe) => (hb _ (X.pn ++ pins) xe tk' po).run [] s σ H D (I.toTry _) h
  refine wpAny_Try_except (wpAny_mono (run (fun e s₁ => wpAny (model X.prog X.w) X.A (noteFrame e X.env) (fun _ s₂ => wpAny (model X.prog X.w) X.A (setFlight e none) (fun _ s₃ => wpAny (model X.prog X.w) X.A (handleBy e X.env (h₀ :: hds)) (SP X pins D) X.xe s₃) X.xe s₂) X.xe s₁)
    (fun u s' air => ?_) PassesOwn.looking) (fun f s1 q => ?_) fun e s1 he => he)
  · obtain ⟨a, B, sI, pins', σ', H', cls, d, rfl, J', nb, up, sky, na, os, ag, w⟩ := air
    have sky' : Sky B (X.env :: X.outer) a (Zc cls d) X.env.locals s'.heap := by rw [← hs]; exact sky
    exact Sky.land Zc.steady hfr hf sky' fun h3 fl3 up3 => offered (s := { s' with heap := h3 }) hs hf hN tk nb (J'.ofTry ok) na hh fl3 (up.trans up3) os ag w
  · match f, q with
    | .next, ⟨σ', H', J', q⟩ => exact wpAny_execs_nil ⟨σ', H', J'.ofTry ok, q⟩
    | .brk, ⟨σ', H', J', q⟩ => exact ⟨σ', H', J'.ofTry ok, q⟩
    | .cont, ⟨σ', H', J', q⟩ => exact ⟨σ', H', J'.ofTry ok, q⟩
    | .ret u, ⟨v, σ', H', J', rv, q⟩ => exact ⟨v, σ', H', J'.ofTry ok, rv, q⟩
end
end Z
namespace Z
open PySem PySem.Spec PyProof.Rows L2
/-! ### repr of any value -/
def kD : Key → PyData
  | .inl i => .int i
  | .inr x => .str x
inductive Sh (K : PySem.W.Frag) (H : Hp) : V → PyData → Prop
  | of {v : V} {d : PyData} (h : Dp K H v d) (nd : d.hasDict = false) : Sh K H v d
  | emp {a : Addr} (h : H a = some (.dK [])) : Sh K H (.ref a) (.dict [])
  | one {a : Addr} {k : Key} {i : Int} (h : H a = some (.dK [(k, .int i)])) : Sh K H (.ref a) (.dict [(kD k, .int i)])
def rShow (K : PySem.W.Frag) : List V → Hp → VK → Prop := fun xs H Q => ∃ (v : V) (d : PyData), xs = [v] ∧ Sh K H v d ∧ d.showable = true ∧ d.depth ≤ 60 ∧ d.shown.length ≤ sizeLine ∧ Q (.str d.shown) H
section
variable {X : Cx}
theorem call_show (hgd : X.A.guards = some []) (hu : X.A.units + 64 < cLine) : CallR X (.builtin "repr") (rShow X.K) := by
  intro pins s σ H xs us Q I r h
  obtain ⟨v, d, ex, hd, sh, dp, hz, q⟩ := h
  subst ex
  obtain ⟨u, eu, rx⟩ := vals1 r
  subst eu
  have shown : ∀ {a : Addr} {as : List Addr}, Reads s.heap (.ref a) d as → (d.hasDict = true → sysModules ∉ as) → wpAny (model X.prog X.w) X.A (call (.builtin "repr") [.ref a]) (EP X pins σ Q) X.xe s := fun rd nm =>
    repr_of_reads' rd sh nm hgd (by omega) (fun _ _ e => e) (fun h' t tk hk => ⟨.str d.shown, H, I.kept (t' := tk) hk, ⟨t, rfl⟩, q⟩) hz
  have isDict : ∀ {a : Addr} {kvs : List (Key × V)}, H a = some (.dK kvs) → (a == sysModules) = false ∧ ∃ vs, KV kvs vs ∧ s.heap.DictOf (mixKind X.prog X.w) a vs := fun e => (dk_of I.hok e).2
  cases hd with
  | of h nd =>
    have hr : ∀ a, v = .ref a → ∃ as, Reads s.heap (.ref a) d as := fun a e => by
      subst e
      obtain ⟨as, r2⟩ := Dp.reads I d _ _ h rx
      cases rx
      exact ⟨as, r2⟩
    cases h with
    | non =>
      cases rx
      simp only [PyData.shown] at q
      exact PySem.P.repr_of_none ⟨.str _, H, I.tok _, ⟨_, rfl⟩, q⟩
    | bl b =>
      cases rx
      simp only [PyData.shown] at q
      exact PySem.P.repr_of_bool ⟨.str _, H, I.tok _, ⟨_, rfl⟩, q⟩
    | int i =>
      obtain ⟨t, rfl⟩ := rx
      simp only [PyData.shown] at q
      exact PySem.P.repr_of_int (by simpa [PyData.showable] using sh) ⟨.str _, H, I.tok _, ⟨_, rfl⟩, q⟩
    | str x =>
      obtain ⟨t, rfl⟩ := rx
      simp only [PyData.shown] at q hz
      exact PySem.P.repr_of_str ⟨.str _, H, I.tok _, ⟨_, rfl⟩, q⟩ hz
    | lst hs ha =>
      cases rx
      obtain ⟨as, r2⟩ := hr _ rfl
      exact shown r2 fun z => by rw [nd] at z; cases z
    | tup hs ha =>
      cases rx
      obtain ⟨as, r2⟩ := hr _ rfl
      exact shown r2 fun z => by rw [nd] at z; cases z
  | @emp a h =>
    cases rx
    obtain ⟨hne, vs, kv, o, es, ep, ho, hx, hdat, _, pr, _⟩ := isDict h
    cases kv
    have e0 : es.toList = [] := by
      cases he : es.toList with
      | nil => rfl
      | cons x l => rw [he] at pr; cases pr
    have rd : Reads s.heap (.ref a) (.dict []) (a :: [] ++ []) := Reads.dict ho hx.1 hdat (by rw [e0]; exact .nil) (by rw [e0]; exact .nil)
    exact shown rd fun _ hm => by
      simp at hm
      rw [hm] at hne
      simp at hne
  | @one a k i h =>
    cases rx
    obtain ⟨hne, vs, kv, o, es, ep, ho, hx, hdat, _, pr, _⟩ := isDict h
    cases kv with
    | cons h1 h2 =>
      cases h2
      obtain ⟨e1, rv⟩ := h1
      obtain ⟨t, rv⟩ := rv
      rename_i q' _
      obtain ⟨k', v'⟩ := q'
      dsimp only at e1 rv
      subst e1 rv
      generalize hl : es.toList = l at pr
      cases pr with
      | cons hk hv hr =>
        cases hr
        rename_i e
        have rk : Reads s.heap e.key (kD k) [] := by
          rcases keyIs_shape hk with ⟨j, u, rfl, e2⟩ | ⟨y, u, rfl, e2⟩
          · rw [e2]; exact .int j u
          · rw [e2]; exact .str y u
        have rv : Reads s.heap e.val (.int i) [] := by rw [hv]; exact .int i t
        have rd : Reads s.heap (.ref a) (.dict [(kD k, .int i)]) (a :: ([] ++ []) ++ ([] ++ [])) := Reads.dict ho hx.1 hdat (by rw [hl]; exact .cons rk .nil) (by rw [hl]; exact .cons rv .nil)
        exact shown rd fun _ hm => by
          simp at hm
          rw [hm] at hne
          simp at hne
end
/-! ### isinstance of the error that a suite holds -/
structure IsExc (K : PySem.W.Frag) (C : Addr) : Prop where
  ok : (PySem.W.clsIn K C).isSome = true
  xf : XfC K C
  ha : PySem.W.findIn K (.ref C) "__class__" = some (some (.builtin "object.__class__"))
  hn : PySem.W.specialIn K (.builtin "object.__class__") "__get__" = some (some (.builtin "getset_descriptor.__get__"))
  ht : PySem.W.takesIn K (.builtin "object.__class__") = some true
  hm : PySem.W.mroIn K C (.type "object") = some true
def rIsX (K : PySem.W.Frag) (D a : Addr) (cls : Value) (d : Option Addr) : List V → Hp → VK → Prop := fun xs H Q => ∃ (c : V) (cv : Value) (dd : Addr) (fs : List (Str × V)) (b : Bool), xs = [.ref a, c] ∧ (∀ u, RelV c u → u = cv) ∧ cls = .ref D ∧ d = some dd ∧ H dd = some (.xd fs) ∧ PySem.W.kitOne K (.ref D) cv = some b ∧ Q (.bl b) H
theorem call_isX {X : Cx} {a D : Addr} {cls : Value} {d : Option Addr} {oe : Obj} {pn : List (Addr × Obj)} (C : IsExc X.K D) (hz : Zc cls d oe) (hf : ∃ vs, oe.data = .fields vs) : CallR (X.suite a ((a, oe) :: pn)) (.builtin "isinstance") (rIsX X.K D a cls d) := by
  intro pins s σ H xs us Q I r h
  obtain ⟨c, cv, dd, fs, b, rfl, hcv, ec, ed, hx, e, q⟩ := h
  subst ec ed
  obtain ⟨hga, _⟩ := I.pin (a, oe) (List.mem_append_left _ List.mem_cons_self)
  obtain ⟨vs, hv⟩ := hf
  have ob : ObjOk X.prog X.w H s.heap dd (.xd fs) := I.hok dd _ hx
  obtain ⟨mA, hns, _⟩ := ob
  obtain ⟨od, ho, _⟩ := lookIn_ns hns
  have J : PySem.W.InstAt s.heap a oe D (some od) := ⟨hga, hz.1, by unfold PySem.W.notCls; rw [hv] <;> rfl, by rw [hz.2]; exact ho⟩
  match us, r with
  | [_, u], .cons rx (.cons rt .nil) =>
    cases rx
    obtain rfl := hcv _ rt
    exact PySem.W.kia_one (PySem.W.kitx_exc C.ok C.xf.ga C.xf.gg C.xf.exC C.ha C.hn C.ht C.hm) I.kIn J e (fun z => nomatch z) fun tk => ⟨.bl b, H, I.kept (t' := tk) fun _ _ z => z, rfl, q⟩
end Z
/-! sorted of a tuple of pairs of ints; sorted of a dict whose keys are texts. -/
namespace Z
open PySem PySem.Spec L2 PyProof.Rows
theorem refs_vals {α : Type} (f : α → Addr) : ∀ {L : List α} {its : List Value}, Vals (L.map fun z => V.ref (f z)) its → its = L.map fun z => Value.ref (f z)
  | [], _, .nil => rfl
  | z :: L, its, r => by
    cases r with
    | cons h t =>
      rename_i u us
      obtain rfl : u = Value.ref (f z) := h
      rw [refs_vals f t, List.map_cons]
/-- the pair of ints at a value's address -/
def kOf (h : Heap) : Value → Int × Int
  | .ref a => match h.get? a with
    | some o => match o.data with
      | .seq xs _ => match xs.toList with
        | [.int x _, .int y _] => (x, y)
        | _ => (0, 0)
      | _ => (0, 0)
    | none => (0, 0)
  | _ => (0, 0)
theorem kOf_of {h : Heap} {v : Value} {x y : Int} (p : Srt.IsPair h v x y) : kOf h v = (x, y) := by
  obtain ⟨a, o, t, u, n, rfl, ho, hc, hd⟩ := p
  show (match h.get? a with
    | some o => match o.data with
      | .seq xs _ => match xs.toList with
        | [.int x _, .int y _] => (x, y)
        | _ => (0, 0)
      | _ => (0, 0)
    | none => (0, 0)) = (x, y)
  rw [ho]
  show (match o.data with
      | .seq xs _ => match xs.toList with
        | [.int x _, .int y _] => (x, y)
        | _ => (0, 0)
      | _ => (0, 0)) = (x, y)
  rw [hd]
section
variable {X : Cx}
def rSortedTP (K : PySem.W.Frag) : List V → Hp → VK → Prop := fun vs H Q => ∃ (a : Addr) (L : List (Addr × (Int × Int))), vs = [V.ref a] ∧ SqT K H a (L.map fun z => V.ref z.1) ∧ (∀ z ∈ L, SqT K H z.1 [.int z.2.1, .int z.2.2]) ∧
  ∀ (L' : List (Addr × (Int × Int))) (p : Addr), L'.Perm L → L'.Pairwise (fun z w => SrtO.lexB w.2 z.2 = false) → H p = none → Q (.ref p) (upd H p (.lst (L'.map fun z => V.ref z.1)))
theorem cr_sortedTP : CallR X (.builtin "sorted") (rSortedTP X.K) := by
  intro pins s σ H vs us Q I r q
  obtain ⟨a, L, rfl, hs, hp, q⟩ := q
  obtain ⟨its, rv, ⟨o, ho, hc, n, hd⟩, hz⟩ := I.tuple hs
  obtain rfl := refs_vals _ rv
  rw [Vals.ref1 r]
  have hP : ∀ z ∈ L, Srt.IsPair s.heap (.ref z.1) z.2.1 z.2.2 := fun z m => by
    obtain ⟨js, rj, ⟨oz, h1, h2, n2, h3⟩, _⟩ := I.tuple (hp z m)
    obtain ⟨u1, u2, rfl, ri, rk⟩ := vals2 rj
    obtain ⟨t1, rfl⟩ := ri
    obtain ⟨t2, rfl⟩ := rk
    exact ⟨_, oz, t1, t2, n2, rfl, h1, h2, h3⟩
  have hk : ∀ z ∈ L, kOf s.heap (.ref z.1) = z.2 := fun z m => kOf_of (hP z m)
  have hz' : (L.map fun z => Value.ref z.1).length ≤ sizeLine := by
    rw [List.length_map] at hz ⊢
    exact hz
  refine
    Calls.call_function_entry PyProof.Rows.kind_sorted
      PyProof.Rows.plain_sorted PyProof.Rows.entry_sorted
      (PyProof.Rows.args_sorted1 _) ?_
  unfold Builtin.«sorted»
  refine wpAny_bind (m := checkCount "sorted" 1 1 _)
    (wpAny_pure ?_)
  refine wpAny_bind (wpAny_collect_seq a (.inr rfl) ho hc hd (fun h' kp => ?_) (by rw [List.size_toArray]; exact hz'))
  refine wpAny_bind (wpAny_newList ?_ hz')
  have oL : (h'.push (seqObj "list" (L.map fun z => Value.ref z.1).toArray 0)).get? h'.objs.size = some (seqObj "list" (L.map fun z => Value.ref z.1).toArray 0) := Heap.get?_push_size _ rfl
  have kp2 : ∀ b u, s.heap.get? b = some u → (h'.push (seqObj "list" (L.map fun z => Value.ref z.1).toArray 0)).get? b = some u := fun b u e => Heap.get?_push_of_some _ (kp b u e)
  have I1 : L2.Inv X pins σ H { s with heap := h', toks := s.toks } := I.kept kp
  show wpAny _ _ _ _ _ { s with heap := h'.push (seqObj "list" (L.map fun z => Value.ref z.1).toArray 0) }
  have pairs : ∀ v ∈ L.map (fun z => Value.ref z.1), Srt.IsPair (h'.push (seqObj "list" (L.map fun z => Value.ref z.1).toArray 0)) v (kOf s.heap v).1 (kOf s.heap v).2 := fun v m => by
    obtain ⟨z, mz, rfl⟩ := List.mem_map.mp m
    rw [hk z mz]
    exact (hP z mz).keeps fun b u e _ => kp2 b u e
  refine wpAny_bind (wpAny_holding (wpAny_call_entry PyProof.Rows.slot_list_sort ⟨_, oL, rfl⟩
    PyProof.Rows.entry_list_sort
    (SrtO.list_sort_ord (SrtO.swo_lex (kOf s.heap)) oL hz' (fun h2 => SrtO.pairs_sortableO (by omega) pairs fun u e c => ?_) fun out g1 g2 => ⟨_, rfl, ?_⟩)
    (PyProof.Rows.args_list_sort _)))
  · rw [oL] at e
    cases e
    exact absurd (Value.type.inj c) (by decide)
  obtain ⟨L', g3, g4⟩ := perm_lift (fun z : Addr × (Int × Int) => Value.ref z.1) g2.perm L rfl
  subst g4
  obtain ⟨ep, eo⟩ := PyProof.Rows.sortedHeap_at (vs := L.map fun z => Value.ref z.1) (out := (L'.map fun z => Value.ref z.1).toArray) oL
  have hl' : (L'.map fun z => V.ref z.1).length ≤ sizeLine := by
    rw [List.length_map, g3.length_eq]
    rw [List.length_map] at hz'
    exact hz'
  have rl : Vals (L'.map fun z => V.ref z.1) (L'.map fun z => Value.ref z.1) := vals_maps (fun z : Addr × (Int × Int) => V.ref z.1) (fun z => Value.ref z.1) L' fun z _ => rfl
  refine wpAny_pure ⟨_, rfl, .ref h'.objs.size, upd H h'.objs.size (.lst (L'.map fun z => V.ref z.1)), I1.laid (t' := s.toks) (fun b u e => ?_) (Nat.le_refl _)
    (show ObjOk X.prog X.w _ _ _ (.lst (L'.map fun z => V.ref z.1)) from ⟨hl', _, ep, rl, eo⟩), rfl, q L' _ g3 ?_ (I1.hok.fresh (Nat.le_refl _))⟩
  · have hb : b < h'.objs.size := Heap.lt_size e
    rw [PyProof.Rows.sortedHeap_old (Nat.ne_of_lt hb) (by
      rw [size_push']
      exact Nat.lt_succ_of_lt hb)]
    exact Heap.get?_push_of_some _ e
  · have g5 := List.pairwise_map.mp g1
    refine g5.imp_of_mem fun {z w} mz mw e => ?_
    dsimp only at e
    rw [hk w (g3.mem_iff.mp mw), hk z (g3.mem_iff.mp mz)] at e
    exact e
/-- sorted(d), d with fewer than 64 keys, all texts -/
def rSortedDS : List V → Hp → VK → Prop := fun xs H Q => ∃ (a : Addr) (kvs : List (Key × V)) (ks : List Str), xs = [.ref a] ∧ Rd H a (.dK kvs) ∧ kvs.map (·.1) = ks.map Sum.inr ∧ ks.length < 64 ∧
  ∀ (ys : List Str) (p : Addr), ys.Perm ks → sortedS ys = true → H p = none → Q (.ref p) (upd H p (.lst (ys.map V.str)))
theorem cr_sortedDS (hcalm : X.calm = true) : CallR X (.builtin "sorted") rSortedDS := by
  intro pins s σ H xs us Q I r q
  obtain ⟨a, kvs, ks, rfl, hd, hks, h64, q⟩ := q
  rw [Vals.ref1 r]
  obtain ⟨z, lo, vs, rel, dd⟩ := dk_rd I.hok hd
  obtain ⟨ep, hat⟩ := dd.dictAt
  have keys : vs.map (·.1) = ks.map Sum.inr := by rw [← hks]; exact rel.keys.symm
  have len : vs.length = ks.length := by simpa using congrArg List.length keys
  refine
    Calls.call_function_entry PyProof.Rows.kind_sorted
      PyProof.Rows.plain_sorted PyProof.Rows.entry_sorted
      (PyProof.Rows.args_sorted1 _) ?_
  unfold Builtin.«sorted»
  refine wpAny_bind (m := checkCount "sorted" 1 1 _)
    (wpAny_pure ?_)
  refine wpAny_bind (PySem.W.kdu_collect (A := X.A.in1)
    (PySem.W.kdl_dict (knd := mixKind X.prog X.w) (kvs := vs) (ep := ep) lo) (I.ok.hd hcalm) hat
    (by rw [len, sizeLine_eq]; omega) fun h' tk acc hk hacc => ?_)
  have al : acc.toList.length = ks.length := by rw [Array.length_toList, hacc.1, len]
  have rv : Vals (ks.map V.str) acc.toList := by
    have each : ∀ (j : Nat) (v : Value), acc.toList[j]? = some v → ∃ (x : Str) (t : Tok), ks[j]? = some x ∧ v = .str x t := fun j v e => by
      obtain ⟨k, x, e1, e2⟩ := hacc.2 j v (by rw [← Array.getElem?_toList]; exact e)
      have e3 : (ks.map (Sum.inr : Str → Key))[j]? = some k := by rw [← keys, List.getElem?_map, e1]; rfl
      rw [List.getElem?_map] at e3
      cases e4 : ks[j]? with
      | none => rw [e4] at e3; cases e3
      | some y =>
        rw [e4] at e3
        obtain rfl : Sum.inr y = k := Option.some.inj e3
        rcases keyIs_shape (show keyIs (Sum.inr y) v = true from e2) with ⟨i, t, ek, ev⟩ | ⟨w, t, ek, ev⟩
        · cases ek
        · cases ek
          exact ⟨y, t, rfl, ev⟩
    revert each al
    generalize acc.toList = vals
    intro al each
    clear hks h64 q keys len hacc
    induction ks generalizing vals with
    | nil =>
      cases vals with
      | nil => exact .nil
      | cons _ _ => cases al
    | cons k ks ih =>
      cases vals with
      | nil => cases al
      | cons v vals =>
        obtain ⟨x, t, e1, rfl⟩ := each 0 v rfl
        obtain rfl : k = x := Option.some.inj e1
        exact .cons ⟨t, rfl⟩ (ih vals (Nat.succ.inj al) fun j u e => each (j + 1) u e)
  have I1 : L2.Inv X pins σ H { s with heap := h', toks := tk } := I.kept hk
  have zl : (ks.map V.str).length ≤ sizeLine := by
    rw [List.length_map, sizeLine_eq]
    omega
  refine wpAny_bind (wpAny_newList ?_ (by rw [al, sizeLine_eq]; omega))
  have oL : (h'.push (seqObj "list" acc.toList.toArray 0)).get? h'.objs.size = some (seqObj "list" acc.toList.toArray 0) := Heap.get?_push_size _ rfl
  have hS := rv.strs
  show wpAny _ _ _ _ _ { s with heap := h'.push (seqObj "list" acc.toList.toArray 0), toks := tk }
  refine wpAny_bind (wpAny_holding (wpAny_call_entry slot_list_sort ⟨_, oL, rfl⟩ entry_list_sort
    (list_sort_treeK strKind_oneLt oL hS.keysOf (fun _ _ _ e => keyKind_strs (by
      rw [← e]
      exact hS)) (by rw [al]; exact h64) fun st' g1 g2 => ⟨_, rfl, ?_⟩)
    (args_list_sort _)))
  obtain ⟨ys, g3, g4, g5⟩ := sorted_out_str hS g1 g2
  obtain ⟨ep2, eo⟩ := sortedHeap_at (vs := acc.toList) (out := (arrOf st').map (·.2)) oL
  have yl : (ys.map V.str).length ≤ sizeLine := by
    rw [List.length_map, g4.length_eq, sizeLine_eq]
    omega
  refine wpAny_pure ⟨_, rfl, .ref h'.objs.size, upd H h'.objs.size (.lst (ys.map V.str)), I1.laid (t' := tk) (fun b u e => ?_) (Nat.le_refl _)
    (show ObjOk X.prog X.w _ _ _ (.lst (ys.map V.str)) from ⟨yl, ((arrOf st').map (·.2)).toList, ep2, vals_of_strs g3, by rw [Array.toArray_toList]; exact eo⟩), rfl, q ys _ g4 g5 (I1.hok.fresh (Nat.le_refl _))⟩
  have hb : b < h'.objs.size := Heap.lt_size e
  rw [sortedHeap_old (Nat.ne_of_lt hb) (by
    rw [size_push']
    exact Nat.lt_succ_of_lt hb)]
  exact Heap.get?_push_of_some _ e
end
end Z
/-! set(l) of a list of ints. -/
namespace Z
open PySem PySem.Spec L2 PyProof.Rows
abbrev freshSet (w : World) : Obj := Obj.mk (.type "set") none (.set #[] 0 (.fresh 0 0 (!w.params.followText "set-order"))) #[]
section
variable {P : Program} {w : World} {A : Around} {E : Value → Shared → Prop} {s : Shared}
/-- what set(l) leaves at the new set's address -/
def SetMade (w : World) (s : Shared) (ns : List Int) (Q : Value → Shared → Prop) : Prop := ∀ (h' : Heap) (tk c : Nat),
  SetR w h' s.heap.objs.size (fun j => decide (j ∈ ns)) c → c ≤ ns.length →
  (∀ b o, s.heap.get? b = some o → h'.get? b = some o) → Q (.ref s.heap.objs.size) { s with heap := h', toks := tk }
theorem set_of_list {l : Addr} {items : Array Value} (ns : List Int) {Q : Value → Shared → Prop} (hh : A.handled = none)
    (hl : s.heap.IsList l items) (hit : IntsAre items.toList ns) (hb : ns.length + 1 < scanBound) (h : SetMade w s ns Q) :
    wpAny (model P w) A (call (.type "set") [.ref l]) Q E s := by
  have size : items.size = ns.length := by
    rw [← Array.length_toList]
    exact IntsAre.length hit
  obtain ⟨cc, tt, hmro⟩ := F.called_set.mro
  have m1 := F.called_set.made
  have m2 := F.called_set.sub
  refine wpAny_call (codeAny_of_tree ?_)
  show wpAny _ _ (callAny (.type "set") _) _ _ _
  refine wpAny_pure ⟨Code.quiet_builtin _ (by decide +kernel),
    codeAny_builtin F.entry_type_call ?_⟩
  rw [Around.under_plain (weight_type_call_type "set" [.ref l] [])
    rfl]
  have m3 := F.called_set.notType
  have m4 := F.called_set.canCreate
  have m5 := F.typeCall_set_1 (.ref l)
  repeat
    (any_goals (first | assumption | wp_step))
  refine codeAny_mono (code_set_led1 (.ref l) (E := E)
    (Q₁ := fun obj s₁ => obj = .ref s.heap.objs.size ∧ s₁ = { s with heap := s.heap.push (freshSet w) }) ⟨rfl, rfl⟩)
    fun r s₁ hr => ?_
  cases r with
  | error e => exact hr
  | ok fl =>
    cases fl with
    | ret obj =>
      obtain ⟨rfl, rfl⟩ := hr
      have oS : (s.heap.push (freshSet w)).get? s.heap.objs.size = some (freshSet w) := Heap.get?_push_size _ rfl
      have tS : Shared.TypeIs { s with heap := s.heap.push (freshSet w) } (.ref s.heap.objs.size) "set" := ⟨_, oS, rfl⟩
      have i1 := F.called_set.init.lookup
      have i2 := F.called_set.init.bind (.ref s.heap.objs.size)
      repeat
        (any_goals (first | assumption | wp_step))
      refine codeAny_mono (codeAny_call_builtin
        (R := wants (fun r s₂ => r = .none ∧ ∃ h' tk c, s₂ = { s with heap := h', toks := tk } ∧
          SetR w h' s.heap.objs.size (fun j => decide (j ∈ ns)) c ∧ c ≤ ns.length ∧ ∀ b o, s.heap.get? b = some o → h'.get? b = some o) E)
        F.called_set.init.plain F.entry_set_init (check_set_init_1 tS ?_)) fun r₂ s₂ hr₂ => ?_
      · have lS : l < s.heap.objs.size := by
          obtain ⟨_, z, _⟩ := hl
          exact Heap.lt_size z
        obtain ⟨⟨ocls, odict, odata, oslots⟩, g1, g2, n2, g3⟩ := hl
        dsimp only at g2 g3
        subst g2
        subst g3
        have g4 : (s.heap.push (freshSet w)).get? l = some { cls := .type "list", dict := odict, data := .seq items n2, slots := oslots } := Heap.get?_push_of_some _ g1
        have b1 := F.sub_list_set
        have b2 := F.sub_list_frozenset
        have b3 : (Value.type "list" == Value.type "dict") = false := by decide
        have g5 : (s.heap.push (freshSet w)).IsList l items := ⟨_, g4, rfl, n2, rfl⟩
        unfold Builtin.«set.__init__» noKeywords Builtin.Frozenset.updateFrom
        generalize keep : pyIter = PI
        wp_walk
        subst keep
        refine wpAny_pyIter_list g5 ?_
        refine wpAny_bind (wpAny_runValue ?_)
        have h3 : A.in1.in1.in1.handled = none := by simp [hh]
        have e1 : (s.heap.push (freshSet w)).objs.size = s.heap.objs.size + 1 := Heap.size_push ..
        have ne1 : l ≠ (s.heap.push (freshSet w)).objs.size := by
          rw [e1]
          exact Nat.ne_of_lt (Nat.lt_succ_of_lt lS)
        have nf : s.heap.objs.size ∉ [(s.heap.push (freshSet w)).objs.size, l] := by
          rw [e1]
          simp only [List.mem_cons, List.not_mem_nil, or_false, not_or]
          exact ⟨Nat.ne_of_lt (Nat.lt_succ_self _), Nat.ne_of_gt lS⟩
        have each : ∀ (i : Nat) (v : Value), items[i]? = some v → ∃ k t, ns[i]? = some k ∧ v = .int k t := fun i v hv => by
          have hi : i < ns.length := by
            rw [← size]
            exact (Array.getElem?_eq_some_iff.mp hv).1
          obtain ⟨t, e⟩ := IntsAre.int_at hit i v (by rw [Array.getElem?_toList]; exact hv)
          refine ⟨ns[i], t, List.getElem?_eq_getElem hi, ?_⟩
          rw [e, List.getD_eq_getElem?_getD, List.getElem?_eq_getElem hi] <;> rfl
        refine set_update_ints ((Walks.list h3 _ l ne1 items).toS) s.heap.objs.size nf ns size hb each (items.size - 0) 0 _ (by omega) (Nat.zero_le _)
          ⟨⟨_, Heap.get?_push_size _ rfl, rfl, rfl⟩, g5.push _⟩ ?start ?done
        case start =>
          exact ⟨0, Nat.le_refl 0, setR_new_at (Heap.get?_push_of_some _ oS)⟩
        case done =>
          intro s' c' hm hc' hS'
          obtain ⟨h', gg, dd, tk', os'⟩ := s'
          obtain rfl : gg = s.gens := hm.gens
          obtain rfl : dd = s.drawn := hm.drawn
          obtain rfl : os' = s.os := hm.os
          show wpAny _ _ _ _ _ _
          refine wpAny_pure ?_
          show wpAny _ _ (ret Value.none) _ _ _
          refine wpAny_pure ⟨rfl, h', tk', c', rfl, hS', by rw [← size]; exact hc', fun b o e => ?_⟩
          have lt : b < s.heap.objs.size := Heap.lt_size e
          refine hm.heap b o ?_ (Heap.get?_push_of_some _ (Heap.get?_push_of_some _ e))
          rw [e1]
          simp only [List.mem_cons, List.not_mem_nil, or_false, not_or]
          exact ⟨Nat.ne_of_lt lt, Nat.ne_of_lt (Nat.lt_succ_of_lt lt)⟩
      · cases r₂ with
        | error e => exact hr₂
        | ok fl₂ =>
          cases fl₂ with
          | ret r =>
            obtain ⟨rfl, h', tk, c', rfl, hS', hc', hk'⟩ := hr₂
            repeat
              (any_goals (first | assumption | wp_step))
            exact h _ _ _ hS' hc' hk'
          | _ => exact hr₂.elim
    | _ => exact hr.elim
end
/-- set(l), l a list of fewer than 64 ints -/
def rSetL (K : PySem.W.Frag) (w : World) : List V → Hp → VK → Prop := fun xs H Q => ∃ (a : Addr) (ns : List Int), xs = [.ref a] ∧ SqL K H a (ns.map V.int) ∧ ns.length < 64 ∧
  ∀ p c, c ≤ ns.length → H p = none → Q (.ref p) (upd H p (SetO w p (fun j => decide (j ∈ ns)) c))
theorem cr_setL {X : Cx} (hc : X.calm = true) : CallR X (.type "set") (rSetL X.K X.w) := by
  intro pins s σ H xs us Q I r q
  obtain ⟨a, ns, rfl, hs, h64, q⟩ := q
  obtain ⟨its, rv, hl, hz⟩ := I.list hs
  rw [Vals.ref1 r]
  refine set_of_list ns (I.ok.hd hc) hl.isList (by simpa using rv.ints) (Nat.lt_trans (Nat.succ_lt_succ h64) (by decide)) fun h' tk c g1 g2 g3 => ?_
  have I1 : L2.Inv X pins σ (upd H s.heap.objs.size (SetO X.w s.heap.objs.size (fun j => decide (j ∈ ns)) c)) { s with heap := h', toks := tk } :=
    I.laid (t' := tk) g3 (Nat.le_refl _) (setO_new g1)
  exact ⟨.ref s.heap.objs.size, _, I1, rfl, q _ c g2 (I.hok.fresh (Nat.le_refl _))⟩
end Z
/-! The law's end for a law that makes lambdas and is called while no repr runs. -/
namespace Z
open PySem PySem.Spec PyProof.Rows L2 LamX
/-- a table of code objects, empty -/
abbrev noTab : Obj := { cls := .none, data := .fields #[] }
abbrev lstO (vs : List Value) : Obj := { cls := .type "list", data := .seq vs.toArray }
/-- what may be tracked at the start: the script, the tables -/
def OnlyT (ts : List Addr) (H : Hp) : Prop := ∀ b, H b = none ∨ b ∈ ts ∨ ∃ o xs, H b = some (.frz o (.lst xs))
theorem law_callGT {P : Program} {w : World} {K : PySem.W.Frag} {mg mb : Str → Option Value} {k : Nat} {fa a : Addr} {cs : List (Addr × Addr)} {fd : FuncData} {x : Str} {sp : Sp} {s₁ : Shared} {vs : List Value} {ns : List Int}
    (KX : K.In s₁.heap) (hns : s₁.heap.Ns mainGlobals mg) (hb : s₁.heap.Ns builtinsNs mb) (hbb : ∀ x : Str, x ≠ "__name__" → mb x = bootBuiltins x) (hlim : s₁.heap.NoLimit) (hg : s₁.gens = #[])
    (hT : ∀ p ∈ cs, s₁.heap.get? p.2 = some noTab) (nT : ∀ p ∈ cs, K.lookup p.2 = none)
    (hC : ∀ p ∈ cs, PySem.W.CodeHd s₁.heap p.1 p.2)
    (hbm : ∃ (bm : Addr) (ob : Obj), mg "__builtins__" = some (.ref bm) ∧ bm ≠ builtinsNs ∧
      s₁.heap.get? bm = some ob ∧ ob.cls = .type "module" ∧ ob.dict = some builtinsNs ∧ ob.data = .plain)
    (ha : s₁.heap.get? a = some (lstO vs)) (hi : IntsAre vs ns) (hl : ns.length ≤ sizeLine) (hr : Room k callerA)
    (F : ∀ base : Heap, K.In base → base.Ns mainGlobals mg → (∀ p ∈ cs, TabB base mg p.1 p.2) → FnG P w K mg base k fa fd [x] sp)
    (hbind : ∀ (s : Shared) (u : Value), BindsTo s fd ⟨[u], []⟩ [(x, u)])
    (hsp : ∀ H : Hp, (∀ p ∈ cs, H p.2 = some (.tbl #[])) → SqL K H a (ns.map V.int) → sp [.ref a] H (fun v _ => v = .bl true) fun _ _ _ => False) :
    codeAny (model P w) callerA (.call (.ref fa) ⟨[.ref a], []⟩)
      (fun r s' => r = .ok (.ret (.bool true)) ∧ OldK s₁.heap s'.heap ∧ s'.os = s₁.os ∧ AllBare s'.gens) s₁ := by
  have rv := vals_ints hi
  have lenV := hi.length
  obtain ⟨ts, hts⟩ : ∃ ts, ts = cs.map (·.2) := ⟨_, rfl⟩
  have tab : ∀ b ∈ ts, ∃ p ∈ cs, p.2 = b := fun b m => by
    rw [hts] at m
    obtain ⟨p, hp, e⟩ := List.mem_map.mp m
    exact ⟨p, hp, e⟩
  have tabO : ∀ b ∈ ts, s₁.heap.get? b = some noTab := fun b m => by
    obtain ⟨p, hp, rfl⟩ := tab b m
    exact hT p hp
  have inT : ∀ p ∈ cs, p.2 ∈ ts := fun p hp => by
    rw [hts]
    exact List.mem_map_of_mem hp
  have aT : a ∉ ts := fun z => by
    have q := tabO a z
    rw [ha] at q
    exact nomatch (show Data.seq vs.toArray _ = Data.fields #[] from congrArg Obj.data (Option.some.inj q))
  suffices core : ∀ H : Hp, (∀ p ∈ cs, H p.2 = some (.tbl #[])) → OnlyT ts H → SqL K H a (ns.map V.int) → HOk P w H s₁.heap →
      (∀ b, H b ≠ none → b = a ∨ b ∈ ts) → (H a ≠ none → K.lookup a = none) →
      codeAny (model P w) callerA (.call (.ref fa) ⟨[.ref a], []⟩)
        (fun r s' => r = .ok (.ret (.bool true)) ∧ OldK s₁.heap s'.heap ∧ s'.os = s₁.os ∧ AllBare s'.gens) s₁ by
    have tbls : Hp := fun b => if b ∈ ts then some (.tbl #[]) else none
    cases hk : K.lookup a with
    | some o =>
      have e := KX a o hk
      rw [ha] at e
      cases e
      refine core (fun b => if b ∈ ts then some (.tbl #[]) else none) (fun p hp => if_pos (inT p hp)) (fun b => ?_) (.inr ⟨_, vs.toArray, _, hk, rfl, rfl, rfl, ?_, by simpa using rv⟩) (fun b u z => ?_) (fun b z => ?_) (fun z => absurd (if_neg aT) z)
      · by_cases m : b ∈ ts
        · exact .inr (.inl m)
        · exact .inl (if_neg m)
      · rw [List.size_toArray, lenV]
        exact hl
      · by_cases m : b ∈ ts
        · cases (if_pos m).symm.trans z
          exact tabO b m
        · cases (if_neg m).symm.trans z
      · by_cases m : b ∈ ts
        · exact .inr m
        · exact absurd (if_neg m) z
    | none =>
      let sc : HO := .frz (lstO vs) (.lst (ns.map V.int))
      refine core (fun b => if b = a then some sc else if b ∈ ts then some (.tbl #[]) else none) (fun p hp => ?_) (fun b => ?_) (.inl (.inr ⟨lstO vs, if_pos rfl⟩)) (fun b u z => ?_) (fun b z => ?_) fun _ => hk
      · exact (if_neg (show ¬ p.2 = a from fun z => aT (z ▸ inT p hp))).trans (if_pos (inT p hp))
      · by_cases e : b = a
        · exact .inr (.inr ⟨_, _, if_pos e⟩)
        · by_cases m : b ∈ ts
          · exact .inr (.inl m)
          · exact .inl ((if_neg e).trans (if_neg m))
      · by_cases e : b = a
        · subst e
          cases (show some sc = some u from (if_pos rfl).symm.trans z)
          exact ⟨ha, by rw [List.length_map]; exact hl, vs, _, rv, ha⟩
        · have z1 := (if_neg e).symm.trans z
          by_cases m : b ∈ ts
          · cases (if_pos m).symm.trans z1
            exact tabO b m
          · cases (if_neg m).symm.trans z1
      · by_cases e : b = a
        · exact .inl e
        · by_cases m : b ∈ ts
          · exact .inr m
          · exact absurd ((if_neg e).trans (if_neg m)) z
  intro H hH hO hS hok hA hK
  have free : ∀ {b : Addr} {o : Obj}, s₁.heap.get? b = some o → (∀ xs n, o.data ≠ .seq xs n) → o.data ≠ .fields #[] → H b = none := fun {b o} e h1 h2 => by
    by_cases z : H b = none
    · exact z
    · rcases hA b z with rfl | m
      · rw [ha] at e
        cases e
        exact (h1 _ _ rfl).elim
      · rw [tabO b m] at e
        cases e
        exact (h2 rfl).elim
  have freeD : ∀ {b : Addr} {o : Obj} {es : Array DictEntry} {ep : Nat}, s₁.heap.get? b = some o → o.data = .dict es ep → H b = none := fun e d =>
    free e (fun xs n z => by rw [d] at z; cases z) (fun z => by rw [d] at z; cases z)
  have nsK : ∀ {b : Addr} {m : Str → Option Value}, s₁.heap.Ns b m → (hidT s₁.heap H).Ns b m := fun n => by
    obtain ⟨o, es, ep, e, d, r⟩ := n
    exact ⟨o, es, ep, hidT_get e (freeD e d), d, r⟩
  have hKb : K.In (hidT s₁.heap H) := fun b o e => hidT_get (KX b o e) (by
    by_cases z : H b = none
    · exact z
    · rcases hA b z with rfl | m
      · rw [hK z] at e
        cases e
      · obtain ⟨p, hp, rfl⟩ := tab b m
        rw [nT p hp] at e
        cases e)
  have hM : Mod K mg (hidT s₁.heap H) := ⟨hKb, nsK hns, ⟨mb, nsK hb, hbb⟩, let ⟨mc, h1, h2⟩ := hlim; ⟨mc, nsK h1, h2⟩⟩
  have TB : ∀ p ∈ cs, TabB (hidT s₁.heap H) mg p.1 p.2 := fun p hp => by
    have isT := hT p hp
    refine ⟨?_, ?_, fun z => ?_⟩
    · obtain ⟨o, us, file, tf, flags, tg, inF, text, tt, e1, r1, r2, r3, rest⟩ := hC p hp
      refine ⟨o, us, file, tf, flags, tg, inF, text, tt, hidT_get e1 (free e1 (fun xs n z => ?_) fun z => ?_), r1, r2, r3, rest⟩
      · rw [r2] at z
        cases z
      · rw [r2] at z
        cases z
        simp at r3
    · obtain ⟨bm, ob, b1, b2, b3, b4, b5, b6⟩ := hbm
      refine ⟨bm, ob, b1, b2, fun q => ?_, fun q => ?_, hidT_get b3 (free b3 (fun xs n z => by rw [b6] at z; cases z) (fun z => by rw [b6] at z; cases z)), b4, b5, b6⟩
      · obtain ⟨o, es, ep, e, hd, _⟩ := hns
        rw [q, e] at b3
        cases b3
        rw [hd] at b6
        cases b6
      · rw [q, isT] at b3
        cases b3
        cases b6
    · obtain ⟨o, es, ep, e, hd, _⟩ := hns
      rw [z, isT] at e
      cases e
      cases hd
  have nil0 : ∀ b : Addr, b ∉ ([] : List Addr) := fun b => by simp
  have e0 : Env0 P w K mg (hidT s₁.heap H) callerA [] s₁ H := ⟨rfl, hM, fun b o e => of_hidT e, Nat.le_of_eq (hidT_size _ _), trivial, fun b hb => absurd hb (nil0 b), hok, .of_eq hg⟩
  refine codeAny_mono ((F _ hKb (nsK hns) TB).run callerA [] s₁ H ⟨[.ref a], []⟩ [.ref a] [.ref a] _ _ hr rfl e0 (hbind s₁ (.ref a)) (.cons rfl .nil) (hsp H hH hS)) fun r s' h => ?_
  match r, h with
  | .error e, h => exact False.elim h
  | .ok .next, h => exact False.elim h
  | .ok .brk, h => exact False.elim h
  | .ok .cont, h => exact False.elim h
  | .ok (.ret u), h =>
    obtain ⟨v, H', os, bare, un, hok', r', q⟩ := h
    cases (show v = .bl true from q)
    cases (show u = Value.bool true from r')
    have keep : ∀ b o, b ∉ ts → s₁.heap.get? b = some o → s'.heap.get? b = some o := fun b o m e => by
      by_cases z : H b = none
      · exact un.keep b o e z (nil0 b) (by simp)
      · rcases hO b with y | y | ⟨ob, xs, y⟩
        · exact absurd y z
        · exact absurd y m
        · obtain ⟨e1, _⟩ := hok b _ y
          obtain ⟨e2, _⟩ := hok' b _ (un.frzs b ob _ y)
          rw [e] at e1
          cases e1
          exact e2
    have grown : ∀ p ∈ cs, ∃ more : Array Value, s'.heap.get? p.2 = some { cls := .none, data := .fields more } := fun p hp => by
      obtain ⟨more, z⟩ := un.tbls p.2 #[] (hH p hp)
      exact ⟨_, hok' p.2 _ z⟩
    refine ⟨rfl, ⟨fun b o e => ?_, fun b o e => ?_⟩, os, bare⟩
    · by_cases m : b ∈ ts
      · obtain ⟨p, hp, rfl⟩ := tab b m
        obtain ⟨more, hm⟩ := grown p hp
        rw [hT p hp] at e
        cases e
        refine .inr (.inl ⟨((hC p hp).tab (hT p hp)).isCodeTable, rfl, #[], more, rfl, ?_⟩)
        rw [Array.empty_append]
        exact hm
      · exact .inl (keep b o m e)
    · by_cases m : b ∈ ts
      · obtain ⟨p, hp, rfl⟩ := tab b m
        obtain ⟨more, hm⟩ := grown p hp
        exact ⟨_, hm⟩
      · exact ⟨o, keep b o m e⟩
/-- what is known of the law's promise at the head's heap -/
def LawAtG (l : PySem.W.OpenLaw) (w : World) (K : PySem.W.Frag) (k n : Nat) (x : Str) (mg : Str → Option Value) (fa : Addr) (h : Heap) : Prop :=
  ∃ (fd : FuncData) (cs : List (Addr × Addr)) (sp : Sp), (∀ p ∈ cs, h.get? p.2 = some noTab) ∧
    (∀ p ∈ cs, K.lookup p.2 = none) ∧ (∀ p ∈ cs, PySem.W.CodeHd h p.1 p.2) ∧
    (∀ (s : Shared) (u : Value), BindsTo s fd ⟨[u], []⟩ [(x, u)]) ∧
    (∀ (H : Hp) (a : Addr) (ns : List Int), ns.length ≤ n → (∀ p ∈ cs, H p.2 = some (.tbl #[])) → SqL K H a (ns.map V.int) → sp [.ref a] H (fun v _ => v = .bl true) fun _ _ _ => False) ∧
    ∀ base : Heap, K.In base → base.Ns mainGlobals mg → (∀ p ∈ cs, TabB base mg p.1 p.2) → FnG l.prog w K mg base k fa fd [x] sp
theorem walkGT {l : PySem.W.OpenLaw} {n k : Nat} {q : Program} {loose : List Str} {XP : (Str → Option Value) → Heap → Prop} {YP : World → Heap → Prop} {d : DefRec} {K : Params → PySem.W.Frag} {x : Str}
    (hn : l.most = some n) (hn2 : n ≤ sizeLine) (hdf : d.params.defaults = []) (hr : Room k callerA)
    (hY : ∀ (w : World) (h : Heap), YP w h → (K w.params).In h)
    (F : ∀ (w : World) (mg : Str → Option Value) (fa : Addr) (h : Heap), YP w h → (K w.params).In h → h.Ns mainGlobals mg → mg d.name = some (.ref fa) → LawAtG l w (K w.params) k n x mg fa h) :
    PySem.W.WalkO q loose XP YP l.row.toRowW d [] (fun f vs => PySem.call f vs) := by
  refine Att.attach_call hn hdf fun w s₀ s₁ mg mb fa o pm cd doc a vs ns G Y ho hd hcd hmg hobj hints hlen hg => ?_
  have KX := hY w _ Y
  obtain ⟨fd, cs, sp, hT, nT, hC, hb, hsp, hF⟩ := F w mg fa _ Y KX G.T.g hmg
  exact law_callGT KX G.T.g G.T.b G.T.builtins G.T.nolimit hg hT nT hC G.T.bmain hobj hints (Nat.le_trans hlen hn2) hr hF hb fun H hH hS => hsp H a ns hlen hH hS
end Z
namespace K1
open PySem PySem.Spec L2 Z
def topS (i : Nat) : Stmt := PySem.Challenge.pw_arrowcells_k03_ways_ends_tails_rings.main.body.getD i (.Pass ⟨0, 0, 0, 0⟩)
abbrev s_is_number : Stmt := topS 11
abbrev N_is_number : List Str := ["value"]
theorem sc_is_number : FnScope N_is_number ["value"] (defScope s_is_number) := ⟨rfl, rfl, rfl, by decide +kernel, rfl, by decide +kernel, by decide +kernel⟩
abbrev s_is_whole : Stmt := topS 12
abbrev N_is_whole : List Str := ["value", "low", "high"]
theorem sc_is_whole : FnScope N_is_whole ["value", "low", "high"] (defScope s_is_whole) := ⟨rfl, rfl, rfl, by decide +kernel, rfl, by decide +kernel, by decide +kernel⟩
abbrev s_is_place : Stmt := topS 13
abbrev N_is_place : List Str := ["value"]
theorem sc_is_place : FnScope N_is_place ["value"] (defScope s_is_place) := ⟨rfl, rfl, rfl, by decide +kernel, rfl, by decide +kernel, by decide +kernel⟩
abbrev s_is_letter : Stmt := topS 14
abbrev N_is_letter : List Str := ["value"]
theorem sc_is_letter : FnScope N_is_letter ["value"] (defScope s_is_letter) := ⟨rfl, rfl, rfl, by decide +kernel, rfl, by decide +kernel, by decide +kernel⟩
abbrev s_is_tuple_of : Stmt := topS 15
abbrev N_is_tuple_of : List Str := ["value", "many"]
theorem sc_is_tuple_of : FnScope N_is_tuple_of ["value", "many"] (defScope s_is_tuple_of) := ⟨rfl, rfl, rfl, by decide +kernel, rfl, by decide +kernel, by decide +kernel⟩
abbrev s_init : Stmt := inClass (topS 19) 0
abbrev N_init : List Str := ["self", "names", "cells", "wrong"]
theorem sc_init : FnScope N_init ["self", "names", "cells"] (defScope s_init) := ⟨rfl, rfl, rfl, by decide +kernel, rfl, by decide +kernel, by decide +kernel⟩
abbrev s_eq : Stmt := inClass (topS 19) 1
abbrev N_eq : List Str := ["self", "other"]
theorem sc_eq : FnScope N_eq ["self", "other"] (defScope s_eq) := ⟨rfl, rfl, rfl, by decide +kernel, rfl, by decide +kernel, by decide +kernel⟩
abbrev s_take : Stmt := inClass (topS 19) 2
abbrev N_take : List Str := ["self", "names", "cells", "letter", "_", "place"]
theorem sc_take : FnScope N_take ["self", "names", "cells"] (defScope s_take) := ⟨rfl, rfl, rfl, by decide +kernel, rfl, by decide +kernel, by decide +kernel⟩
abbrev s_at : Stmt := inClass (topS 19) 3
abbrev N_at : List Str := ["self", "letter"]
theorem sc_at : FnScope N_at ["self", "letter"] (defScope s_at) := ⟨rfl, rfl, rfl, by decide +kernel, rfl, by decide +kernel, by decide +kernel⟩
abbrev s_are_store_names : Stmt := topS 20
abbrev N_are_store_names : List Str := ["value", "before", "pair"]
theorem sc_are_store_names : FnScope N_are_store_names ["value"] (defScope s_are_store_names) := ⟨rfl, rfl, rfl, by decide +kernel, rfl, by decide +kernel, by decide +kernel⟩
abbrev s_wrong_cell : Stmt := topS 21
abbrev N_wrong_cell : List Str := ["cells", "before", "index", "pair"]
theorem sc_wrong_cell : FnScope N_wrong_cell ["cells"] (defScope s_wrong_cell) := ⟨rfl, rfl, rfl, by decide +kernel, rfl, by decide +kernel, by decide +kernel⟩
abbrev s_store_text : Stmt := topS 22
abbrev N_store_text : List Str := ["names", "cells", "leads", "arrows", "letter", "place", "to"]
theorem sc_store_text : FnScope N_store_text ["names", "cells"] (defScope s_store_text) := ⟨rfl, rfl, rfl, by decide +kernel, rfl, by decide +kernel, by decide +kernel⟩
abbrev s_need_store : Stmt := topS 23
abbrev N_need_store : List Str := ["value"]
theorem sc_need_store : FnScope N_need_store ["value"] (defScope s_need_store) := ⟨rfl, rfl, rfl, by decide +kernel, rfl, by decide +kernel, by decide +kernel⟩
abbrev s_followed : Stmt := topS 25
abbrev N_followed : List Str := ["store", "letter", "cells", "on_way", "place"]
theorem sc_followed : FnScope N_followed ["store", "letter"] (defScope s_followed) := ⟨rfl, rfl, rfl, by decide +kernel, rfl, by decide +kernel, by decide +kernel⟩
abbrev s_way : Stmt := topS 26
abbrev N_way : List Str := ["store", "letter", "cells", "_"]
theorem sc_way : FnScope N_way ["store", "letter"] (defScope s_way) := ⟨rfl, rfl, rfl, by decide +kernel, rfl, by decide +kernel, by decide +kernel⟩
abbrev s_way_end : Stmt := topS 27
abbrev N_way_end : List Str := ["store", "letter", "_", "place"]
theorem sc_way_end : FnScope N_way_end ["store", "letter"] (defScope s_way_end) := ⟨rfl, rfl, rfl, by decide +kernel, rfl, by decide +kernel, by decide +kernel⟩
abbrev s_tail_and_ring : Stmt := topS 28
abbrev N_tail_and_ring : List Str := ["store", "letter", "cells", "place", "tail"]
theorem sc_tail_and_ring : FnScope N_tail_and_ring ["store", "letter"] (defScope s_tail_and_ring) := ⟨rfl, rfl, rfl, by decide +kernel, rfl, by decide +kernel, by decide +kernel⟩
abbrev s_reached_from : Stmt := topS 29
abbrev N_reached_from : List Str := ["names", "arrows", "cells", "_", "start", "place"]
theorem sc_reached_from : FnScope N_reached_from ["names", "arrows"] (defScope s_reached_from) := ⟨rfl, rfl, rfl, by decide +kernel, rfl, by decide +kernel, by decide +kernel⟩
abbrev s_reached_cells : Stmt := topS 30
abbrev N_reached_cells : List Str := ["store"]
theorem sc_reached_cells : FnScope N_reached_cells ["store"] (defScope s_reached_cells) := ⟨rfl, rfl, rfl, by decide +kernel, rfl, by decide +kernel, by decide +kernel⟩
abbrev s_reached : Stmt := topS 31
abbrev N_reached : List Str := ["store"]
theorem sc_reached : FnScope N_reached ["store"] (defScope s_reached) := ⟨rfl, rfl, rfl, by decide +kernel, rfl, by decide +kernel, by decide +kernel⟩
abbrev s_lost : Stmt := topS 32
abbrev N_lost : List Str := ["store", "cells", "place", "_"]
theorem sc_lost : FnScope N_lost ["store"] (defScope s_lost) := ⟨rfl, rfl, rfl, by decide +kernel, rfl, by decide +kernel, by decide +kernel⟩
abbrev s_first_common : Stmt := topS 33
abbrev N_first_common : List Str := ["store", "letter", "other", "cells", "_", "others", "on_other", "place"]
theorem sc_first_common : FnScope N_first_common ["store", "letter", "other"] (defScope s_first_common) := ⟨rfl, rfl, rfl, by decide +kernel, rfl, by decide +kernel, by decide +kernel⟩
abbrev s_law_jug : Stmt := topS 35
abbrev N_law_jug : List Str := ["_law_script", "_law_turn", "_law_seed", "_law_each", "_law_cell", "_law_great"]
theorem sc_law_jug : FnScope N_law_jug ["_law_script", "_law_turn"] (defScope s_law_jug) := ⟨rfl, rfl, rfl, by decide +kernel, rfl, by decide +kernel, by decide +kernel⟩
abbrev s_law_take : Stmt := topS 36
abbrev N_law_take : List Str := ["_law_jug_here", "_law_many", "_law_figure"]
theorem sc_law_take : FnScope N_law_take ["_law_jug_here", "_law_many"] (defScope s_law_take) := ⟨rfl, rfl, rfl, by decide +kernel, rfl, by decide +kernel, by decide +kernel⟩
abbrev s_law_one_of : Stmt := topS 37
abbrev N_law_one_of : List Str := ["_law_jug_here", "_law_some"]
theorem sc_law_one_of : FnScope N_law_one_of ["_law_jug_here", "_law_some"] (defScope s_law_one_of) := ⟨rfl, rfl, rfl, by decide +kernel, rfl, by decide +kernel, by decide +kernel⟩
abbrev s_law_letters : Stmt := topS 38
abbrev N_law_letters : List Str := ["_law_jug_here", "_law_many", "_law_found", "_law_turn", "_law_near", "_law_left", "_law_letter"]
theorem sc_law_letters : FnScope N_law_letters ["_law_jug_here", "_law_many"] (defScope s_law_letters) := ⟨rfl, rfl, rfl, by decide +kernel, rfl, by decide +kernel, by decide +kernel⟩
abbrev s_law_drawn_cells : Stmt := topS 39
abbrev N_law_drawn_cells : List Str := ["_law_jug_here", "_law_most", "_law_many", "_law_last", "_law_places", "_law_turn", "_law_goals", "_law_cells", "_law_at", "_law_place", "_law_goal"]
theorem sc_law_drawn_cells : FnScope N_law_drawn_cells ["_law_jug_here", "_law_most"] (defScope s_law_drawn_cells) := ⟨rfl, rfl, rfl, by decide +kernel, rfl, by decide +kernel, by decide +kernel⟩
abbrev s_law_drawn_store : Stmt := topS 40
abbrev N_law_drawn_store : List Str := ["_law_jug_here", "_law_letters_here", "_law_most", "_law_cells", "_law_goals", "_law_letter"]
theorem sc_law_drawn_store : FnScope N_law_drawn_store ["_law_jug_here", "_law_letters_here", "_law_most"] (defScope s_law_drawn_store) := ⟨rfl, rfl, rfl, by decide +kernel, rfl, by decide +kernel, by decide +kernel⟩
abbrev s_law_arrows : Stmt := topS 41
abbrev N_law_arrows : List Str := ["_law_cells", "_law_found", "_law_place", "_law_goal"]
theorem sc_law_arrows : FnScope N_law_arrows ["_law_cells"] (defScope s_law_arrows) := ⟨rfl, rfl, rfl, by decide +kernel, rfl, by decide +kernel, by decide +kernel⟩
abbrev s_law_gone_along : Stmt := topS 42
abbrev N_law_gone_along : List Str := ["_law_arrows_here", "_law_place", "_law_found", "_law_here", "_law_turn"]
theorem sc_law_gone_along : FnScope N_law_gone_along ["_law_arrows_here", "_law_place"] (defScope s_law_gone_along) := ⟨rfl, rfl, rfl, by decide +kernel, rfl, by decide +kernel, by decide +kernel⟩
abbrev s_law_knots : Stmt := topS 43
abbrev N_law_knots : List Str := ["_law_names", "_law_arrows_here", "_law_come", "_law_into", "_law_found", "_law_letter", "_law_place", "_law_cell", "_law_heads", "_law_cells", "_law_end", "_law_here"]
theorem sc_law_knots : FnScope N_law_knots ["_law_names", "_law_arrows_here"] (defScope s_law_knots) := ⟨rfl, rfl, rfl, by decide +kernel, rfl, by decide +kernel, by decide +kernel⟩
abbrev s_law_odd : Stmt := topS 44
abbrev N_law_odd : List Str := ["_law_jug_here"]
theorem sc_law_odd : FnScope N_law_odd ["_law_jug_here"] (defScope s_law_odd) := ⟨rfl, rfl, rfl, by decide +kernel, rfl, by decide +kernel, by decide +kernel⟩
abbrev s_law_way_right : Stmt := topS 45
abbrev N_law_way_right : List Str := ["_law_made", "_law_names", "_law_arrows_here", "_law_k", "_law_letter", "_law_place", "_law_cells", "_law_end", "_law_parts", "_law_told_here", "_law_again"]
theorem sc_law_way_right : FnScope N_law_way_right ["_law_made", "_law_names", "_law_arrows_here", "_law_k"] (defScope s_law_way_right) := ⟨rfl, rfl, rfl, by decide +kernel, rfl, by decide +kernel, by decide +kernel⟩
abbrev s_law_common_right : Stmt := topS 46
abbrev N_law_common_right : List Str := ["_law_made", "_law_names", "_law_arrows_here", "_law_letter", "_law_place", "_law_other", "_law_far", "_law_line", "_law_both", "_law_due", "_law_cell"]
theorem sc_law_common_right : FnScope N_law_common_right ["_law_made", "_law_names", "_law_arrows_here"] (defScope s_law_common_right) := ⟨rfl, rfl, rfl, by decide +kernel, rfl, by decide +kernel, by decide +kernel⟩
abbrev s_law_told : Stmt := topS 47
abbrev N_law_told : List Str := ["_law_call", "e"]
theorem sc_law_told : FnScope N_law_told ["_law_call"] (defScope s_law_told) := ⟨rfl, rfl, rfl, by decide +kernel, rfl, by decide +kernel, by decide +kernel⟩
abbrev s_law_refusals_right : Stmt := topS 48
abbrev N_law_refusals_right : List Str := ["_law_jug_here", "_law_made", "_law_names", "_law_thing", "_law_mate", "_law_letters_here", "_law_due", "_law_one", "_law_told_here", "_law_each"]
theorem sc_law_refusals_right : FnScope N_law_refusals_right ["_law_jug_here", "_law_made", "_law_names"] (defScope s_law_refusals_right) := ⟨rfl, rfl, rfl, by decide +kernel, rfl, by decide +kernel, by decide +kernel⟩
abbrev s_law_right : Stmt := topS 49
abbrev N_law_right : List Str := ["_law_jug_here", "_law_names", "_law_cells", "_law_made", "_law_arrows_here", "_law_due", "_law_rest", "_law_place", "_law_goal", "_law_k"]
theorem sc_law_right : FnScope N_law_right ["_law_jug_here"] (defScope s_law_right) := ⟨rfl, rfl, rfl, by decide +kernel, rfl, by decide +kernel, by decide +kernel⟩
abbrev s_law : Stmt := topS 50
abbrev N_law : List Str := ["_law_script", "_law_turn"]
theorem sc_law : FnScope N_law ["_law_script"] (defScope s_law) := ⟨rfl, rfl, rfl, by decide +kernel, rfl, by decide +kernel, by decide +kernel⟩
abbrev s_err_UnknownName : Stmt := inClass (topS 5) 0
theorem sc_err_UnknownName : FnScope ["self", "given"] ["self", "given"] (defScope s_err_UnknownName) := ⟨rfl, rfl, rfl, by decide +kernel, rfl, by decide +kernel, by decide +kernel⟩

def DefAt (K : PySem.W.Frag) (mg : Str → Option Value) (x : Str) (st : Stmt) (ps : List Str) : Prop := ∃ (f : Addr) (fd : FuncData), Fun K x x st f fd ∧ mg x = some (.ref f) ∧ Binds K fd ps []
def MethAt (K : PySem.W.Frag) (C : Addr) (m q : Str) (st : Stmt) (ps : List Str) : Prop := ∃ (f : Addr) (fd : FuncData), Fun K m q st f fd ∧ Meth K C m f ∧ Binds K fd ps []
def InitAt (K : PySem.W.Frag) (C : Addr) (q : Str) (st : Stmt) (ps : List Str) : Prop := ∃ (f : Addr) (fd : FuncData), Fun K "__init__" q st f fd ∧ Mk K C f ∧ Binds K fd ps []
def EqAt (K : PySem.W.Frag) (C : Addr) (q : Str) (st : Stmt) : Prop := ∃ (f : Addr) (fd : FuncData), Fun K "__eq__" q st f fd ∧ OwnEq K C f fd
def InAt (K : PySem.W.Frag) (C : Addr) (q : Str) (st : Stmt) (ps : List Str) : Prop := ∃ (f : Addr) (fd : FuncData), Fun K "__contains__" q st f fd ∧ OwnIn K C f fd ps
/-- a def whose code object is known -/
def DefAtC (K : PySem.W.Frag) (mg : Str → Option Value) (x : Str) (st : Stmt) (ps : List Str) (c : Addr) : Prop := ∃ (f : Addr) (fd : FuncData), Fun K x x st f fd ∧ mg x = some (.ref f) ∧ Binds K fd ps [] ∧ fd.code = .ref c
structure Txt (K : PySem.W.Frag) (mg : Str → Option Value) (C CU : Addr) : Prop where
  b_isinstance : mg "isinstance" = none
  b_int : mg "int" = none
  b_bool : mg "bool" = none
  b_str : mg "str" = none
  b_len : mg "len" = none
  b_tuple : mg "tuple" = none
  b_dict : mg "dict" = none
  b_enumerate : mg "enumerate" = none
  b_range : mg "range" = none
  b_divmod : mg "divmod" = none
  b_abs : mg "abs" = none
  b_sorted : mg "sorted" = none
  b_repr : mg "repr" = none
  b_all : mg "all" = none
  b_max : mg "max" = none
  b_min : mg "min" = none
  c_LETTERS : ∃ t, mg "LETTERS" = some (.str "abcdefghijklmnopqrstuvwxyz" t)
  c_END : ∃ t, mg "END" = some (.int 0 t)
  c_LAST_PLACE : ∃ t, mg "LAST_PLACE" = some (.int 999 t)
  c_MOST_NAMES : ∃ t, mg "MOST_NAMES" = some (.int 4 t)
  c_MOST_CELLS : ∃ t, mg "MOST_CELLS" = some (.int 500 t)
  mgC : mg "Store" = some (.ref C)
  mgCU : mg "UnknownName" = some (.ref CU)
  x_UnknownName : ErrAt K mg "UnknownName" "UnknownName.__init__" "given" s_err_UnknownName CU
  cl : Cls K C
  n_names : NoAttr K C "names"
  n_cells : NoAttr K C "cells"
  n_letters : NoAttr K C "letters"
  n_text : NoAttr K C "text"
  n_places : NoAttr K C "places"
  n_arrows : NoAttr K C "arrows"
  n_led_to : NoAttr K C "led_to"
  isC : PySem.W.findIn K (.ref C) "__class__" = some (some (.builtin "object.__class__"))
  isG : PySem.W.specialIn K (.builtin "object.__class__") "__get__" = some (some (.builtin "getset_descriptor.__get__"))
  isT : PySem.W.takesIn K (.builtin "object.__class__") = some true
  isM : PySem.W.mroIn K C (.type "object") = some true
  k_self : PySem.W.kitOne K (.ref C) (.ref C) = some true
  k_str : PySem.W.kitOne K (.type "str") (.ref C) = some false
  k_int : PySem.W.kitOne K (.type "int") (.ref C) = some false
  k_tup : PySem.W.kitOne K (.type "tuple") (.ref C) = some false
  f_str : PySem.W.notFirst K C (.type "str") = true
  f_int : PySem.W.notFirst K C (.type "int") = true
  f_tup : PySem.W.notFirst K C (.type "tuple") = true
  d_is_number : DefAt K mg "is_number" s_is_number ["value"]
  d_is_whole : DefAt K mg "is_whole" s_is_whole ["value", "low", "high"]
  d_is_place : DefAt K mg "is_place" s_is_place ["value"]
  d_is_letter : DefAt K mg "is_letter" s_is_letter ["value"]
  d_is_tuple_of : DefAt K mg "is_tuple_of" s_is_tuple_of ["value", "many"]
  d_init : InitAt K C "Store.__init__" s_init ["self", "names", "cells"]
  d_eq : EqAt K C "Store.__eq__" s_eq
  d_take : MethAt K C "take" "Store.take" s_take ["self", "names", "cells"]
  d_at : MethAt K C "at" "Store.at" s_at ["self", "letter"]
  d__are_store_names : DefAt K mg "_are_store_names" s_are_store_names ["value"]
  d__wrong_cell : DefAt K mg "_wrong_cell" s_wrong_cell ["cells"]
  d__store_text : DefAt K mg "_store_text" s_store_text ["names", "cells"]
  d_need_store : DefAt K mg "need_store" s_need_store ["value"]
  d__followed : DefAt K mg "_followed" s_followed ["store", "letter"]
  d_way : DefAt K mg "way" s_way ["store", "letter"]
  d_way_end : DefAt K mg "way_end" s_way_end ["store", "letter"]
  d_tail_and_ring : DefAt K mg "tail_and_ring" s_tail_and_ring ["store", "letter"]
  d_reached_from : DefAt K mg "reached_from" s_reached_from ["names", "arrows"]
  d_reached_cells : DefAt K mg "reached_cells" s_reached_cells ["store"]
  d_reached : DefAt K mg "reached" s_reached ["store"]
  d_lost : DefAt K mg "lost" s_lost ["store"]
  d_first_common : DefAt K mg "first_common" s_first_common ["store", "letter", "other"]
  d__law_jug : DefAt K mg "_law_jug" s_law_jug ["_law_script", "_law_turn"]
  d__law_take : DefAt K mg "_law_take" s_law_take ["_law_jug_here", "_law_many"]
  d__law_one_of : DefAt K mg "_law_one_of" s_law_one_of ["_law_jug_here", "_law_some"]
  d__law_letters : DefAt K mg "_law_letters" s_law_letters ["_law_jug_here", "_law_many"]
  d__law_drawn_cells : DefAt K mg "_law_drawn_cells" s_law_drawn_cells ["_law_jug_here", "_law_most"]
  d__law_drawn_store : DefAt K mg "_law_drawn_store" s_law_drawn_store ["_law_jug_here", "_law_letters_here", "_law_most"]
  d__law_arrows : DefAt K mg "_law_arrows" s_law_arrows ["_law_cells"]
  d__law_gone_along : DefAt K mg "_law_gone_along" s_law_gone_along ["_law_arrows_here", "_law_place"]
  d__law_knots : DefAt K mg "_law_knots" s_law_knots ["_law_names", "_law_arrows_here"]
  d__law_odd : DefAt K mg "_law_odd" s_law_odd ["_law_jug_here"]
  d__law_way_right : DefAt K mg "_law_way_right" s_law_way_right ["_law_made", "_law_names", "_law_arrows_here", "_law_k"]
  d__law_common_right : DefAt K mg "_law_common_right" s_law_common_right ["_law_made", "_law_names", "_law_arrows_here"]
  d__law_told : DefAt K mg "_law_told" s_law_told ["_law_call"]
  d__law_refusals_right : DefAt K mg "_law_refusals_right" s_law_refusals_right ["_law_jug_here", "_law_made", "_law_names"]
  d__law_right : DefAt K mg "_law_right" s_law_right ["_law_jug_here"]
  d_law : DefAt K mg "law" s_law ["_law_script"]

section
variable (P : Program) (w : World) (K : PySem.W.Frag) (mg : Str → Option Value) (base : Heap)
/-- what a def of the module promises -/
def Pr (x : Str) (st : Stmt) (k : Nat) (ps : List Str) (sp : Sp) : Prop := ∃ (f : Addr) (fd : FuncData), Fun K x x st f fd ∧ mg x = some (.ref f) ∧ Binds K fd ps [] ∧ FnOk P w K mg base CX0 k f fd ps sp
def PrG (x : Str) (st : Stmt) (k : Nat) (ps : List Str) (sp : Sp) : Prop := ∃ (f : Addr) (fd : FuncData), Fun K x x st f fd ∧ mg x = some (.ref f) ∧ Binds K fd ps [] ∧ FnG P w K mg base k f fd ps sp
def PrM (C : Addr) (m q : Str) (st : Stmt) (k : Nat) (ps : List Str) (sp : Sp) : Prop := ∃ (f : Addr) (fd : FuncData), Fun K m q st f fd ∧ Meth K C m f ∧ Binds K fd ps [] ∧ FnOk P w K mg base CX0 k f fd ps sp
def PrI (C : Addr) (q : Str) (st : Stmt) (k : Nat) (ps : List Str) (sp : Sp) : Prop := ∃ (f : Addr) (fd : FuncData), Fun K "__init__" q st f fd ∧ Mk K C f ∧ Binds K fd ps [] ∧ FnOk P w K mg base CX0 k f fd ps sp
def PrE (C : Addr) (q : Str) (st : Stmt) (k : Nat) (sp : Sp) : Prop := ∃ (f : Addr) (fd : FuncData), Fun K "__eq__" q st f fd ∧ OwnEq K C f fd ∧ FnOk P w K mg base CX0 k f fd ["self", "other"] sp
end
section
variable {X : Cx} {k n : Nat} {C : Addr} {ps ks : List Str} {sp : Sp} {x m q : Str} {st : Stmt} {p pos apos : Pos} {e o : Expr} {es : List Expr} {kws : List Keyword} {ta : TE} {t tk : TA}
theorem pe_globI {i : Int} (hg : Gl X x) (hm : ∃ t, X.mg x = some (.int i t)) (hd : (x == ("__debug__" : Str)) = false := by decide) : PE X (.Name x pos) (tC (.int i)) := by
  obtain ⟨t, e⟩ := hm
  exact pe_glob hg e ⟨t, rfl⟩ hd
theorem pe_globS {i : Str} (hg : Gl X x) (hm : ∃ t, X.mg x = some (.str i t)) (hd : (x == ("__debug__" : Str)) = false := by decide) : PE X (.Name x pos) (tC (.str i)) := by
  obtain ⟨t, e⟩ := hm
  exact pe_glob hg e ⟨t, rfl⟩ hd
theorem pe_bty (n : String) (hg : Gl X x) (hm : X.mg x = none) (hv : bootBuiltins x = some (.type n)) (hn : x ≠ "__name__" := by decide) (hd : (x == ("__debug__" : Str)) = false := by decide) : PE X (.Name x pos) (tC (.ty n)) :=
  pe_bltn hg hm hv (show RelV (.ty n) (.type n) from rfl) hn hd
def tCal (sp : Sp) (t : TA) : TE := fun σ H Q => t σ H fun vs H1 => sp vs H1 Q E0
theorem pcall (G : Pr X.prog X.w X.K X.mg X.base x st k ps sp) (hr : Room k X.A) (ha : PA X (e :: es) t) (hg : Gl X x := by rfl) (hdb : (x == ("__debug__" : Str)) = false := by decide)
    (he : starEach (e :: es) X.env = (false, eval e X.env) :: starEach es X.env := by rfl) (hpl : (backTo pos (starEach es X.env)).any (·.1) = false := by rfl) : PE X (.Call (.Name x p) (e :: es) [] pos) (tCal sp t) := by
  obtain ⟨f, fd, F, gl, bd, G⟩ := G
  have h := pe_call (p := p) (pos := pos) G hr hg gl F.kp bd .nil pass0 ha hdb he hpl
  constructor
  intro pins s σ H Q I hq
  refine h.run pins s σ H Q I ?_
  simpa only [tCall, tCal, List.append_nil] using hq
theorem pcallG (G : PrG X.prog X.w X.K X.mg X.base x st k ps sp) (hr : Room k X.A) (hgd : X.A.guards = some []) (ha : PA X (e :: es) t) (hg : Gl X x := by rfl) (hdb : (x == ("__debug__" : Str)) = false := by decide)
    (he : starEach (e :: es) X.env = (false, eval e X.env) :: starEach es X.env := by rfl) (hpl : (backTo pos (starEach es X.env)).any (·.1) = false := by rfl) : PE X (.Call (.Name x p) (e :: es) [] pos) (tCal sp t) := by
  obtain ⟨f, fd, F, gl, bd, G⟩ := G
  exact pe_callG G hr hgd hg gl F.kp bd ha hdb he hpl
def tMet (C : Addr) (m : Str) (sp : Sp) (ta : TE) (t : TA) : TE := fun σ H Q => ta σ H fun x H1 => ∃ a dx fs, x = .ref a ∧ H1 a = some (.ins C dx fs) ∧ fs.lookup m = none ∧ t σ H1 fun vs H2 => sp (x :: vs) H2 Q E0
theorem pmeth {pl : Sem Bool} (he : PE X o ta) (c : Cls X.K C) (G : PrM X.prog X.w X.K X.mg X.base C m q st k ps sp) (hr : Room k X.A) (ha : PA X (e :: es) t)
    (hst : starEach (e :: es) X.env = (false, eval e X.env) :: starEach es X.env := by rfl) (hpl : (backTo pos (starEach es X.env)).any (·.1) = false := by rfl)
    (ht : eval (.Call (.Attribute o m apos) (e :: es) [] pos) X.env = (do
      let ov ← eval o X.env
      standAt apos.atName
      let (f, first) ← holding [ov] (getMethod ov m pl)
      callWith pos f first (backTo pos (starEach (e :: es) X.env)) (backToKw pos (keywordEach [] X.env))) := by rfl) :
    PE X (.Call (.Attribute o m apos) (e :: es) [] pos) (tMet C m sp ta t) := by
  obtain ⟨f, fd, F, hm, bd, G⟩ := G
  have h := pe_meth (pl := pl) (pos := pos) (apos := apos) he c hm G hr bd .nil pass0 ha hst hpl ht
  constructor
  intro pins s σ H Q I hq
  refine h.run pins s σ H Q I ?_
  simpa only [tMeth, tMet, List.append_nil] using hq
def tMak (C : Addr) (sp : Sp) (t : TA) : TE := fun σ H Q => t σ H fun vs H1 => ∀ x dx, H1 x = none → H1 dx = none → dx ≠ x → sp (.ref x :: vs) (upd (upd H1 dx (.own x)) x (.ins C dx [])) (fun v H2 => v = .non ∧ Q (.ref x) H2) E0
theorem pmake (G : PrI X.prog X.w X.K X.mg X.base C q st k ps sp) (hm : X.mg x = some (.ref C)) (hr : Room (k + 1) X.A) (ha : PA X (e :: es) t) (hg : Gl X x := by rfl) (hdb : (x == ("__debug__" : Str)) = false := by decide)
    (he : starEach (e :: es) X.env = (false, eval e X.env) :: starEach es X.env := by rfl) (hpl : (backTo pos (starEach es X.env)).any (·.1) = false := by rfl) : PE X (.Call (.Name x p) (e :: es) [] pos) (tMak C sp t) := by
  obtain ⟨f, fd, F, M, bd, G⟩ := G
  have h := pe_make (p := p) (pos := pos) M G hr hg hm bd .nil pass0 ha hdb he hpl
  constructor
  intro pins s σ H Q I hq
  refine h.run pins s σ H Q I ?_
  simpa only [tMake, tMak, List.append_nil] using hq
def tOwn (C : Addr) (sp : Sp) (g : Bool → Bool) (K : PySem.W.Frag) : R2 := rOwnC C sp g K
theorem pOwnEq (G : PrE X.prog X.w X.K X.mg X.base C q st k sp) (hr : Room k X.A) : OpR X (compareOp .Eq) (tOwn C sp id X.K) := by
  obtain ⟨f, fd, F, O, G⟩ := G
  exact op_ownEq G O hr
theorem pOwnNe (G : PrE X.prog X.w X.K X.mg X.base C q st k sp) (hr : Room (k + 1) X.A) : OpR X (compareOp .NotEq) (tOwn C sp (fun c => !c) X.K) := by
  obtain ⟨f, fd, F, O, G⟩ := G
  exact op_ownNe G O hr
section
variable {g : List Value → List Value → List Value} {gV : List V → List V → List V}
def tCalN (m : Nat) (sp : Sp) (gV : List V → List V → List V) (tk : TA) : TE := fun σ H Q => tk σ H fun zs H2 => zs.length = m ∧ sp (gV [] zs) H2 Q E0
theorem pcallN0 (G : Pr X.prog X.w X.K X.mg X.base x st k ps sp) (hr : Room k X.A) (hb : ∀ {f : Addr} {fd : FuncData}, Fun X.K x x st f fd → KBn X.K fd ps 0 ks g gV) (hkw : PK X kws tk) (hg : Gl X x := by rfl)
    (hall : (backToKw pos (keywordEach kws X.env)).all (·.1.isSome) = true := by rfl) (hks : (backToKw pos (keywordEach kws X.env)).filterMap (·.1) = ks := by rfl)
    (hdb : (x == ("__debug__" : Str)) = false := by decide) (hpl : ((backTo pos (starEach [] X.env)).any (·.1) || (backToKw pos (keywordEach kws X.env)).any (·.1.isNone)) = false := by rfl) :
    PE X (.Call (.Name x p) [] kws pos) (tCalN ks.length sp gV tk) := by
  obtain ⟨f, fd, F, gl, bd, G⟩ := G
  have h := pe_callN0 (p := p) (pos := pos) G hr hg gl F.kp (hb F) pass0 hkw hall hks hdb hpl
  constructor
  intro pins s σ H Q I hq
  refine h.run pins s σ H Q I ?_
  show tk σ H fun zs H2 => ([] : List V).length = 0 ∧ zs.length = ks.length ∧ sp (gV [] zs) H2 Q E0
  simpa only [tCalN, List.length_nil, true_and] using hq
theorem pmethN0 {pl : Sem Bool} (he : PE X o ta) (c : Cls X.K C) (G : PrM X.prog X.w X.K X.mg X.base C m q st k ps sp) (hr : Room k X.A) (hb : ∀ {f : Addr} {fd : FuncData}, Fun X.K m q st f fd → KBn X.K fd ps 1 ks g gV) (hkw : PK X kws tk)
    (hall : (backToKw pos (keywordEach kws X.env)).all (·.1.isSome) = true := by rfl) (hks : (backToKw pos (keywordEach kws X.env)).filterMap (·.1) = ks := by rfl)
    (hpl : ((backTo pos (starEach [] X.env)).any (·.1) || (backToKw pos (keywordEach kws X.env)).any (·.1.isNone)) = false := by rfl)
    (ht : eval (.Call (.Attribute o m apos) [] kws pos) X.env = (do
      let ov ← eval o X.env
      standAt apos.atName
      let (f, first) ← holding [ov] (getMethod ov m pl)
      callWith pos f first (backTo pos (starEach [] X.env)) (backToKw pos (keywordEach kws X.env))) := by rfl) :
    PE X (.Call (.Attribute o m apos) [] kws pos) (tMethN C m ks.length sp gV E0 ta tk) := by
  obtain ⟨f, fd, F, hm, bd, G⟩ := G
  exact pe_methN0 (pl := pl) he c hm G hr (hb F) pass0 hkw hall hks hpl ht
def tMakN (C : Addr) (m : Nat) (sp : Sp) (gV : List V → List V → List V) (tk : TA) : TE := fun σ H Q => tk σ H fun zs H2 => zs.length = m ∧ ∀ x dx, H2 x = none → H2 dx = none → dx ≠ x →
  sp (gV [.ref x] zs) (upd (upd H2 dx (.own x)) x (.ins C dx [])) (fun v H3 => v = .non ∧ Q (.ref x) H3) E0
theorem pmakeK0 (G : PrI X.prog X.w X.K X.mg X.base C q st k ps sp) (hm : X.mg x = some (.ref C)) (hr : Room (k + 1) X.A) (hb : ∀ {f : Addr} {fd : FuncData}, Fun X.K "__init__" q st f fd → KBn X.K fd ps 1 ks g gV) (hkw : PK X kws tk) (hg : Gl X x := by rfl)
    (hall : (backToKw pos (keywordEach kws X.env)).all (·.1.isSome) = true := by rfl) (hks : (backToKw pos (keywordEach kws X.env)).filterMap (·.1) = ks := by rfl) (hdb : (x == ("__debug__" : Str)) = false := by decide)
    (hpl : ((backTo pos (starEach [] X.env)).any (·.1) || (backToKw pos (keywordEach kws X.env)).any (·.1.isNone)) = false := by rfl) :
    PE X (.Call (.Name x p) [] kws pos) (tMakN C ks.length sp gV tk) := by
  obtain ⟨f, fd, F, M, bd, G⟩ := G
  have h := pe_makeK0 (p := p) (pos := pos) M G hr hg hm (hb F) pass0 hkw hall hks hdb hpl
  constructor
  intro pins s σ H Q I hq
  refine h.run pins s σ H Q I ?_
  show tk σ H fun zs H2 => ([] : List V).length = 0 ∧ zs.length = ks.length ∧ ∀ x dx, H2 x = none → H2 dx = none → dx ≠ x → sp (gV [.ref x] zs) (upd (upd H2 dx (.own x)) x (.ins C dx [])) (fun v H3 => v = .non ∧ Q (.ref x) H3) E0
  simpa only [tMakN, List.length_nil, true_and] using hq
end
end
def PrC (P : Program) (w : World) (K : PySem.W.Frag) (mg : Str → Option Value) (base : Heap) (C : Addr) (q : Str) (st : Stmt) (k : Nat) (ps : List Str) (sp : Sp) : Prop := ∃ (f : Addr) (fd : FuncData), Fun K "__contains__" q st f fd ∧ OwnIn K C f fd ps ∧ FnOk P w K mg base CX0 k f fd ps sp
theorem pOwnIn {X : Cx} {C : Addr} {q : Str} {st : Stmt} {k : Nat} {ps : List Str} {sp : Sp} (G : PrC X.prog X.w X.K X.mg X.base C q st k ps sp) (hr : Room k X.A) : OpR X (compareOp .In) (rOwnIn C sp) := by
  obtain ⟨f, fd, F, O, G⟩ := G
  exact op_ownIn G O hr
theorem kb_one {K : PySem.W.Frag} {n q a : Str} {st : Stmt} {f : Addr} {fd : FuncData} (F : Fun K n q st f fd) (h : ∀ (kV doc pm : Value) (an : Option Addr) (cdv ct : Value) (u : Value), bindArgs (PySem.W.fnOf n q (defArgs st) (defBody st) (defScope st) .none kV doc pm an cdv ct) ⟨[], [(a, u)]⟩ = pure [(a, u)]) : KBn K fd [a] 0 [a] (fun us ws => us ++ ws) (fun vs zs => vs ++ zs) := by
  obtain ⟨oc, od, kV, doc, pm, an, cdv, ct, osl, rfl, lk, hcd⟩ := F.ex
  exact kbn_of (fun us ws => us ++ ws) (fun h1 h2 => h1.append h2) (fun us ws h1 h2 => match us, ws, h1, h2 with | [], [u], _, _ => h _ _ _ _ _ _ u)

/-! ### defs that may raise -/
def PrX (P : Program) (w : World) (K : PySem.W.Frag) (mg : Str → Option Value) (base : Heap) (x : Str) (st : Stmt) (k : Nat) (ps : List Str) (sp : Sp) : Prop := ∃ (f : Addr) (fd : FuncData), Fun K x x st f fd ∧ mg x = some (.ref f) ∧ Binds K fd ps [] ∧ FnOk P w K mg base (L2.CX P w) k f fd ps sp
def PrMX (P : Program) (w : World) (K : PySem.W.Frag) (mg : Str → Option Value) (base : Heap) (C : Addr) (m q : Str) (st : Stmt) (k : Nat) (ps : List Str) (sp : Sp) : Prop := ∃ (f : Addr) (fd : FuncData), Fun K m q st f fd ∧ Meth K C m f ∧ Binds K fd ps [] ∧ FnOk P w K mg base (L2.CX P w) k f fd ps sp
def PrIX (P : Program) (w : World) (K : PySem.W.Frag) (mg : Str → Option Value) (base : Heap) (C : Addr) (q : Str) (st : Stmt) (k : Nat) (ps : List Str) (sp : Sp) : Prop := ∃ (f : Addr) (fd : FuncData), Fun K "__init__" q st f fd ∧ Mk K C f ∧ Binds K fd ps [] ∧ FnOk P w K mg base (L2.CX P w) k f fd ps sp
section
variable {X : Cx} {k n : Nat} {C : Addr} {ps ks : List Str} {sp : Sp} {x m q : Str} {st : Stmt} {p pos apos : Pos} {e o : Expr} {es : List Expr} {kws : List Keyword} {ta : TE} {t tk : TA} {W : WX}
def tCalX (sp : Sp) (E : XK) (t : TA) : TE := fun σ H Q => t σ H fun vs H1 => sp vs H1 Q E
theorem pcallX (E : XK) (G : PrX X.prog X.w X.K X.mg X.base x st k ps sp) (hr : Room k X.A) (hx : Passes (L2.CX X.prog X.w) X E) (ha : PA X (e :: es) t) (hg : Gl X x := by rfl) (hdb : (x == ("__debug__" : Str)) = false := by decide)
    (he : starEach (e :: es) X.env = (false, eval e X.env) :: starEach es X.env := by rfl) (hpl : (backTo pos (starEach es X.env)).any (·.1) = false := by rfl) : PE X (.Call (.Name x p) (e :: es) [] pos) (tCalX sp E t) := by
  obtain ⟨f, fd, F, gl, bd, G⟩ := G
  have h := pe_call (p := p) (pos := pos) G hr hg gl F.kp bd .nil hx ha hdb he hpl
  constructor
  intro pins s σ H Q I hq
  refine h.run pins s σ H Q I ?_
  simpa only [tCall, tCalX, List.append_nil] using hq
def tMetX (C : Addr) (m : Str) (sp : Sp) (E : XK) (ta : TE) (t : TA) : TE := fun σ H Q => ta σ H fun x H1 => ∃ a dx fs, x = .ref a ∧ H1 a = some (.ins C dx fs) ∧ fs.lookup m = none ∧ t σ H1 fun vs H2 => sp (x :: vs) H2 Q E
theorem pmethX {pl : Sem Bool} (E : XK) (he : PE X o ta) (c : Cls X.K C) (G : PrMX X.prog X.w X.K X.mg X.base C m q st k ps sp) (hr : Room k X.A) (hx : Passes (L2.CX X.prog X.w) X E) (ha : PA X (e :: es) t)
    (hst : starEach (e :: es) X.env = (false, eval e X.env) :: starEach es X.env := by rfl) (hpl : (backTo pos (starEach es X.env)).any (·.1) = false := by rfl)
    (ht : eval (.Call (.Attribute o m apos) (e :: es) [] pos) X.env = (do
      let ov ← eval o X.env
      standAt apos.atName
      let (f, first) ← holding [ov] (getMethod ov m pl)
      callWith pos f first (backTo pos (starEach (e :: es) X.env)) (backToKw pos (keywordEach [] X.env))) := by rfl) :
    PE X (.Call (.Attribute o m apos) (e :: es) [] pos) (tMetX C m sp E ta t) := by
  obtain ⟨f, fd, F, hm, bd, G⟩ := G
  have h := pe_meth (pl := pl) (pos := pos) (apos := apos) he c hm G hr bd .nil hx ha hst hpl ht
  constructor
  intro pins s σ H Q I hq
  refine h.run pins s σ H Q I ?_
  simpa only [tMeth, tMetX, List.append_nil] using hq
/-- in a try's body -/
def tCalW (sp : Sp) (W : WX) (t : TA) : TE := fun σ H Q => t σ H fun vs H1 => sp vs H1 Q fun cls d H' => W cls d σ H'
theorem pcallW (G : PrX X.prog X.w X.K X.mg X.base x st k ps sp) (hr : Room k X.A) (tk : Takes X W) (ha : PA X (e :: es) t) (hg : Gl X x := by rfl) (hdb : (x == ("__debug__" : Str)) = false := by decide)
    (he : starEach (e :: es) X.env = (false, eval e X.env) :: starEach es X.env := by rfl) (hpl : (backTo pos (starEach es X.env)).any (·.1) = false := by rfl) : PE X (.Call (.Name x p) (e :: es) [] pos) (tCalW sp W t) := by
  obtain ⟨f, fd, F, gl, bd, G⟩ := G
  exact pe_callS (p := p) (pos := pos) G hr hg gl F.kp bd (fun σ => passAt tk σ) ha hdb he hpl
theorem pcallXN0 {g : List Value → List Value → List Value} {gV : List V → List V → List V} (E : XK) (G : PrX X.prog X.w X.K X.mg X.base x st k ps sp) (hr : Room k X.A) (hx : Passes (L2.CX X.prog X.w) X E) (hb : ∀ {f : Addr} {fd : FuncData}, Fun X.K x x st f fd → KBn X.K fd ps 0 ks g gV) (hkw : PK X kws tk) (hg : Gl X x := by rfl)
    (hall : (backToKw pos (keywordEach kws X.env)).all (·.1.isSome) = true := by rfl) (hks : (backToKw pos (keywordEach kws X.env)).filterMap (·.1) = ks := by rfl)
    (hdb : (x == ("__debug__" : Str)) = false := by decide) (hpl : ((backTo pos (starEach [] X.env)).any (·.1) || (backToKw pos (keywordEach kws X.env)).any (·.1.isNone)) = false := by rfl) :
    PE X (.Call (.Name x p) [] kws pos) (fun σ H Q => tk σ H fun zs H2 => zs.length = ks.length ∧ sp (gV [] zs) H2 Q E) := by
  obtain ⟨f, fd, F, gl, bd, G⟩ := G
  have h := pe_callN0 (p := p) (pos := pos) G hr hg gl F.kp (hb F) hx hkw hall hks hdb hpl
  constructor
  intro pins s σ H Q I hq
  refine h.run pins s σ H Q I ?_
  show tk σ H fun zs H2 => ([] : List V).length = 0 ∧ zs.length = ks.length ∧ sp (gV [] zs) H2 Q E
  simpa only [List.length_nil, true_and] using hq
end
theorem kb_ord {K : PySem.W.Frag} {n q : Str} {st : Stmt} {ps : List Str} {f : Addr} {fd : FuncData} (F : Fun K n q st f fd) (h : ∀ (kV doc pm : Value) (an : Option Addr) (cdv ct : Value) (us ws : List Value), us.length = 0 → ws.length = ps.length → bindArgs (PySem.W.fnOf n q (defArgs st) (defBody st) (defScope st) .none kV doc pm an cdv ct) ⟨us, ps.zip ws⟩ = pure (ps.zip (us ++ ws))) : KBn K fd ps 0 ps (fun us ws => us ++ ws) (fun vs zs => vs ++ zs) := by
  obtain ⟨oc, od, kV, doc, pm, an, cdv, ct, osl, rfl, lk, hcd⟩ := F.ex
  exact kbn_of (fun us ws => us ++ ws) (fun h1 h2 => h1.append h2) (fun us ws h1 h2 => h _ _ _ _ _ _ us ws h1 h2)
theorem kb_tail_and_ring {K : PySem.W.Frag} {f : Addr} {fd : FuncData} (F : Fun K "tail_and_ring" "tail_and_ring" s_tail_and_ring f fd) : KBn K fd ["store", "letter"] 0 ["store", "letter"] (fun us ws => us ++ ws) (fun vs zs => vs ++ zs) := kb_ord F (fun _ _ _ _ _ _ us ws h1 h2 => match us, ws, h1, h2 with | [], [_, _], _, _ => rfl)
theorem ok_err_UnknownName {P : Program} {w : World} {K : PySem.W.Frag} {mg : Str → Option Value} {base : Heap} {C CU : Addr} (T : Txt K mg C CU) : PrErr P w K mg base "UnknownName" "given" CU := by
  obtain ⟨fI, fd, F, iC, tI, bd⟩ := T.x_UnknownName.fn
  refine ⟨T.x_UnknownName.gC, T.x_UnknownName.ox, fI, fd, iC, tI, bd, F.ok sc_err_UnknownName (fun vs H Q E h => ?_) (fun cdv A outer s H vs Q E hr h => ?_)⟩
  · obtain ⟨_, _, rfl, _⟩ := h
    rfl
  · obtain ⟨a, v, rfl, ha, k⟩ := h
    exact ⟨_, pss_one (ps_ost (pv 0) (pv 1)), ⟨_, rfl, _, rfl, a, CU, rfl, T.x_UnknownName.ox, T.x_UnknownName.no, .inl ⟨ha, fun dx h1 h2 => k dx h1 h2⟩⟩⟩
def gSw {α : Type} (us ws : List α) : List α := match us, ws with
  | [], [a, b] => [b, a]
  | u, w => u ++ w
theorem vals_sw {vs zs : List V} {us ws : List Value} (h1 : Vals vs us) (h2 : Vals zs ws) : Vals (gSw vs zs) (gSw us ws) := by
  cases h1 with
  | nil =>
    cases h2 with
    | nil => exact .nil
    | cons a t =>
      cases t with
      | nil => exact .cons a .nil
      | cons b t2 =>
        cases t2 with
        | nil => exact .cons b (.cons a .nil)
        | cons c t3 => exact .cons a (.cons b (.cons c t3))
  | cons a t => exact (show Vals (_ :: _) (_ :: _) from .cons a t).append h2
theorem kb_way {K : PySem.W.Frag} {f : Addr} {fd : FuncData} (F : Fun K "way" "way" s_way f fd) : KBn K fd ["store", "letter"] 0 ["letter", "store"] (fun us ws => gSw us ws) (fun vs zs => gSw vs zs) := by
  obtain ⟨oc, od, kV, doc, pm, an, cdv, ct, osl, rfl, lk, hcd⟩ := F.ex
  exact kbn_of (fun us ws => gSw us ws) (fun h1 h2 => vals_sw h1 h2) (fun us ws h1 h2 => match us, ws, h1, h2 with | [], [_, _], _, _ => rfl)
theorem kb_way_end {K : PySem.W.Frag} {f : Addr} {fd : FuncData} (F : Fun K "way_end" "way_end" s_way_end f fd) : KBn K fd ["store", "letter"] 0 ["letter", "store"] (fun us ws => gSw us ws) (fun vs zs => gSw vs zs) := by
  obtain ⟨oc, od, kV, doc, pm, an, cdv, ct, osl, rfl, lk, hcd⟩ := F.ex
  exact kbn_of (fun us ws => gSw us ws) (fun h1 h2 => vals_sw h1 h2) (fun us ws h1 h2 => match us, ws, h1, h2 with | [], [_, _], _, _ => rfl)
def gRot {α : Type} (us ws : List α) : List α := match us, ws with
  | [], [a, b, c] => [b, c, a]
  | u, w => u ++ w
theorem vals_rot {vs zs : List V} {us ws : List Value} (h1 : Vals vs us) (h2 : Vals zs ws) : Vals (gRot vs zs) (gRot us ws) := by
  cases h1 with
  | cons a t => exact (show Vals (_ :: _) (_ :: _) from .cons a t).append h2
  | nil =>
    cases h2 with
    | nil => exact .nil
    | cons a t =>
      cases t with
      | nil => exact .cons a .nil
      | cons b t2 =>
        cases t2 with
        | nil => exact .cons a (.cons b .nil)
        | cons c t3 =>
          cases t3 with
          | nil => exact .cons b (.cons c (.cons a .nil))
          | cons e t4 => exact .cons a (.cons b (.cons c (.cons e t4)))
theorem kb_first_common {K : PySem.W.Frag} {f : Addr} {fd : FuncData} (F : Fun K "first_common" "first_common" s_first_common f fd) : KBn K fd ["store", "letter", "other"] 0 ["other", "store", "letter"] (fun us ws => gRot us ws) (fun vs zs => gRot vs zs) := by
  obtain ⟨oc, od, kV, doc, pm, an, cdv, ct, osl, rfl, lk, hcd⟩ := F.ex
  exact kbn_of (fun us ws => gRot us ws) (fun h1 h2 => vals_rot h1 h2) (fun us ws h1 h2 => match us, ws, h1, h2 with | [], [_, _, _], _, _ => rfl)
end K1
/-! Heaps, data, promises. -/
namespace K1
open PySem PySem.Spec L2 Z
/-! ### what never changes -/
def Imm (H H' : Hp) : Prop := (∀ b xs, H b = some (.tup xs) → H' b = some (.tup xs)) ∧ ∀ b o u, H b = some (.frz o u) → H' b = some (.frz o u)
theorem Imm.refl (H : Hp) : Imm H H := ⟨fun _ _ h => h, fun _ _ _ h => h⟩
theorem Imm.trans {H H1 H2 : Hp} (a : Imm H H1) (b : Imm H1 H2) : Imm H H2 := ⟨fun c xs h => b.1 c xs (a.1 c xs h), fun c o u h => b.2 c o u (a.2 c o u h)⟩
theorem Imm.of {H H' : Hp} (e : Same H H') : Imm H H' := ⟨fun b xs h => e b _ h, fun b o u h => e b _ h⟩
theorem same_new {H : Hp} {p : Addr} {o : HO} (h : H p = none) : Same H (upd H p o) := fun b x e => by
  rw [upd_ne (ne_of_none e h)]
  exact e
/-- all but the thing at j is as it was -/
def Chg (j : Addr) (H H' : Hp) : Prop := ∀ b o, H b = some o → b ≠ j → H' b = some o
theorem Chg.refl (j : Addr) (H : Hp) : Chg j H H := fun _ _ h _ => h
theorem Chg.trans {j : Addr} {H H1 H2 : Hp} (a : Chg j H H1) (b : Chg j H1 H2) : Chg j H H2 := fun c o h n => b c o (a c o h n) n
theorem Chg.of {j : Addr} {H H' : Hp} (e : Same H H') : Chg j H H' := fun b o h _ => e b o h
theorem Chg.upd {j : Addr} {H : Hp} {o : HO} : Chg j H (upd H j o) := fun b x e n => by
  rw [upd_ne n]
  exact e
def Mu : HO → Prop
  | .tup _ => False
  | .frz _ _ => False
  | _ => True
theorem Chg.imm {j : Addr} {H H' : Hp} {u : HO} (e : Chg j H H') (h : H j = some u) (m : Mu u) : Imm H H' := by
  refine ⟨fun b xs q => e b _ q fun z => ?_, fun b o x q => e b _ q fun z => ?_⟩
  · subst z
    rw [h] at q
    cases q
    exact m
  · subst z
    rw [h] at q
    cases q
    exact m
theorem SqT.imm {K : PySem.W.Frag} {H H' : Hp} {a : Addr} {xs : List V} (e : Imm H H') (h : SqT K H a xs) : SqT K H' a xs := by
  rcases h with (h | ⟨o, h⟩) | h
  · exact .inl (.inl (e.1 _ _ h))
  · exact .inl (.inr ⟨o, e.2 _ _ _ h⟩)
  · exact .inr h
theorem PT.imm {H H' : Hp} {a : Addr} {xs : List V} (e : Imm H H') (h : PT H a xs) : PT H' a xs := by
  obtain ⟨o, q, ho⟩ := h
  exact ⟨o, e.2 _ _ _ q, ho⟩
theorem SqL.chg {K : PySem.W.Frag} {j : Addr} {H H' : Hp} {a : Addr} {xs : List V} (e : Chg j H H') (n : a ≠ j) (h : SqL K H a xs) : SqL K H' a xs := by
  rcases h with (h | ⟨o, h⟩) | h
  · exact .inl (.inl (e _ _ h n))
  · exact .inl (.inr ⟨o, e _ _ h n⟩)
  · exact .inr h
theorem SqT.ty {K : PySem.W.Frag} {H : Hp} {a : Addr} {xs : List V} (h : SqT K H a xs) : TyX K H (.ref a) (.type "tuple") := by
  rcases h with (h | ⟨o, h⟩) | ⟨o, its, n, h, hc, _⟩
  · exact .base (.tup h)
  · exact .fTuple h
  · exact .kTuple h hc
/-! ### tuples of pairs -/
def TP (K : PySem.W.Frag) (H : Hp) (v : V) (ls : List (V × V)) : Prop := ∃ (a : Addr) (rs : List Addr), v = .ref a ∧ PT H a (rs.map V.ref) ∧ Paired (fun b (p : V × V) => SqT K H b [p.1, p.2]) rs ls
theorem Paired.imm {K : PySem.W.Frag} {H H' : Hp} (e : Imm H H') : ∀ {rs : List Addr} {ls : List (V × V)}, Paired (fun b (p : V × V) => SqT K H b [p.1, p.2]) rs ls → Paired (fun b (p : V × V) => SqT K H' b [p.1, p.2]) rs ls
  | _, _, .nil => .nil
  | _, _, .cons h t => .cons (SqT.imm e h) (Paired.imm e t)
theorem TP.imm {K : PySem.W.Frag} {H H' : Hp} {v : V} {ls : List (V × V)} (e : Imm H H') (h : TP K H v ls) : TP K H' v ls := by
  obtain ⟨a, rs, ev, p, q⟩ := h
  exact ⟨a, rs, ev, PT.imm e p, Paired.imm e q⟩
theorem Paired.len {α β : Type} {F : α → β → Prop} : ∀ {l : List α} {m : List β}, Paired F l m → l.length = m.length
  | _, _, .nil => rfl
  | _, _, .cons _ t => congrArg Nat.succ (Paired.len t)
theorem Paired.at {α β : Type} {F : α → β → Prop} : ∀ {l : List α} {m : List β} {i : Nat} {x : α}, Paired F l m → l[i]? = some x → ∃ y, m[i]? = some y ∧ F x y
  | _, _, _, _, .nil, e => by simp at e
  | _, _, 0, _, .cons h _, e => by
    simp at e
    subst e
    exact ⟨_, rfl, h⟩
  | _, _, i + 1, _, .cons _ t, e => by
    obtain ⟨y, h1, h2⟩ := Paired.at (i := i) t (by simpa using e)
    exact ⟨y, by simpa using h1, h2⟩
theorem Paired.snoc {α β : Type} {F : α → β → Prop} {x : α} {y : β} (h : F x y) : ∀ {l : List α} {m : List β}, Paired F l m → Paired F (l ++ [x]) (m ++ [y])
  | _, _, .nil => .cons h .nil
  | _, _, .cons a t => .cons a (Paired.snoc h t)
theorem Paired.app {α β : Type} {F : α → β → Prop} : ∀ {l l2 : List α} {m m2 : List β}, Paired F l m → Paired F l2 m2 → Paired F (l ++ l2) (m ++ m2)
  | _, _, _, _, .nil, h => h
  | _, _, _, _, .cons a t, h => .cons a (Paired.app t h)
/-- the i-th turn over a tuple of pairs -/
theorem pairs_at {K : PySem.W.Frag} {H : Hp} {rs : List Addr} {ls : List (V × V)} {i : Nat} {x : V} (q : Paired (fun b (p : V × V) => SqT K H b [p.1, p.2]) rs ls) (e : (rs.map V.ref)[i]? = some x) :
    ∃ b p, x = .ref b ∧ rs[i]? = some b ∧ ls[i]? = some p ∧ SqT K H b [p.1, p.2] := by
  rw [List.getElem?_map] at e
  cases hb : rs[i]? with
  | none => rw [hb] at e; cases e
  | some b =>
    rw [hb] at e
    cases e
    obtain ⟨p, h1, h2⟩ := Paired.at q hb
    exact ⟨b, p, rfl, rfl, h1, h2⟩
/-! ### the data of a store -/
def ch (c : Nat) : Str := ⟨#[c]⟩
def nV (p : Nat × Int) : V × V := (.str (ch p.1), .int p.2)
def cV (p : Int × Int) : V × V := (.int p.1, .int p.2)
structure NOk (ns : List (Nat × Int)) : Prop where
  one : 1 ≤ ns.length
  four : ns.length ≤ 4
  let_ : ∀ p ∈ ns, 97 ≤ p.1 ∧ p.1 ≤ 122
  pl : ∀ p ∈ ns, 0 ≤ p.2 ∧ p.2 ≤ 999
  asc : (ns.map (·.1)).Pairwise (· < ·)
structure COk (cs : List (Int × Int)) : Prop where
  few : cs.length ≤ 400
  pl : ∀ p ∈ cs, 1 ≤ p.1 ∧ p.1 ≤ 999 ∧ 0 ≤ p.2 ∧ p.2 ≤ 999
  asc : (cs.map (·.1)).Pairwise (· < ·)
def numS (i : Int) : Str := Str.ofString (toString i)
def nameW (p : Nat × Int) : Str := ch p.1 ++ Str.ofString "=" ++ numS p.2
def cellW (p : Int × Int) : Str := numS p.1 ++ Str.ofString ">" ++ numS p.2
def sp1 : Str := Str.ofString " "
def nTxt (ns : List (Nat × Int)) : Str := Txt.join sp1 (ns.map nameW)
def cTxt (cs : List (Int × Int)) : Str := if cs = [] then Str.ofString "none" else Txt.join sp1 (cs.map cellW)
def stTxt (ns : List (Nat × Int)) (cs : List (Int × Int)) : Str := nTxt ns ++ Str.ofString " | " ++ cTxt cs
def lTxt (ns : List (Nat × Int)) : Str := Txt.join Str.empty (ns.map fun p => ch p.1)
def goals (ns : List (Nat × Int)) (cs : List (Int × Int)) : List Int := ns.map (·.2) ++ cs.map (·.2)
def lookC (cs : List (Int × Int)) (i : Int) : V := match cs.find? (fun p => decide (p.1 = i)) with
  | some p => .int p.2
  | none => .non
def isC (cs : List (Int × Int)) (i : Int) : Bool := cs.any fun p => decide (p.1 = i)
def goneB (ns : List (Nat × Int)) (cs : List (Int × Int)) (i : Int) : Bool := !decide (i = 0) && (!isC cs i && decide (i ∈ goals ns cs))
/-! ### a store -/
def flds (v u : V) (lt tx : Str) (pd ad ld : Addr) : List (Str × V) :=
  [("names", v), ("cells", u), ("letters", .str lt), ("text", .str tx), ("places", .ref pd), ("arrows", .ref ad), ("led_to", .ref ld)]
def kN (ns : List (Nat × Int)) : List (Key × V) := ns.map fun p => (Sum.inr (ch p.1), V.int p.2)
def kC (cs : List (Int × Int)) : List (Key × V) := cs.map fun p => (Sum.inl p.1, V.int p.2)
structure StoreAt (K : PySem.W.Frag) (C : Addr) (H : Hp) (x : Addr) (v u : V) (ns : List (Nat × Int)) (cs : List (Int × Int)) (dx pd ad ld : Addr) (ks : List (Key × V)) : Prop where
  ob : H x = some (.ins C dx (flds v u (lTxt ns) (stTxt ns cs) pd ad ld))
  nm : TP K H v (ns.map nV)
  ce : TP K H u (cs.map cV)
  pd_ : H pd = some (.dK (kN ns))
  ad_ : H ad = some (.dK (kC cs))
  ld_ : H ld = some (.dK ks)
  led : ∀ i : Int, (valV ks (Sum.inl i : Key)).isSome = decide (i ∈ goals ns cs)
  nok : NOk ns
  cok : COk cs
def St (K : PySem.W.Frag) (C : Addr) (H : Hp) (x : Addr) (ns : List (Nat × Int)) (cs : List (Int × Int)) : Prop := ∃ v u dx pd ad ld ks, StoreAt K C H x v u ns cs dx pd ad ld ks
theorem St.same {K : PySem.W.Frag} {C : Addr} {H H' : Hp} {x : Addr} {ns : List (Nat × Int)} {cs : List (Int × Int)} (e : Same H H') (h : St K C H x ns cs) : St K C H' x ns cs := by
  obtain ⟨v, u, dx, pd, ad, ld, ks, S⟩ := h
  exact ⟨v, u, dx, pd, ad, ld, ks, e _ _ S.ob, S.nm.imm (.of e), S.ce.imm (.of e), e _ _ S.pd_, e _ _ S.ad_, e _ _ S.ld_, S.led, S.nok, S.cok⟩
theorem St.chg {K : PySem.W.Frag} {C j : Addr} {H H' : Hp} {x : Addr} {ns : List (Nat × Int)} {cs : List (Int × Int)} {l : List V} (e : Chg j H H') (hj : H j = some (.lst l)) (h : St K C H x ns cs) : St K C H' x ns cs := by
  obtain ⟨v, u, dx, pd, ad, ld, ks, S⟩ := h
  have im : Imm H H' := e.imm hj trivial
  have n : ∀ {b : Addr} {o : HO}, H b = some o → o ≠ .lst l → H' b = some o := fun q d => e _ _ q (ne_of q hj d)
  exact ⟨v, u, dx, pd, ad, ld, ks, n S.ob (fun z => nomatch z), S.nm.imm im, S.ce.imm im, n S.pd_ (fun z => nomatch z), n S.ad_ (fun z => nomatch z), n S.ld_ (fun z => nomatch z), S.led, S.nok, S.cok⟩
/-! ### promises -/
def JugAt (H : Hp) (j : Addr) : Prop := ∃ g s c : Int, H j = some (.lst [.int g, .int s, .int c]) ∧ -(2 ^ 64) < s ∧ s < 2 ^ 64
section
variable (K : PySem.W.Frag) (C : Addr)
def sp_is_number : Sp := fun vs H Q _ => ∃ (i : Int), vs = [.int i] ∧ Q (.bl true) H
def sp_is_whole : Sp := fun vs H Q _ => ∃ (i : Int) (lo : Int) (hi : Int), vs = [.int i, .int lo, .int hi] ∧ lo ≤ i ∧ i ≤ hi ∧ Q (.bl true) H
def sp_is_place : Sp := fun vs H Q _ => ∃ (i : Int), vs = [.int i] ∧ 0 ≤ i ∧ i ≤ 999 ∧ Q (.bl true) H
def sp_is_letter : Sp := fun vs H Q _ => ∃ (c : Nat), vs = [.str (ch c)] ∧ 97 ≤ c ∧ c ≤ 122 ∧ Q (.bl true) H
def sp_is_tuple_of : Sp := fun vs H Q _ => ∃ (a : Addr) (xs : List V), vs = [.ref a, .int (xs.length : Int)] ∧ SqT K H a xs ∧ Q (.bl true) H
def sp_number_in : Sp := fun vs H Q _ => ∃ i : Int, vs = [.str (numS i), .int 999] ∧ 0 ≤ i ∧ i ≤ 999 ∧ Q (.int i) H
def sp_are_store_names : Sp := fun vs H Q _ => ∃ (v : V) (ns : List (Nat × Int)), vs = [v] ∧ TP K H v (ns.map nV) ∧ NOk ns ∧ Q (.bl true) H
def sp_wrong_cell : Sp := fun vs H Q _ => ∃ (v : V) (cs : List (Int × Int)), vs = [v] ∧ TP K H v (cs.map cV) ∧ COk cs ∧ ∀ (H' : Hp), Same H H' → Q .non H'
def sp_store_text : Sp := fun vs H Q _ => ∃ (v : V) (u : V) (ns : List (Nat × Int)) (cs : List (Int × Int)), vs = [v, u] ∧ TP K H v (ns.map nV) ∧ TP K H u (cs.map cV) ∧ NOk ns ∧ COk cs ∧ ∀ (H' : Hp), Same H H' → Q (.str (stTxt ns cs)) H'
def sp_init : Sp := fun vs H Q _ => ∃ (x : Addr) (dx : Addr) (v : V) (u : V) (ns : List (Nat × Int)) (cs : List (Int × Int)), vs = [.ref x, v, u] ∧ H x = some (.ins C dx []) ∧ TP K H v (ns.map nV) ∧ TP K H u (cs.map cV) ∧ NOk ns ∧ COk cs ∧
  ∀ (H' : Hp), St K C H' x ns cs → Chg x H H' → Q .non H'
def sp_take : Sp := fun vs H Q _ => ∃ (x : Addr) (dx : Addr) (v : V) (u : V) (ns : List (Nat × Int)) (cs : List (Int × Int)), vs = [.ref x, v, u] ∧ H x = some (.ins C dx []) ∧ TP K H v (ns.map nV) ∧ TP K H u (cs.map cV) ∧ NOk ns ∧ COk cs ∧
  ∀ (H' : Hp), St K C H' x ns cs → Chg x H H' → Q .non H'
def sp_eq : Sp := fun vs H Q _ => ∃ (x : Addr) (y : V) (ns : List (Nat × Int)) (cs : List (Int × Int)), vs = [.ref x, y] ∧ St K C H x ns cs ∧
  ((∃ (x' : Addr) (ns' : List (Nat × Int)) (cs' : List (Int × Int)), y = .ref x' ∧ St K C H x' ns' cs' ∧ Q (.bl (decide (ns = ns' ∧ cs = cs'))) H) ∨ (((∃ (z : Str), y = .str z) ∨ (∃ (i : Int), y = .int i) ∨ ∃ (a : Addr) (xs : List V), y = .ref a ∧ SqT K H a xs) ∧ Q (.bl false) H))
def sp_at : Sp := fun vs H Q _ => ∃ (x : Addr) (ns : List (Nat × Int)) (cs : List (Int × Int)) (p : Nat × Int), vs = [.ref x, .str (ch p.1)] ∧ St K C H x ns cs ∧ p ∈ ns ∧ Q (.int p.2) H
def sp_arrow : Sp := fun vs H Q _ => ∃ (x : Addr) (ns : List (Nat × Int)) (cs : List (Int × Int)) (i : Int), vs = [.ref x, .int i] ∧ St K C H x ns cs ∧ 0 ≤ i ∧ i ≤ 999 ∧ Q (lookC cs i) H
def sp_is_gone : Sp := fun vs H Q _ => ∃ (x : Addr) (ns : List (Nat × Int)) (cs : List (Int × Int)) (i : Int), vs = [.ref x, .int i] ∧ St K C H x ns cs ∧ 0 ≤ i ∧ i ≤ 999 ∧ Q (.bl (goneB ns cs i)) H
def sp_name_in : Sp := fun vs H Q _ => ∃ p : Nat × Int, vs = [.str (nameW p)] ∧ 97 ≤ p.1 ∧ p.1 ≤ 122 ∧ 0 ≤ p.2 ∧ p.2 ≤ 999 ∧ ∀ (H' : Hp) (b : Addr), Same H H' → H b = none → H' b = some (.tup [(nV p).1, (nV p).2]) → Q (.ref b) H'
def sp_cell_in : Sp := fun vs H Q _ => ∃ p : Int × Int, vs = [.str (cellW p)] ∧ 0 ≤ p.1 ∧ p.1 ≤ 999 ∧ 0 ≤ p.2 ∧ p.2 ≤ 999 ∧ ∀ (H' : Hp) (b : Addr), Same H H' → H b = none → H' b = some (.tup [(cV p).1, (cV p).2]) → Q (.ref b) H'
def sp_read_store : Sp := fun vs H Q _ => ∃ (ns : List (Nat × Int)) (cs : List (Int × Int)), vs = [.str (stTxt ns cs)] ∧ NOk ns ∧ COk cs ∧ ∀ (H' : Hp) (x : Addr), Same H H' → H x = none → St K C H' x ns cs → Q (.ref x) H'
def sp_store_in : Sp := fun vs H Q _ => ∃ (ns : List (Nat × Int)) (cs : List (Int × Int)), vs = [.str (stTxt ns cs)] ∧ NOk ns ∧ COk cs ∧ ∀ (H' : Hp) (x : Addr), Same H H' → H x = none → St K C H' x ns cs → Q (.ref x) H'
def sp_law_jug : Sp := fun vs H Q _ => ∃ (a : Addr) (ns : List Int) (t : Int), vs = [.ref a, .int t] ∧ SqL K H a (ns.map V.int) ∧ 0 ≤ t ∧ t ≤ 1000 ∧ ns.length ≤ 63 ∧ ∀ (H' : Hp) (j : Addr), Same H H' → H j = none → JugAt H' j → Q (.ref j) H'
def sp_law_take : Sp := fun vs H Q _ => ∃ (j : Addr) (m : Int), vs = [.ref j, .int m] ∧ JugAt H j ∧ 1 ≤ m ∧ m < 1000000 ∧ ∀ (H' : Hp) (k : Int), Chg j H H' → JugAt H' j → 0 ≤ k → k < m → Q (.int k) H'
def sp_law_one_of : Sp := fun vs H Q _ => ∃ (j : Addr) (l : Addr) (xs : List V), vs = [.ref j, .ref l] ∧ JugAt H j ∧ l ≠ j ∧ SqL K H l xs ∧ xs ≠ [] ∧ xs.length < 1000000 ∧ ∀ (H' : Hp) (x : V), Chg j H H' → JugAt H' j → x ∈ xs → Q x H'
def sp_law_letters : Sp := fun vs H Q _ => ∃ (j : Addr) (m : Int), vs = [.ref j, .int m] ∧ JugAt H j ∧ 1 ≤ m ∧ m ≤ 4 ∧ ∀ H' p (cs : List Nat), Chg j H H' → JugAt H' j → H p = none → H' p = some (.lst (cs.map fun c => V.str (ch c))) → (cs.length : Int) = m →
  (∀ c ∈ cs, 97 ≤ c ∧ c ≤ 122) → cs.Pairwise (· < ·) → Q (.ref p) H'
def sp_law_drawn_cells : Sp := fun vs H Q _ => ∃ (j : Addr) (m : Int), vs = [.ref j, .int m] ∧ JugAt H j ∧ 0 ≤ m ∧ m ≤ 30 ∧ ∀ H' t pc pg (rs : List Addr) (cs : List (Int × Int)) (gs : List Int), Chg j H H' → JugAt H' j → H' t = some (.tup [.ref pc, .ref pg]) →
  H pc = none → H' pc = some (.lst (rs.map V.ref)) → Paired (fun b (p : V × V) => SqT K H' b [p.1, p.2]) rs (cs.map cV) → H pg = none → H' pg = some (.lst (gs.map V.int)) → gs ≠ [] → gs.length ≤ 100 → (∀ g ∈ gs, 0 ≤ g ∧ g ≤ 999) → COk cs → cs.length ≤ 30 → Q (.ref t) H'
def sp_law_arrows : Sp := fun vs H Q _ => ∃ (u : V) (cs : List (Int × Int)), vs = [u] ∧ TP K H u (cs.map cV) ∧ COk cs ∧ ∀ (H' : Hp) (d : Addr), Same H H' → H d = none → H' d = some (.dK (kC cs)) → Q (.ref d) H'
def sp_law_turned : Sp := fun vs H Q _ => ∃ (j : Addr) (v : V) (u : V) (g : Addr) (ns : List (Nat × Int)) (cs : List (Int × Int)) (gs : List Int), vs = [.ref j, v, u, .ref g] ∧ JugAt H j ∧ g ≠ j ∧ H g = some (.lst (gs.map V.int)) ∧ gs ≠ [] ∧ gs.length ≤ 100 ∧ (∀ i ∈ gs, 0 ≤ i ∧ i ≤ 999) ∧ TP K H v (ns.map nV) ∧ TP K H u (cs.map cV) ∧ NOk ns ∧ COk cs ∧
  ∀ (H' : Hp) (t : Addr) (v' : V) (u' : V) (ns' : List (Nat × Int)) (cs' : List (Int × Int)), Chg j H H' → JugAt H' j → SqT K H' t [v', u'] → TP K H' v' (ns'.map nV) → TP K H' u' (cs'.map cV) → NOk ns' → COk cs' → Q (.ref t) H'
def sp_law_tells : Sp := fun vs H Q _ => ∃ (x : Addr) (v : V) (u : V) (ns : List (Nat × Int)) (cs : List (Int × Int)), vs = [.ref x, v, u] ∧ St K C H x ns cs ∧ TP K H v (ns.map nV) ∧ TP K H u (cs.map cV) ∧ ∀ (H' : Hp), Same H H' → Q (.bl true) H'
def sp_law_places_right : Sp := fun vs H Q _ => ∃ (x : Addr) (v : V) (u : V) (l : Addr) (ns : List (Nat × Int)) (cs : List (Int × Int)) (ps : List Int), vs = [.ref x, v, u, .ref l] ∧ St K C H x ns cs ∧ TP K H v (ns.map nV) ∧ TP K H u (cs.map cV) ∧ H l = some (.lst (ps.map V.int)) ∧ ps ≠ [] ∧ (∀ i ∈ ps, 0 ≤ i ∧ i ≤ 999) ∧ ∀ (H' : Hp), Same H H' → Q (.bl true) H'
def sp_law_right : Sp := fun vs H Q _ => ∃ (j : Addr), vs = [.ref j] ∧ JugAt H j ∧ ∀ (H' : Hp), Chg j H H' → Q (.bl true) H'
def sp_law : Sp := fun vs H Q _ => ∃ (a : Addr) (ns : List Int), vs = [.ref a] ∧ SqL K H a (ns.map V.int) ∧ ns.length ≤ 63 ∧ ∀ (H' : Hp), Q (.bl true) H'
end
end K1
/-! Walks over anything; texts; small lemmas. -/
namespace K1
open PySem PySem.Spec L2 Z
theorem for_it {J : It} {n : Nat} {g : TG} {tb : TS} {D : Ends} {σ : L2.St} {H : Hp} (Pv : Nat → L2.St → Hp → Prop) (h0 : Pv 0 σ H) (go : ∀ i σ H, i < n → Pv i σ H → J.go i H) (stop : ∀ σ H, Pv n σ H → J.stop n H)
    (hs : ∀ i v σ H H', i < n → Pv i σ H → J.yld i H v H' → g v σ H' fun σ2 H2 => tb { D with nx := Pv (i + 1), ct := Pv (i + 1), bk := D.nx } σ2 H2) (hd : ∀ σ H, Pv n σ H → D.nx σ H) :
    ∃ W : Nat → Nat → L2.St → Hp → Prop, (∃ m, W 0 m σ H) ∧ ∀ i m σ H, W i m σ H →
      (J.stop i H ∧ D.nx σ H) ∨ (J.go i H ∧ ∃ N : L2.St → Hp → Prop, (∀ σ' H', N σ' H' → ∃ m', m' < m ∧ W (i + 1) m' σ' H') ∧ ∀ x H', J.yld i H x H' → g x σ H' fun σ2 H2 => tb { D with nx := N, ct := N, bk := D.nx } σ2 H2) := by
  refine ⟨fun i m σ H => m = n - i ∧ i ≤ n ∧ Pv i σ H, ⟨n, by simp, Nat.zero_le _, h0⟩, ?_⟩
  rintro i m σ H ⟨rfl, hi, p⟩
  by_cases hlt : i < n
  · exact .inr ⟨go i σ H hlt p, Pv (i + 1), fun σ' H' p' => ⟨n - (i + 1), by omega, rfl, hlt, p'⟩, fun x H' y => hs i x σ H H' hlt p y⟩
  · have e : i = n := by omega
    subst e
    exact .inl ⟨stop σ H p, hd σ H p⟩
theorem lc_it {J : It} {n : Nat} {g : TG} {tt : TT} {te : TE} {vs : List Nat} {σ : L2.St} {H1 : Hp} {D : Addr} {Qd : Hp → Prop} (Pv : Nat → Hp → Prop) (h0 : Pv 0 (upd H1 D (.lst []))) (go : ∀ i H, i < n → Pv i H → J.go i H) (stop : ∀ H, Pv n H → J.stop n H)
    (hs : ∀ i x H H', i < n → Pv i H → J.yld i H x H' → g x (wipe σ vs) H' fun σ2 H2 => wipe σ2 vs = wipe σ vs ∧ tt σ2 H2 fun b H3 =>
      if b = true then te σ2 H3 fun y H4 => ∃ acc, H4 D = some (.lst acc) ∧ acc.length < sizeLine ∧ Pv (i + 1) (upd H4 D (.lst (acc ++ [y]))) else Pv (i + 1) H3) (hd : ∀ H, Pv n H → Qd H) :
    ∃ W : Nat → Nat → Hp → Prop, (∃ m, W 0 m (upd H1 D (.lst []))) ∧ ∀ i m H, W i m H →
      (J.stop i H ∧ Qd H) ∨ (J.go i H ∧ ∃ Nx : Hp → Prop, (∀ H', Nx H' → ∃ m', m' < m ∧ W (i + 1) m' H') ∧ ∀ x H', J.yld i H x H' → g x (wipe σ vs) H' fun σ2 H2 => wipe σ2 vs = wipe σ vs ∧ tt σ2 H2 fun b H3 =>
        if b = true then te σ2 H3 fun y H4 => ∃ acc, H4 D = some (.lst acc) ∧ acc.length < sizeLine ∧ Nx (upd H4 D (.lst (acc ++ [y]))) else Nx H3) := by
  refine ⟨fun i m H => m = n - i ∧ i ≤ n ∧ Pv i H, ⟨n, by simp, Nat.zero_le _, h0⟩, ?_⟩
  rintro i m H ⟨rfl, hi, p⟩
  by_cases hlt : i < n
  · exact .inr ⟨go i H hlt p, Pv (i + 1), fun H' p' => ⟨n - (i + 1), by omega, rfl, hlt, p'⟩, fun x H' y => hs i x H H' hlt p y⟩
  · have e : i = n := by omega
    subst e
    exact .inl ⟨stop H p, hd H p⟩
theorem lt_none {c : Nat} : decide ((Str.ofString "").cps.toList < (ch c).cps.toList) = true := by
  have e : (Str.ofString "").cps.toList = [] := by decide +kernel
  rw [e]
  exact decide_eq_true (List.nil_lt_cons _ _)
theorem lt_sign {a c : Nat} (h : a < c) : decide ((ch a).cps.toList < (ch c).cps.toList) = true := decide_eq_true (List.cons_lt_cons_iff.mpr (.inl h))
theorem asc_at {α : Type} {f : α → Nat} {ls : List α} (h : (ls.map f).Pairwise (· < ·)) {i : Nat} {p q : α} (e : ls[i]? = some p) (e2 : ls[i + 1]? = some q) : f p < f q := by
  rw [List.pairwise_map] at h
  obtain ⟨h1, rfl⟩ := List.getElem?_eq_some_iff.mp e
  obtain ⟨h2, rfl⟩ := List.getElem?_eq_some_iff.mp e2
  exact List.pairwise_iff_getElem.mp h _ _ h1 h2 (Nat.lt_succ_self _)
theorem asc_atI {α : Type} {f : α → Int} {ls : List α} (h : (ls.map f).Pairwise (· < ·)) {i : Nat} {p q : α} (e : ls[i]? = some p) (e2 : ls[i + 1]? = some q) : f p < f q := by
  rw [List.pairwise_map] at h
  obtain ⟨h1, rfl⟩ := List.getElem?_eq_some_iff.mp e
  obtain ⟨h2, rfl⟩ := List.getElem?_eq_some_iff.mp e2
  exact List.pairwise_iff_getElem.mp h _ _ h1 h2 (Nat.lt_succ_self _)
theorem map_at {α β : Type} {f : α → β} {ls : List α} {i : Nat} {y : β} (e : (ls.map f)[i]? = some y) : ∃ x, ls[i]? = some x ∧ y = f x := by
  rw [List.getElem?_map] at e
  cases h : ls[i]? with
  | none => rw [h] at e; cases e
  | some x => rw [h] at e; exact ⟨x, rfl, (Option.some.inj e).symm⟩
/-- a comprehension over a tuple of pairs that makes nothing -/
theorem lc_pairs {α : Type} {K : PySem.W.Frag} {rs : List Addr} {ls : List α} {a : Addr} {g : TG} {te : TE} {vs : List Nat} {σ : L2.St} {H1 : Hp} {D : Addr} {Qd : Hp → Prop} (emb : α → V × V) (f : α → V)
    (hT : PT H1 a (rs.map V.ref)) (hp : Paired (fun b (p : V × V) => SqT K H1 b [p.1, p.2]) rs (ls.map emb)) (hD : H1 D = none) (hz : ls.length ≤ 1000)
    (hs : ∀ b p H (R : V → Hp → Prop), Same H1 H → SqT K H b [(emb p).1, (emb p).2] → p ∈ ls → R (f p) H → g (.ref b) (wipe σ vs) H fun σ2 H2 => wipe σ2 vs = wipe σ vs ∧ te σ2 H2 R)
    (hd : ∀ H, Same H1 H → H D = some (.lst (ls.map f)) → Qd H) :
    ∃ W : Nat → Nat → Hp → Prop, (∃ m, W 0 m (upd H1 D (.lst []))) ∧ ∀ i m H, W i m H →
      ((Itt K a).stop i H ∧ Qd H) ∨ ((Itt K a).go i H ∧ ∃ Nx : Hp → Prop, (∀ H', Nx H' → ∃ m', m' < m ∧ W (i + 1) m' H') ∧ ∀ x H', (Itt K a).yld i H x H' → g x (wipe σ vs) H' fun σ2 H2 => wipe σ2 vs = wipe σ vs ∧ tYes σ2 H2 fun b H3 =>
        if b = true then te σ2 H3 fun y H4 => ∃ acc, H4 D = some (.lst acc) ∧ acc.length < sizeLine ∧ Nx (upd H4 D (.lst (acc ++ [y]))) else Nx H3) := by
  have hl : rs.length = ls.length := by rw [Paired.len hp, List.length_map]
  refine lc_tup (xs := rs.map V.ref) (fun i H => Same H1 H ∧ H D = some (.lst ((ls.take i).map f))) ⟨same_new hD, upd_same⟩ (fun i H _ h => (PT.same h.1 hT).sq) (fun i x H hx h => ?_) (fun H h => hd H h.1 ?_)
  · obtain ⟨sm, hDl⟩ := h
    obtain ⟨b, p, rfl, e1, e2, hq⟩ := pairs_at (Paired.imm (.of sm) hp) hx
    obtain ⟨q, e3, rfl⟩ := map_at e2
    have hi : i < ls.length := (List.getElem?_eq_some_iff.mp e3).1
    refine hs b q H (fun y H4 => ∃ acc, H4 D = some (.lst acc) ∧ acc.length < sizeLine ∧ Same H1 (upd H4 D (.lst (acc ++ [y]))) ∧ upd H4 D (.lst (acc ++ [y])) D = some (.lst ((ls.take (i + 1)).map f))) sm hq (List.mem_of_getElem? e3) ⟨_, hDl, ?_, fun c o e => ?_, ?_⟩
    · rw [List.length_map, List.length_take]
      exact small1000 (by omega)
    · have nb : c ≠ D := ne_of_none e hD
      rw [upd_ne nb]
      exact sm _ _ e
    · rw [upd_same, List.take_add_one, e3, List.map_append]
      rfl
  · have := h.2
    rw [List.length_map, hl, List.take_length] at this
    exact this
theorem lcP {α : Type} {K : PySem.W.Frag} {rs : List Addr} {ls : List α} {a : Addr} {i : Nat} {g : TG} {te : TE} {vs : List Nat} {σ : L2.St} {H : Hp} {Q : VK} (emb : α → V × V) (f : α → V) (hv : σ[i]? = some (some (.ref a)))
    (hT : PT H a (rs.map V.ref)) (hp : Paired (fun b (p : V × V) => SqT K H b [p.1, p.2]) rs (ls.map emb)) (hz : ls.length ≤ 1000)
    (hs : ∀ b p H' (R : V → Hp → Prop), Same H H' → SqT K H' b [(emb p).1, (emb p).2] → p ∈ ls → R (f p) H' → g (.ref b) (wipe σ vs) H' fun σ2 H2 => wipe σ2 vs = wipe σ vs ∧ te σ2 H2 R)
    (hd : ∀ H' D, Same H H' → H D = none → H' D = some (.lst (ls.map f)) → Q (.ref D) H') : tLc (iTup K (tVar i)) g tYes te vs σ H Q :=
  ⟨_, hv, a, rfl, ⟨_, hT.sq⟩, fun D hD => lc_pairs emb f hT hp hD hz hs fun H' sm hl => hd H' D sm hD hl⟩
/-- a walk over a tuple of pairs -/
theorem for_pairs {K : PySem.W.Frag} {rs : List Addr} {ls : List (V × V)} {a : Addr} {g : TG} {tb : TS} {D : Ends} {σ : L2.St} {H H0 : Hp} (Pv : Nat → L2.St → Hp → Prop) (h0 : Pv 0 σ H)
    (hT : PT H0 a (rs.map V.ref)) (hp : Paired (fun b (p : V × V) => SqT K H0 b [p.1, p.2]) rs ls) (hI : ∀ i σ H, Pv i σ H → Imm H0 H)
    (hs : ∀ i b p σ H, rs[i]? = some b → ls[i]? = some p → SqT K H b [p.1, p.2] → Pv i σ H → g (.ref b) σ H fun σ2 H2 => tb { D with nx := Pv (i + 1), ct := Pv (i + 1), bk := D.nx } σ2 H2) (hd : ∀ σ H, Pv ls.length σ H → D.nx σ H) :
    ∃ W : Nat → Nat → L2.St → Hp → Prop, (∃ m, W 0 m σ H) ∧ ∀ i m σ H, W i m σ H →
      ((Itt K a).stop i H ∧ D.nx σ H) ∨ ((Itt K a).go i H ∧ ∃ N : L2.St → Hp → Prop, (∀ σ' H', N σ' H' → ∃ m', m' < m ∧ W (i + 1) m' σ' H') ∧ ∀ x H', (Itt K a).yld i H x H' → g x σ H' fun σ2 H2 => tb { D with nx := N, ct := N, bk := D.nx } σ2 H2) := by
  have hl : rs.length = ls.length := Paired.len hp
  refine for_it (n := ls.length) Pv h0 (fun i σ H hi p => ⟨rs.map V.ref, (rs.map V.ref)[i]'(by simpa using hl ▸ hi), (PT.imm (hI _ _ _ p) hT).sq, List.getElem?_eq_getElem _⟩) (fun σ H p => ⟨rs.map V.ref, (PT.imm (hI _ _ _ p) hT).sq, by simp [hl]⟩) (fun i v σ H H' hi p y => ?_) hd
  obtain ⟨rfl, y⟩ := y
  obtain ⟨b, q, rfl, e1, e2, hq⟩ := pairs_at (Paired.imm (hI _ _ _ p) hp) (y _ (PT.imm (hI _ _ _ p) hT).sq)
  exact hs i b q σ H' e1 e2 hq p
/-- the same, each with its place -/
theorem for_enumP {K : PySem.W.Frag} {rs : List Addr} {ls : List (V × V)} {a : Addr} {g : TG} {tb : TS} {D : Ends} {σ : L2.St} {H H0 : Hp} (Pv : Nat → L2.St → Hp → Prop) (h0 : Pv 0 σ H)
    (hT : PT H0 a (rs.map V.ref)) (hp : Paired (fun b (p : V × V) => SqT K H0 b [p.1, p.2]) rs ls) (hI : ∀ i σ H, Pv i σ H → Same H0 H)
    (hs : ∀ i b p σ H t, rs[i]? = some b → ls[i]? = some p → SqT K H b [p.1, p.2] → Pv i σ H → H t = none → g (.ref t) σ (upd H t (.tup [.int (i : Nat), .ref b])) fun σ2 H2 => tb { D with nx := Pv (i + 1), ct := Pv (i + 1), bk := D.nx } σ2 H2) (hd : ∀ σ H, Pv ls.length σ H → D.nx σ H) :
    ∃ W : Nat → Nat → L2.St → Hp → Prop, (∃ m, W 0 m σ H) ∧ ∀ i m σ H, W i m σ H →
      ((IteT K a).stop i H ∧ D.nx σ H) ∨ ((IteT K a).go i H ∧ ∃ N : L2.St → Hp → Prop, (∀ σ' H', N σ' H' → ∃ m', m' < m ∧ W (i + 1) m' σ' H') ∧ ∀ x H', (IteT K a).yld i H x H' → g x σ H' fun σ2 H2 => tb { D with nx := N, ct := N, bk := D.nx } σ2 H2) := by
  have hl : rs.length = ls.length := Paired.len hp
  refine for_it (n := ls.length) Pv h0 (fun i σ H hi p => ⟨rs.map V.ref, (rs.map V.ref)[i]'(by simpa using hl ▸ hi), (PT.same (hI _ _ _ p) hT).sq, List.getElem?_eq_getElem _⟩) (fun σ H p => ⟨rs.map V.ref, (PT.same (hI _ _ _ p) hT).sq, by simp [hl]⟩) (fun i v σ H H' hi p y => ?_) hd
  obtain ⟨t, x, rfl, hn, rfl, y⟩ := y
  obtain ⟨b, q, rfl, e1, e2, hq⟩ := pairs_at (Paired.imm (.of (hI _ _ _ p)) hp) (y _ (PT.same (hI _ _ _ p) hT).sq)
  exact hs i b q σ H t e1 e2 hq p hn
/-! ### numbers as texts -/
theorem numS_nat {i : Int} (h : 0 ≤ i) : numS i = Str.ofString (toString ((i.toNat : Nat) : Int)) := by
  unfold numS
  rw [Int.toNat_of_nonneg h]
theorem tl_numS {i : Int} (h : 0 ≤ i) : TL.tl (numS i) = TL.numL i.toNat := by
  rw [numS_nat h]
  exact TL.tl_num _
theorem num_facts : ∀ n : Fin 1000, (TL.numL n.val).length ≤ 3 ∧ TL.numL n.val ≠ [] ∧ (TL.numL n.val = [48] ∨ (TL.numL n.val)[0]? ≠ some 48) := by decide +kernel
theorem num_len {i : Int} (h : 0 ≤ i) (h2 : i ≤ 999) : (numS i).length ≤ 3 := by
  rw [TL.len_tl, tl_numS h]
  exact (num_facts ⟨i.toNat, by omega⟩).1
theorem num_pos {i : Int} (h : 0 ≤ i) (h2 : i ≤ 999) : 1 ≤ (numS i).length := by
  rw [TL.len_tl, tl_numS h]
  have := (num_facts ⟨i.toNat, by omega⟩).2.1
  exact List.length_pos_iff.mpr this
theorem digit_in {c : Nat} (h1 : 48 ≤ c) (h2 : c ≤ 57) : decide (c ∈ (Str.ofString "0123456789").cps.toList) = true := by
  have e : (Str.ofString "0123456789").cps.toList = (List.range 10).map (· + 48) := by decide +kernel
  rw [e]
  exact decide_eq_true (List.mem_map.mpr ⟨c - 48, List.mem_range.mpr (by omega), by omega⟩)
theorem letter_in {c : Nat} (h1 : 97 ≤ c) (h2 : c ≤ 122) : decide (c ∈ (Str.ofString "abcdefghijklmnopqrstuvwxyz").cps.toList) = true := by
  have e : (Str.ofString "abcdefghijklmnopqrstuvwxyz").cps.toList = (List.range 26).map (· + 97) := by decide +kernel
  rw [e]
  exact decide_eq_true (List.mem_map.mpr ⟨c - 97, List.mem_range.mpr (by omega), by omega⟩)
theorem num_int {i : Int} (h : 0 ≤ i) (h2 : i ≤ 999) : PySem.intText? (numS i) = some i := by
  rw [numS_nat h, TL.int_num, Int.toNat_of_nonneg h]
  exact Nat.le_trans (num_facts ⟨i.toNat, by omega⟩).1 (by decide)
theorem num_log {i : Int} (h : 0 ≤ i) (h2 : i ≤ 999) : i.natAbs.log2 < 1920 := by
  have e : i.natAbs.log2 ≤ i.natAbs := Nat.log2_le_self _
  omega
theorem str_ne {x y : Str} (h : TL.tl x ≠ TL.tl y) : decide (V.str x = V.str y) = false := decide_eq_false fun e => h (by cases e; rfl)
theorem z0_tl : TL.tl (Str.ofString "0") = [48] := by decide +kernel
theorem e_tl : TL.tl (Str.ofString "") = [] := by decide +kernel
theorem n999 : (Str.ofString (toString (999 : Int))).length = 3 := by decide +kernel
theorem num_dig {i : Int} (h : 0 ≤ i) : ∀ c ∈ TL.tl (numS i), 48 ≤ c ∧ c ≤ 57 := fun c hc => by
  rw [tl_numS h] at hc
  refine ⟨?_, ?_⟩
  · by_cases z : c < 48
    · exact absurd hc (TL.numL_free (.inl z))
    · omega
  · by_cases z : 57 < c
    · exact absurd hc (TL.numL_free (.inr z))
    · omega
theorem num_head {i : Int} (h : 0 ≤ i) (h2 : i ≤ 999) : ∃ c t, TL.tl (numS i) = c :: t ∧ (c = 48 → numS i = Str.ofString "0") := by
  have F := num_facts ⟨i.toNat, by omega⟩
  have e := tl_numS h
  rcases hx : TL.tl (numS i) with _ | ⟨c, t⟩
  · exact absurd (e.symm.trans hx) F.2.1
  · refine ⟨c, t, rfl, fun z => ?_⟩
    subst z
    have hx2 := e.symm.trans hx
    rcases F.2.2 with q | q
    · apply TL.ext_tl
      rw [z0_tl, e]
      exact q
    · exact absurd (by rw [hx2]; rfl) q
theorem at_nat {α : Type} {xs : List α} {i : Nat} {x : α} (h : xs[i]? = some x) : atI xs (i : Int) = some x := by
  have hi : i < xs.length := (List.getElem?_eq_some_iff.mp h).1
  have e : ixN xs.length (i : Int) = some i := by
    unfold ixN
    rw [if_pos (by omega), if_pos (by omega)]
    rfl
  show (ixN xs.length (i : Int)).bind _ = _
  rw [e]
  exact h
theorem at_first {α : Type} {xs : List α} {x : α} : atI (x :: xs) 0 = some x := at_nat (i := 0) rfl
theorem at_snd {α : Type} {xs : List α} {x y : α} : atI (x :: y :: xs) 1 = some y := at_nat (i := 1) rfl
theorem asc_uniq {α β : Type} {f : α → β} {R : β → β → Prop} (irr : ∀ b, ¬ R b b) : ∀ {ls : List α}, (ls.map f).Pairwise R → ∀ {p q : α}, p ∈ ls → q ∈ ls → f p = f q → p = q
  | x :: t, h, p, q, hp, hq, e => by
    rw [List.map_cons, List.pairwise_cons] at h
    rcases List.mem_cons.mp hp with rfl | hp' <;> rcases List.mem_cons.mp hq with rfl | hq'
    · rfl
    · exact absurd (e ▸ h.1 (f q) (List.mem_map_of_mem hq')) (irr _)
    · exact absurd (e ▸ h.1 (f p) (List.mem_map_of_mem hp')) (irr _)
    · exact asc_uniq irr h.2 hp' hq' e
theorem val_n {ns : List (Nat × Int)} (ok : NOk ns) {p : Nat × Int} (h : p ∈ ns) : valV (kN ns) (Sum.inr (ch p.1) : Key) = some (.int p.2) := by
  unfold valV kN
  rw [List.find?_map]
  cases hf : ns.find? ((fun kv : Key × V => decide (kv.1 = Sum.inr (ch p.1))) ∘ fun p => (Sum.inr (ch p.1), V.int p.2)) with
  | none =>
    have := List.find?_eq_none.mp hf p h
    simp at this
  | some q =>
    have h1 := List.find?_some hf
    have h2 := List.mem_of_find?_eq_some hf
    have e : q.1 = p.1 := by
      simp only [Function.comp, decide_eq_true_eq, Sum.inr.injEq] at h1
      have := congrArg (fun s : Str => s.cps.toList) h1
      simpa [ch] using this
    have := asc_uniq (f := fun p : Nat × Int => p.1) (fun b => Nat.lt_irrefl b) ok.asc h2 h e
    subst this
    rfl
theorem find_c (cs : List (Int × Int)) (i : Int) : valV (kC cs) (Sum.inl i : Key) = (cs.find? fun p => decide (p.1 = i)).map fun p => V.int p.2 := by
  unfold valV kC
  rw [List.find?_map, Option.map_map]
  have e : ((fun kv : Key × V => decide (kv.1 = Sum.inl i)) ∘ fun p : Int × Int => ((Sum.inl p.1 : Key), V.int p.2)) = fun p => decide (p.1 = i) := by
    funext p
    simp
  rw [e]
  rfl
theorem look_c (cs : List (Int × Int)) (i : Int) : (valV (kC cs) (Sum.inl i : Key)).getD .non = lookC cs i := by
  rw [find_c]
  unfold lookC
  cases cs.find? fun p => decide (p.1 = i) <;> rfl
theorem some_c (cs : List (Int × Int)) (i : Int) : (valV (kC cs) (Sum.inl i : Key)).isSome = isC cs i := by
  rw [find_c, Option.isSome_map]
  unfold isC
  rw [Bool.eq_iff_iff, List.find?_isSome, List.any_eq_true]
theorem ch_len (c : Nat) : (ch c).length = 1 := rfl
theorem len_app (a b : Str) : (a ++ b).length = a.length + b.length := by
  rw [TL.len_tl, TL.len_tl, TL.len_tl, TL.tl_append, List.length_append]
theorem emp_app (a : Str) : Str.empty ++ a = a := TL.ext_tl (by rw [TL.tl_append]; rfl)
theorem nameW_len {p : Nat × Int} (h : 0 ≤ p.2) (h2 : p.2 ≤ 999) : (nameW p).length ≤ 5 := by
  have := num_len h h2
  have e : (Str.ofString "=").length = 1 := by decide +kernel
  unfold nameW
  rw [len_app, len_app, ch_len, e]
  omega
theorem cellW_len {p : Int × Int} (h : 0 ≤ p.1) (h2 : p.1 ≤ 999) (h3 : 0 ≤ p.2) (h4 : p.2 ≤ 999) : (cellW p).length ≤ 7 := by
  have a := num_len h h2
  have b := num_len h3 h4
  have e : (Str.ofString ">").length = 1 := by decide +kernel
  unfold cellW
  rw [len_app, len_app, e]
  omega
theorem eq1_len : (Str.ofString "=").length = 1 := by decide +kernel
theorem gt1_len : (Str.ofString ">").length = 1 := by decide +kernel
theorem sp1_len : (Str.ofString " ").length = 1 := by decide +kernel
theorem bar_len : (Str.ofString " | ").length = 3 := by decide +kernel
theorem none_len : (Str.ofString "none").length = 4 := by decide +kernel
theorem nameW_eq (p : Nat × Int) : Str.empty ++ ch p.1 ++ Str.ofString "=" ++ Str.ofString (toString p.2) = nameW p := by
  rw [emp_app]
  rfl
theorem cellW_eq (p : Int × Int) : Str.empty ++ Str.ofString (toString p.1) ++ Str.ofString ">" ++ Str.ofString (toString p.2) = cellW p := by
  rw [emp_app]
  rfl
theorem sum_len {k : Nat} : ∀ {ys : List Str}, (∀ y ∈ ys, y.length ≤ k) → (ys.map fun x => x.length).sum ≤ k * ys.length
  | [], _ => by simp
  | y :: t, h => by
    have := sum_len (ys := t) fun z hz => h z (List.mem_cons_of_mem _ hz)
    have h1 := h y List.mem_cons_self
    rw [List.map_cons, List.sum_cons, List.length_cons, Nat.mul_succ]
    omega
theorem tl_glue (y : Str) (l : List Str) : TL.tl (Txt.join y l) = TL.joinL (TL.tl y) (l.map TL.tl) := by
  rw [TL.join_eq, TL.tl_join]
theorem joinL_len {k : Nat} {S : List Nat} : ∀ {l : List (List Nat)}, (∀ y ∈ l, y.length ≤ k) → (TL.joinL S l).length ≤ (k + S.length) * l.length
  | [], _ => by simp [TL.joinL]
  | [y], h => by
    have := h y List.mem_cons_self
    simp only [TL.joinL, List.length_cons, List.length_nil]
    omega
  | y :: z :: t, h => by
    have h1 := h y List.mem_cons_self
    have h2 := joinL_len (S := S) (l := z :: t) fun q hq => h q (List.mem_cons_of_mem _ hq)
    simp only [TL.joinL, List.length_append, List.length_cons, Nat.mul_succ] at h2 ⊢
    omega
theorem glue_len {k : Nat} {y : Str} {l : List Str} (h : ∀ z ∈ l, z.length ≤ k) : (Txt.join y l).length ≤ (k + y.length) * l.length := by
  have := joinL_len (k := k) (S := TL.tl y) (l := l.map TL.tl) fun z hz => by
    obtain ⟨q, hq, rfl⟩ := List.mem_map.mp hz
    rw [← TL.len_tl]
    exact h q hq
  rw [TL.len_tl, tl_glue, TL.len_tl y]
  rw [List.length_map] at this
  exact this
theorem nTxt_len {ns : List (Nat × Int)} (ok : NOk ns) : (nTxt ns).length ≤ 24 := by
  have h := glue_len (k := 5) (y := sp1) (l := ns.map nameW) fun y hy => by
    obtain ⟨p, hp, rfl⟩ := List.mem_map.mp hy
    exact nameW_len (ok.pl p hp).1 (ok.pl p hp).2
  have e : sp1.length = 1 := sp1_len
  have := ok.four
  rw [List.length_map, e] at h
  unfold nTxt
  omega
theorem cs_le {cs : List (Int × Int)} (ok : COk cs) : ∀ y ∈ cs.map cellW, y.length ≤ 7 := fun y hy => by
  obtain ⟨p, hp, rfl⟩ := List.mem_map.mp hy
  obtain ⟨a, b, c, d⟩ := ok.pl p hp
  exact cellW_len (by omega) b c d
theorem cTxt_len {cs : List (Int × Int)} (ok : COk cs) : (cTxt cs).length ≤ 3204 := by
  have h := glue_len (k := 7) (y := sp1) (l := cs.map cellW) (cs_le ok)
  have e : sp1.length = 1 := sp1_len
  have := ok.few
  have e2 := none_len
  rw [List.length_map, e] at h
  unfold cTxt
  split
  · omega
  · omega
theorem glue_nil {y : Str} : Txt.join y [] = Str.empty := TL.ext_tl (by rw [tl_glue]; rfl)
theorem glue_pos {k : Nat} {S : List Nat} : ∀ {l : List (List Nat)}, l ≠ [] → (∀ y ∈ l, 1 ≤ y.length) → 1 ≤ (TL.joinL S l).length
  | [y], _, h => h y List.mem_cons_self
  | y :: z :: t, _, h => by
    have h1 := h y List.mem_cons_self
    simp only [TL.joinL, List.length_append]
    omega
theorem cells_pos {cs : List (Int × Int)} (h : cs ≠ []) : 1 ≤ (Txt.join sp1 (cs.map cellW)).length := by
  rw [TL.len_tl, tl_glue]
  refine glue_pos (k := 0) (by simpa using h) fun y hy => ?_
  obtain ⟨q, hq, rfl⟩ := List.mem_map.mp hy
  obtain ⟨p, hp, rfl⟩ := List.mem_map.mp hq
  rw [← TL.len_tl]
  unfold cellW
  rw [len_app, len_app, gt1_len]
  omega
theorem none_of {H H' : Hp} {b : Addr} (e : Same H H') (h : H' b = none) : H b = none := by
  cases q : H b with
  | none => rfl
  | some o => rw [e _ _ q] at h; cases h
theorem sl_le {n : Nat} (h : n ≤ 100000) : n ≤ sizeLine := by
  rw [sizeLine_eq]
  omega
end K1
/-! Data: what it shows, when it is alike. -/
namespace K1
open PySem PySem.Spec L2 Z
def nP (p : Nat × Int) : PyData := .tuple [.str (ch p.1), .int p.2]
def cP (p : Int × Int) : PyData := .tuple [.int p.1, .int p.2]
def nD (ns : List (Nat × Int)) : PyData := .tuple (ns.map nP)
def cD (cs : List (Int × Int)) : PyData := .tuple (cs.map cP)
theorem dp_pairs {α : Type} {K : PySem.W.Frag} {H : Hp} {emb : α → V × V} {dat : α → PyData} (go : ∀ b p, SqT K H b [(emb p).1, (emb p).2] → Dp K H (.ref b) (dat p)) :
    ∀ {rs : List Addr} {ls : List α}, Paired (fun b (p : V × V) => SqT K H b [p.1, p.2]) rs (ls.map emb) → DpAll K H (rs.map V.ref) (ls.map dat)
  | [], [], _ => .nil
  | _ :: _, _ :: _, .cons h t => .cons (go _ _ h) (dp_pairs go t)
theorem dp_n {K : PySem.W.Frag} {H : Hp} {v : V} {ns : List (Nat × Int)} (h : TP K H v (ns.map nV)) : Dp K H v (nD ns) := by
  obtain ⟨a, rs, rfl, ht, hp⟩ := h
  exact .tup ht.sq (dp_pairs (dat := nP) (fun b p q => .tup q (.cons (.str _) (.cons (.int _) .nil))) hp)
theorem dp_c {K : PySem.W.Frag} {H : Hp} {v : V} {cs : List (Int × Int)} (h : TP K H v (cs.map cV)) : Dp K H v (cD cs) := by
  obtain ⟨a, rs, rfl, ht, hp⟩ := h
  exact .tup ht.sq (dp_pairs (dat := cP) (fun b p q => .tup q (.cons (.int _) (.cons (.int _) .nil))) hp)
theorem dp_ints {K : PySem.W.Frag} {H : Hp} : ∀ xs : List Int, DpAll K H (xs.map V.int) (xs.map PyData.int)
  | [] => .nil
  | _ :: t => .cons (.int _) (dp_ints t)
theorem eqv_all {α : Type} [DecidableEq α] {dat : α → PyData} (go : ∀ a b, (dat a).eqv (dat b) = decide (a = b)) : ∀ l m : List α, PyData.eqvAll (l.map dat) (m.map dat) = decide (l = m)
  | [], [] => by simp [PyData.eqvAll]
  | [], _ :: _ => by simp [PyData.eqvAll]
  | _ :: _, [] => by simp [PyData.eqvAll]
  | a :: l, b :: m => by
    rw [List.map_cons, List.map_cons, PyData.eqvAll, go, eqv_all go l m, Bool.eq_iff_iff]
    simp
theorem ch_inj {a b : Nat} : (ch a == ch b) = decide (a = b) := by
  rw [Bool.eq_iff_iff]
  simp only [beq_iff_eq, decide_eq_true_eq]
  refine ⟨fun e => ?_, fun e => by rw [e]⟩
  have := congrArg (fun s : Str => s.cps.toList) e
  simpa [ch] using this
theorem eqv_n (l m : List (Nat × Int)) : (nD l).eqv (nD m) = decide (l = m) := by
  refine Eq.trans (by simp only [nD, PyData.eqv]) (eqv_all (dat := nP) (fun a b => ?_) l m)
  simp only [nP, PyData.eqv, PyData.eqvAll, ch_inj, Bool.and_true]
  rw [Bool.eq_iff_iff]
  simp only [Bool.and_eq_true, decide_eq_true_eq, beq_iff_eq]
  exact ⟨fun h => Prod.ext h.1 h.2, fun h => by rw [h]; exact ⟨rfl, rfl⟩⟩
theorem eqv_c (l m : List (Int × Int)) : (cD l).eqv (cD m) = decide (l = m) := by
  refine Eq.trans (by simp only [cD, PyData.eqv]) (eqv_all (dat := cP) (fun a b => ?_) l m)
  simp only [cP, PyData.eqv, PyData.eqvAll, Bool.and_true]
  rw [Bool.eq_iff_iff]
  simp only [Bool.and_eq_true, decide_eq_true_eq, beq_iff_eq]
  exact ⟨fun h => Prod.ext h.1 h.2, fun h => by rw [h]; exact ⟨rfl, rfl⟩⟩
/-- small: what it shows, how deep it is -/
structure Fit (d : PyData) (n m : Nat) : Prop where
  len : d.shown.length ≤ n
  ok : d.showable = true
  nod : d.hasDict = false
  dep : d.depth ≤ m
theorem fit_le {d : PyData} {n m n' m' : Nat} (h : Fit d n m) (a : n ≤ n') (b : m ≤ m') : Fit d n' m' := ⟨Nat.le_trans h.len a, h.ok, h.nod, Nat.le_trans h.dep b⟩
theorem fit_non : Fit .none 5 0 := ⟨by decide +kernel, rfl, rfl, Nat.le_refl _⟩
theorem fit_bl (b : Bool) : Fit (.bool b) 5 0 := ⟨by cases b <;> decide +kernel, rfl, rfl, Nat.le_refl _⟩
theorem fit_int {i : Int} (h : 0 ≤ i) (h2 : i ≤ 999) : Fit (.int i) 5 0 := ⟨by
  have := num_len h h2
  show (Str.ofString (toString i)).length ≤ 5
  unfold numS at this
  omega, by show decide _ = true; exact decide_eq_true (num_log h h2), rfl, Nat.le_refl _⟩
theorem fit_str {x : Str} {n : Nat} (h : ∀ c ∈ TL.tl x, c < 16 ^ 8) (hn : x.length ≤ n) : Fit (.str x) (10 * n + 2) 0 := ⟨by
  have := StrLaws.reprText_len x h
  show (reprText x).length ≤ _
  omega, rfl, rfl, Nat.le_refl _⟩
theorem fit_all {k m : Nat} : ∀ {ds : List PyData}, (∀ d ∈ ds, Fit d k m) → ((PyData.shownAll ds).map (·.length)).sum ≤ k * ds.length ∧ (PyData.shownAll ds).length = ds.length ∧ PyData.showableAll ds = true ∧ PyData.hasDictAll ds = false ∧ PyData.depthAll ds ≤ m
  | [], _ => ⟨by simp [PyData.shownAll], by simp [PyData.shownAll], by simp [PyData.showableAll], by simp [PyData.hasDictAll], by simp [PyData.depthAll]⟩
  | d :: t, h => by
    obtain ⟨a, b, c, e, f⟩ := fit_all (ds := t) fun x hx => h x (List.mem_cons_of_mem _ hx)
    have q := h d List.mem_cons_self
    have q1 := q.len
    have q4 := q.dep
    refine ⟨?_, ?_, ?_, ?_, ?_⟩
    · simp only [PyData.shownAll, List.map_cons, List.sum_cons, List.length_cons, Nat.mul_succ]
      omega
    · simp only [PyData.shownAll, List.length_cons, b]
    · simp only [PyData.showableAll, q.ok, c, Bool.and_true]
    · simp only [PyData.hasDictAll, q.nod, e, Bool.or_false]
    · simp only [PyData.depthAll]
      omega
theorem fit_list {k m : Nat} {ds : List PyData} (h : ∀ d ∈ ds, Fit d k m) : Fit (.list ds) ((k + 2) * ds.length + 3) (m + 1) := by
  obtain ⟨a, b, c, e, f⟩ := fit_all h
  have l := listText_len_le (PyData.shownAll ds)
  refine ⟨?_, ?_, ?_, ?_⟩
  · simp only [PyData.shown]
    rw [b] at l
    rw [Nat.add_mul]
    omega
  · simp only [PyData.showable, c]
  · simp only [PyData.hasDict, e]
  · simp only [PyData.depth]
    omega
theorem piled_sum (ts : List Str) : piled ts = (ts.map (·.length)).sum + 2 * ts.length := by
  induction ts with
  | nil => rfl
  | cons t r ih => rw [piled_cons, ih, List.map_cons, List.sum_cons, List.length_cons]; omega
theorem tup_len (ts : List Str) : (tupleText ts).length ≤ (ts.map (·.length)).sum + 2 * ts.length + 3 := by
  unfold tupleText
  rw [len_app, len_app]
  have e1 : (("(" : Str)).length = 1 := by decide +kernel
  have e2 : ((if ts.length == 1 then ",)" else ")" : String) : Str).length ≤ 2 := by
    split <;> decide +kernel
  rw [e1]
  rcases ts with _ | ⟨t, r⟩
  · have e3 : (Str.join ", " ([] : List Str)).length = 0 := rfl
    rw [e3]
    omega
  · have := join_length_add (t :: r) (by simp)
    rw [piled_sum] at this
    omega
theorem fit_tup {k m : Nat} {ds : List PyData} (h : ∀ d ∈ ds, Fit d k m) : Fit (.tuple ds) ((k + 2) * ds.length + 3) (m + 1) := by
  obtain ⟨a, b, c, e, f⟩ := fit_all h
  have l := tup_len (PyData.shownAll ds)
  refine ⟨?_, ?_, ?_, ?_⟩
  · simp only [PyData.shown]
    rw [b] at l
    rw [Nat.add_mul]
    omega
  · simp only [PyData.showable, c]
  · simp only [PyData.hasDict, e]
  · simp only [PyData.depth]
    omega
theorem ch_small {c : Nat} (h : c ≤ 122) : ∀ d ∈ TL.tl (ch c), d < 16 ^ 8 := fun d hd => by
  have : d = c := by simpa [ch] using hd
  subst this
  exact Nat.lt_of_le_of_lt h (by decide)
theorem fit_n {ns : List (Nat × Int)} (ok : NOk ns) : Fit (nD ns) 135 2 := by
  have h := fit_tup (k := 31) (m := 1) (ds := ns.map nP) fun d hd => by
    obtain ⟨p, hp, rfl⟩ := List.mem_map.mp hd
    refine fit_le (fit_tup (k := 12) (m := 0) fun d hd => ?_) (show (12 + 2) * 2 + 3 ≤ 31 by decide) (by decide)
    rcases List.mem_cons.mp hd with rfl | hd
    · exact fit_str (n := 1) (ch_small (ok.let_ p hp).2) (Nat.le_refl _)
    · rcases List.mem_cons.mp hd with rfl | hd
      · exact fit_le (fit_int (ok.pl p hp).1 (ok.pl p hp).2) (by decide) (by decide)
      · cases hd
  have := ok.four
  rw [List.length_map] at h
  have e : (31 + 2) * ns.length + 3 ≤ 135 := by omega
  exact fit_le h e (by decide)
theorem fit_c {cs : List (Int × Int)} (ok : COk cs) : Fit (cD cs) 7603 2 := by
  have h := fit_tup (k := 17) (m := 1) (ds := cs.map cP) fun d hd => by
    obtain ⟨p, hp, rfl⟩ := List.mem_map.mp hd
    obtain ⟨a, b, c, e⟩ := ok.pl p hp
    refine fit_le (fit_tup (k := 5) (m := 0) fun d hd => ?_) (show (5 + 2) * 2 + 3 ≤ 17 by decide) (by decide)
    rcases List.mem_cons.mp hd with rfl | hd
    · exact fit_int (by omega) b
    · rcases List.mem_cons.mp hd with rfl | hd
      · exact fit_int c e
      · cases hd
  have := ok.few
  rw [List.length_map] at h
  have e : (17 + 2) * cs.length + 3 ≤ 7603 := by omega
  exact fit_le h e (by decide)
theorem shaped_all {α : Type} {dat : α → PyData} (go : ∀ a, (dat a).canLay0 = true) : ∀ l : List α, PyData.canLayAll0 (l.map dat) = true
  | [] => by simp [PyData.canLayAll0]
  | a :: t => by rw [List.map_cons, PyData.canLayAll0, go, shaped_all go t]; rfl
theorem shape_n {ns : List (Nat × Int)} (ok : NOk ns) : SeqAt.shaped (nD ns) = true := by
  have e1 : ∀ l : List (Nat × Int), (∀ p ∈ l, p.1 ≤ 122) → PyData.canLayAll0 (l.map nP) = true := by
    intro l
    induction l with
    | nil => intro _; simp [PyData.canLayAll0]
    | cons p t ih =>
      intro h
      have h1 := h p List.mem_cons_self
      have : PyData.strOk (ch p.1) = true := by
        show (#[p.1] : Array Nat).all (· < 0x110000) = true
        simp
        omega
      simp only [List.map_cons, PyData.canLayAll0, nP, PyData.canLay0, this, ih fun q hq => h q (List.mem_cons_of_mem _ hq), Bool.and_true]
  have e2 := (fit_n ok).dep
  unfold SeqAt.shaped
  rw [Bool.and_eq_true, decide_eq_true_eq]
  refine ⟨?_, by omega⟩
  simp only [nD, PyData.canLay0]
  exact e1 ns fun p hp => (ok.let_ p hp).2
theorem shape_c {cs : List (Int × Int)} (ok : COk cs) : SeqAt.shaped (cD cs) = true := by
  have e2 := (fit_c ok).dep
  unfold SeqAt.shaped
  rw [Bool.and_eq_true, decide_eq_true_eq]
  refine ⟨?_, by omega⟩
  simp only [cD, PyData.canLay0]
  exact shaped_all (dat := cP) (fun a => by simp only [cP, PyData.canLay0, PyData.canLayAll0, Bool.and_true]) cs
theorem valV_none {kvs : List (Key × V)} {k : Key} (h : k ∉ kvs.map (·.1)) : valV kvs k = none := by
  cases e : valV kvs k with
  | none => rfl
  | some v => exact absurd (valV_in e) h
theorem merge_id : ∀ (more kvs : List (Key × V)), ((kvs ++ more).map (·.1)).Nodup → mergeK kvs more = kvs ++ more
  | [], kvs, _ => by simp [mergeK]
  | p :: t, kvs, h => by
    have hn : p.1 ∉ kvs.map (·.1) := by
      rw [List.map_append, List.nodup_append] at h
      exact fun z => h.2.2 _ z _ (List.mem_map_of_mem List.mem_cons_self) rfl
    have e : mergeK kvs (p :: t) = mergeK (putK kvs p.1 p.2) t := rfl
    rw [e, putK_new _ (valV_none hn), merge_id t _ (by simpa using h)]
    simp
theorem nodup_n {ns : List (Nat × Int)} (ok : NOk ns) : ((kN ns).map (·.1)).Nodup := by
  unfold kN
  rw [List.map_map]
  refine List.pairwise_map.mpr ((List.pairwise_map.mp ok.asc).imp fun {p q} h e => ?_)
  simp only [Function.comp, Sum.inr.injEq] at e
  have := congrArg (fun s : Str => s.cps.toList) e
  simp [ch] at this
  omega
theorem nodup_c {cs : List (Int × Int)} (ok : COk cs) : ((kC cs).map (·.1)).Nodup := by
  unfold kC
  rw [List.map_map]
  refine List.pairwise_map.mpr ((List.pairwise_map.mp ok.asc).imp fun {p q} h e => ?_)
  simp only [Function.comp, Sum.inl.injEq] at e
  omega
theorem merge_n {ns : List (Nat × Int)} (ok : NOk ns) : mergeK [] (kN ns) = kN ns := merge_id (kN ns) [] (by simpa using nodup_n ok)
theorem merge_c {cs : List (Int × Int)} (ok : COk cs) : mergeK [] (kC cs) = kC cs := merge_id (kC cs) [] (by simpa using nodup_c ok)
theorem pair_n {K : PySem.W.Frag} {H : Hp} : ∀ {rs : List Addr} {ns : List (Nat × Int)}, Paired (fun b (p : V × V) => SqT K H b [p.1, p.2]) rs (ns.map nV) → Paired (fun p (kv : Key × V) => SqT K H p [kV kv.1, kv.2]) rs (kN ns)
  | [], [], _ => .nil
  | _ :: _, _ :: _, .cons h t => .cons h (pair_n t)
theorem pair_c {K : PySem.W.Frag} {H : Hp} : ∀ {rs : List Addr} {cs : List (Int × Int)}, Paired (fun b (p : V × V) => SqT K H b [p.1, p.2]) rs (cs.map cV) → Paired (fun p (kv : Key × V) => SqT K H p [kV kv.1, kv.2]) rs (kC cs)
  | [], [], _ => .nil
  | _ :: _, _ :: _, .cons h t => .cons h (pair_c t)
/-- a dict of the seconds of pairs, all with the value true -/
theorem dcP {K : PySem.W.Frag} {rs : List Addr} {ls : List (V × V)} {gs : List Int} {te : TE} {g : TG} {tk tv : TE} {vs : List Nat} {σ : L2.St} {H : Hp} {Q : VK}
    (hte : ∀ R : VK, (∀ a H1, Same H H1 → PT H1 a (rs.map V.ref) → R (.ref a) H1) → te σ H R)
    (hp : Paired (fun b (p : V × V) => SqT K H b [p.1, p.2]) rs ls) (hg : ls.map (·.2) = gs.map V.int) (hz : ls.length ≤ 1000)
    (hs : ∀ (b : Addr) (p : V × V) (i : Int) H' (R : V → V → Hp → Prop), Same H H' → SqT K H' b [p.1, V.int i] → R (.int i) (.bl true) H' → g (.ref b) (wipe σ vs) H' fun σ2 H2 => wipe σ2 vs = wipe σ vs ∧ tk σ2 H2 fun y H4 => tv σ2 H4 fun z H5 => R y z H5)
    (hd : ∀ H' D kvs, Same H H' → H D = none → H' D = some (.dK kvs) → (∀ j : Int, (valV kvs (Sum.inl j : Key)).isSome = decide (j ∈ gs)) → Q (.ref D) H') : tDc (iTup K te) g tYes tk tv vs σ H Q := by
  refine hte _ fun a H1 sm hT => ⟨a, rfl, ⟨_, hT.sq⟩, fun D hD => ?_⟩
  have hp1 := Paired.imm (.of sm) hp
  have hl : rs.length = ls.length := Paired.len hp
  have hgl : ls.length = gs.length := by simpa using congrArg List.length hg
  have hDn : H D = none := by
    cases e : H D with
    | none => rfl
    | some o => rw [sm _ _ e] at hD; cases hD
  refine dc_tup (xs := rs.map V.ref) (fun i H' => Same H1 H' ∧ ∃ kvs : List (Key × V), H' D = some (.dK kvs) ∧ kvs.length ≤ i ∧ ∀ j : Int, (valV kvs (Sum.inl j : Key)).isSome = decide (j ∈ gs.take i)) ⟨same_new hD, [], upd_same, Nat.le_refl _, fun j => by simp [valV_nil]⟩
    (fun i H _ h => (PT.same h.1 hT).sq) (fun i x H' hx h => ?_) (fun H' h => ?_)
  · obtain ⟨s2, kvs, hk, kl, hv⟩ := h
    obtain ⟨b, p, rfl, e1, e2, hq⟩ := pairs_at (Paired.imm (.of s2) hp1) hx
    have hi : i < ls.length := (List.getElem?_eq_some_iff.mp e2).1
    have e3 : (gs.map V.int)[i]? = some p.2 := by rw [← hg, List.getElem?_map, e2]; rfl
    obtain ⟨z, e4, e5⟩ := map_at e3
    rw [e5] at hq
    refine hs b p z H' (fun y z2 H5 => ∃ kvs k, y = kV k ∧ H5 D = some (.dK kvs) ∧ kvs.length < sizeLine ∧ (Same H1 (upd H5 D (.dK (putK kvs k z2))) ∧ ∃ kvs' : List (Key × V), upd H5 D (.dK (putK kvs k z2)) D = some (.dK kvs') ∧ kvs'.length ≤ i + 1 ∧ ∀ j : Int, (valV kvs' (Sum.inl j : Key)).isSome = decide (j ∈ gs.take (i + 1)))) (sm.trans s2) hq
      ⟨kvs, Sum.inl z, rfl, hk, ?_, fun c o e => ?_, _, upd_same, ?_, fun j => ?_⟩
    · exact small1000 (by omega)
    · have nb : c ≠ D := ne_of_none e hD
      rw [upd_ne nb]
      exact s2 _ _ e
    · exact Nat.le_trans (length_putK _ _ _) (by omega)
    · rw [valV_put, List.take_add_one, e4]
      by_cases ej : j = z
      · subst ej
        rw [if_pos rfl]
        simp
      · rw [if_neg (fun q => ej (Sum.inl.inj q)), hv]
        simp [ej]
  · obtain ⟨s2, kvs, hk, _, hv⟩ := h
    rw [List.length_map, hl, hgl, List.take_length] at hv
    exact hd H' D kvs (sm.trans s2) hDn hk hv
/-- t + u, a tuple behind it -/
theorem cat_pt {K : PySem.W.Frag} {H : Hp} {a b : Addr} {xs ys : List V} {R : VK} (ha : PT H a xs) (hb : PT H b ys) (hz : xs.length + ys.length ≤ 10000) (k : ∀ t H1, Same H H1 → PT H1 t (xs ++ ys) → R (.ref t) H1) : rCatP K (.ref a) (.ref b) H R := by
  refine ⟨a, b, xs, ys, rfl, rfl, ha.sq, hb.sq, sl_le (by omega), fun e => k b H (fun _ _ h => h) (by subst e; exact hb), fun _ e => k a H (fun _ _ h => h) (by subst e; rw [List.append_nil]; exact ha), fun _ _ p o hn ho => k p _ (same_new hn) (PT.new ho)⟩
end K1
/-! Comprehensions that make pairs; the signs of a store's text. -/
namespace K1
open PySem PySem.Spec L2 Z
theorem lcMk {α : Type} {K : PySem.W.Frag} {ls : List α} {te : TE} {g : TG} {tel : TE} {vs : List Nat} {σ : L2.St} {H : Hp} {Q : VK} (wd : α → V) (G : α → V × V → Prop) (Pre : Addr → Hp → Prop)
    (hte : ∀ R : VK, (∀ l H1, Pre l H1 → R (.ref l) H1) → te σ H R) (hz : ls.length ≤ 1000) (hq : ∀ l H1, Pre l H1 → ∃ xs, SqL K H1 l xs)
    (hb : ∀ l H1 D, Pre l H1 → H1 D = none → ∃ Iv : Hp → Prop, Iv H1 ∧ (∀ H' o, Iv H' → Iv (upd H' D o)) ∧ (∀ H', Iv H' → SqL K H' l (ls.map wd)) ∧
      (∀ p H' acc (R : V → Hp → Prop), p ∈ ls → Iv H' → H' D = some (.lst acc) → (∀ b q H'', Iv H'' → Imm H' H'' → H'' D = some (.lst acc) → G p q → SqT K H'' b [q.1, q.2] → R (.ref b) H'') →
        g (wd p) (wipe σ vs) H' fun σ2 H2 => wipe σ2 vs = wipe σ vs ∧ tel σ2 H2 R) ∧
      (∀ H' bs qs, Iv H' → H' D = some (.lst (bs.map V.ref)) → Paired (fun b (p : V × V) => SqT K H' b [p.1, p.2]) bs qs → Paired G ls qs → Q (.ref D) H')) : tLc (iList K te) g tYes tel vs σ H Q := by
  refine hte _ fun l H1 pre => ?_
  refine ⟨l, rfl, hq _ _ pre, fun D hD => ?_⟩
  obtain ⟨Iv, i0, iu, il, ih, id⟩ := hb l H1 D pre hD
  refine lc_it (n := ls.length) (fun i H' => Iv H' ∧ ∃ (bs : List Addr) (qs : List (V × V)), bs.length = i ∧ H' D = some (.lst (bs.map V.ref)) ∧ Paired (fun b (p : V × V) => SqT K H' b [p.1, p.2]) bs qs ∧ Paired G (ls.take i) qs)
    ⟨iu _ _ i0, [], [], rfl, upd_same, .nil, .nil⟩ (fun i H' hi h => ⟨ls.map wd, (ls.map wd)[i]'(by simpa using hi), il _ h.1, List.getElem?_eq_getElem _⟩) (fun H' h => ⟨ls.map wd, il _ h.1, by simp⟩) (fun i x H' H2 hi h y => ?_) (fun H' h => ?_)
  · obtain ⟨iv, bs, qs, hl, hk, hp, hg⟩ := h
    obtain ⟨rfl, y⟩ := y
    obtain ⟨p, e1, rfl⟩ := map_at (y _ (il _ iv))
    refine ih p H2 (bs.map V.ref) _ (List.mem_of_getElem? e1) iv hk fun b q H3 iv3 im hk3 gq hq => ?_
    refine ⟨_, hk3, ?_, iu _ _ iv3, bs ++ [b], qs ++ [q], by simp [hl], ?_, ?_, ?_⟩
    · rw [List.length_map]
      exact small1000 (by omega)
    · rw [upd_same, List.map_append]
      rfl
    · have i4 : Imm H3 (upd H3 D (.lst (bs.map V.ref ++ [.ref b]))) := Chg.imm Chg.upd hk3 trivial
      exact Paired.snoc (F := fun b (p : V × V) => SqT K _ b [p.1, p.2]) (x := b) (y := q) (SqT.imm i4 hq) (Paired.imm (im.trans i4) hp)
    · rw [List.take_add_one, e1]
      exact Paired.snoc gq hg
  · obtain ⟨iv, bs, qs, hl, hk, hp, hg⟩ := h
    rw [List.take_length] at hg
    exact id H' bs qs iv hk hp hg
theorem paired_map {α β : Type} {f : α → β} : ∀ {ls : List α} {qs : List β}, Paired (fun p q => q = f p) ls qs → qs = ls.map f
  | _, _, .nil => rfl
  | _, _, .cons h t => by rw [h, paired_map t]; rfl
theorem mem_glue {S : List Nat} {c : Nat} : ∀ {l : List (List Nat)}, c ∈ TL.joinL S l → c ∈ S ∨ ∃ p ∈ l, c ∈ p
  | [], h => by simp [TL.joinL] at h
  | [y], h => .inr ⟨y, List.mem_cons_self, h⟩
  | y :: z :: t, h => by
    simp only [TL.joinL, List.mem_append] at h
    rcases h with h | h | h
    · exact .inr ⟨y, List.mem_cons_self, h⟩
    · exact .inl h
    · rcases mem_glue (l := z :: t) h with h | ⟨p, hp, hc⟩
      · exact .inl h
      · exact .inr ⟨p, List.mem_cons_of_mem _ hp, hc⟩
theorem eq_tl : TL.tl (Str.ofString "=") = [61] := by decide +kernel
theorem gt_tl : TL.tl (Str.ofString ">") = [62] := by decide +kernel
theorem sp_tl : TL.tl sp1 = [32] := by decide +kernel
theorem bar_tl : TL.tl (Str.ofString " | ") = [32, 124, 32] := by decide +kernel
theorem none_tl : TL.tl (Str.ofString "none") = [110, 111, 110, 101] := by decide +kernel
theorem ch_tl (c : Nat) : TL.tl (ch c) = [c] := rfl
theorem nameW_mem {p : Nat × Int} (l1 : 97 ≤ p.1) (l2 : p.1 ≤ 122) (h : 0 ≤ p.2) {c : Nat} (hc : c ∈ TL.tl (nameW p)) : 48 ≤ c ∧ c ≤ 122 := by
  unfold nameW at hc
  rw [TL.tl_append, TL.tl_append, List.mem_append, List.mem_append, ch_tl, eq_tl] at hc
  rcases hc with (hc | hc) | hc
  · have := List.mem_singleton.mp hc
    omega
  · have := List.mem_singleton.mp hc
    omega
  · have := num_dig h c hc
    omega
theorem cellW_mem {p : Int × Int} (h : 0 ≤ p.1) (h2 : 0 ≤ p.2) {c : Nat} (hc : c ∈ TL.tl (cellW p)) : 48 ≤ c ∧ c ≤ 62 := by
  unfold cellW at hc
  rw [TL.tl_append, TL.tl_append, List.mem_append, List.mem_append, gt_tl] at hc
  rcases hc with (hc | hc) | hc
  · have := num_dig h c hc
    omega
  · have := List.mem_singleton.mp hc
    omega
  · have := num_dig h2 c hc
    omega
theorem nTxt_mem {ns : List (Nat × Int)} (ok : NOk ns) {c : Nat} (hc : c ∈ TL.tl (nTxt ns)) : c ≤ 122 := by
  unfold nTxt at hc
  rw [tl_glue, sp_tl] at hc
  rcases mem_glue hc with h | ⟨q, hq, h⟩
  · have := List.mem_singleton.mp h
    omega
  · obtain ⟨r, hr, rfl⟩ := List.mem_map.mp hq
    obtain ⟨p, hp, rfl⟩ := List.mem_map.mp hr
    exact (nameW_mem (ok.let_ p hp).1 (ok.let_ p hp).2 (ok.pl p hp).1 h).2
theorem cJ_mem {cs : List (Int × Int)} (ok : COk cs) {c : Nat} (hc : c ∈ TL.tl (Txt.join sp1 (cs.map cellW))) : c ≤ 62 := by
  rw [tl_glue, sp_tl] at hc
  rcases mem_glue hc with h | ⟨q, hq, h⟩
  · have := List.mem_singleton.mp h
    omega
  · obtain ⟨r, hr, rfl⟩ := List.mem_map.mp hq
    obtain ⟨p, hp, rfl⟩ := List.mem_map.mp hr
    obtain ⟨a, b, d, e⟩ := ok.pl p hp
    exact (cellW_mem (by omega) d h).2
theorem cTxt_mem {cs : List (Int × Int)} (ok : COk cs) {c : Nat} (hc : c ∈ TL.tl (cTxt cs)) : c ≤ 122 := by
  unfold cTxt at hc
  split at hc
  · rw [none_tl] at hc
    simp only [List.mem_cons, List.not_mem_nil, or_false] at hc
    omega
  · have := cJ_mem ok hc
    omega
theorem stTxt_mem {ns : List (Nat × Int)} {cs : List (Int × Int)} (ok : NOk ns) (ck : COk cs) {c : Nat} (hc : c ∈ TL.tl (stTxt ns cs)) : c < 16 ^ 8 := by
  unfold stTxt at hc
  rw [TL.tl_append, TL.tl_append, List.mem_append, List.mem_append, bar_tl] at hc
  refine Nat.lt_of_le_of_lt (m := 124) ?_ (by decide)
  rcases hc with (hc | hc) | hc
  · have := nTxt_mem ok hc
    omega
  · simp only [List.mem_cons, List.not_mem_nil, or_false] at hc
    omega
  · have := cTxt_mem ck hc
    omega
theorem no_bar {l : List Nat} {i : Nat} (h : l[i + 1]? ≠ some 124) : TL.pre [32, 124, 32] (l.drop i) = false := by
  cases e : TL.pre [32, 124, 32] (l.drop i) with
  | false => rfl
  | true =>
    exfalso
    unfold TL.pre at e
    have e2 := eq_of_beq e
    have : ((l.drop i).take 3)[1]? = some 124 := by
      have e3 : ([32, 124, 32] : List Nat).length = 3 := rfl
      rw [e3] at e2
      rw [e2]
      rfl
    rw [List.getElem?_take, if_pos (by decide), List.getElem?_drop] at this
    exact h this
theorem split_st {ns : List (Nat × Int)} {cs : List (Int × Int)} (ok : NOk ns) (ck : COk cs) : Txt.split (stTxt ns cs) (Str.ofString " | ") = [nTxt ns, cTxt cs] := by
  apply TL.map_tl_inj
  have hne : TL.tl (Str.ofString " | ") ≠ [] := by rw [bar_tl]; simp
  rw [TL.split_spl _ _ hne (TL.kind_ok (by decide +kernel))]
  unfold stTxt
  rw [TL.tl_append, TL.tl_append, bar_tl, List.append_assoc]
  rw [TL.spl_part (by simp) (fun i hi => ?_), TL.spl_last (fun i hi => ?_)]
  · rfl
  · refine no_bar fun z => ?_
    have := cTxt_mem ck (List.mem_of_getElem? z)
    omega
  · refine no_bar fun z => ?_
    by_cases hj : i + 1 < (TL.tl (nTxt ns)).length
    · rw [List.getElem?_append_left hj] at z
      have := nTxt_mem ok (List.mem_of_getElem? z)
      omega
    · have e : i + 1 = (TL.tl (nTxt ns)).length := by omega
      rw [List.getElem?_append_right (by omega), e, Nat.sub_self] at z
      simp at z
theorem split_n {ns : List (Nat × Int)} (ok : NOk ns) : Txt.split (nTxt ns) (Str.ofString " ") = ns.map nameW := by
  refine TL.split_join (s := 32) (S := []) sp_tl (by decide +kernel) ?_ ?_
  · intro z
    have := ok.one
    rw [List.map_eq_nil_iff] at z
    subst z
    simp at this
  · intro q hq h
    obtain ⟨p, hp, rfl⟩ := List.mem_map.mp hq
    have := nameW_mem (ok.let_ p hp).1 (ok.let_ p hp).2 (ok.pl p hp).1 h
    omega
theorem split_c {cs : List (Int × Int)} (ck : COk cs) (h : cs ≠ []) : Txt.split (cTxt cs) (Str.ofString " ") = cs.map cellW := by
  unfold cTxt
  rw [if_neg h]
  refine TL.split_join (s := 32) (S := []) sp_tl (by decide +kernel) (by simpa using h) ?_
  intro q hq h
  obtain ⟨p, hp, rfl⟩ := List.mem_map.mp hq
  obtain ⟨a, b, d, e⟩ := ck.pl p hp
  have := cellW_mem (by omega) d h
  omega
theorem none_iff {cs : List (Int × Int)} (ck : COk cs) : decide (V.str (cTxt cs) = V.str (Str.ofString "none")) = decide (cs = []) := by
  by_cases h : cs = []
  · rw [decide_eq_true h]
    exact decide_eq_true (by unfold cTxt; rw [if_pos h])
  · rw [decide_eq_false h]
    refine str_ne fun e => ?_
    unfold cTxt at e
    rw [if_neg h] at e
    have := cJ_mem ck (c := 110) (by rw [e, none_tl]; simp)
    omega
theorem SqL_same {K : PySem.W.Frag} {H H' : Hp} {a : Addr} {xs : List V} (e : Same H H') (h : SqL K H a xs) : SqL K H' a xs := by
  rcases h with (h | ⟨o, h⟩) | h
  · exact .inl (.inl (e _ _ h))
  · exact .inl (.inr ⟨o, e _ _ h⟩)
  · exact .inr h
theorem at_third {α : Type} {xs : List α} {x y z : α} : atI (x :: y :: z :: xs) 2 = some z := at_nat (i := 2) rfl
theorem fm_range {i m : Int} (h : 0 < m) : 0 ≤ i.fmod m ∧ i.fmod m < m := ⟨Int.fmod_nonneg_of_pos i h, Int.fmod_lt_of_pos i h⟩
theorem op_notIn_seqK {X : Cx} {K : PySem.W.Frag} (h : X.K = K) : OpR X (compareOp .NotIn) (rIn K true) := h ▸ op_notIn_seq
theorem op_in_seqK {X : Cx} {K : PySem.W.Frag} (h : X.K = K) : OpR X (compareOp .In) (rIn K false) := h ▸ op_in_seq
theorem cut_mem {xs : List V} {lo hi : Option Int} {x : V} (h : x ∈ cutV xs lo hi) : x ∈ xs := List.mem_of_mem_drop (List.mem_of_mem_take h)
theorem JugAt.of {H : Hp} {j : Addr} {g s c : Int} (h : H j = some (.lst [.int g, .int s, .int c])) (a : -(2 ^ 64) < s) (b : s < 2 ^ 64) : JugAt H j := ⟨g, s, c, h, a, b⟩
theorem at_of {α : Type} {xs : List α} {k : Int} (h : 0 ≤ k) (h2 : k < xs.length) : ∃ x, x ∈ xs ∧ atI xs k = some x := by
  have hk : k.toNat < xs.length := by omega
  refine ⟨xs[k.toNat], List.getElem_mem _, ?_⟩
  have e := at_nat (xs := xs) (i := k.toNat) (List.getElem?_eq_getElem hk)
  rw [Int.toNat_of_nonneg h] at e
  exact e
end K1
/-! Letters: drawn, kept apart, in order. -/
namespace K1
open PySem PySem.Spec PyProof.Rows L2 Z
theorem nz1 : (1000000007 : Int) ≠ 0 := by decide
theorem nz2 : (2147483399 : Int) ≠ 0 := by decide
theorem nz3 : (2147483563 : Int) ≠ 0 := by decide
def cS (c : Nat) : V := .str (ch c)
theorem inV_ch (c : Nat) : ∀ cs : List Nat, inV (cS c) (cs.map cS) = decide (c ∈ cs)
  | [] => by simp [inV]
  | a :: t => by
    have ih := inV_ch c t
    unfold inV at ih ⊢
    rw [List.map_cons, List.any_cons, ih]
    have : eqV (cS a) (cS c) = decide (a = c) := ch_inj
    rw [this, Bool.eq_iff_iff, Bool.or_eq_true, decide_eq_true_eq, decide_eq_true_eq, decide_eq_true_eq, List.mem_cons]
    exact ⟨fun h => h.imp Eq.symm id, fun h => h.imp Eq.symm id⟩
theorem flat_ch (cs : List Nat) : (cs.map cS).all flatV = true := by
  rw [List.all_map, List.all_eq_true]
  intro c _
  rfl
theorem lcF {K : PySem.W.Frag} {a0 a1 a3 a4 a5 a6 : Option V} {H : Hp} {Q : VK} {w : Str} {cs : List Nat} {p : Addr} (hp : H p = some (.lst (cs.map cS))) (hw : w.cps.size ≤ 100)
    (hd : ∀ H' D, Same H H' → H D = none → H' D = some (.lst ((w.cps.toList.filter fun c => !decide (c ∈ cs)).map cS)) → Q (.ref D) H') :
    tLc (iStr (tC (.str w))) (gName 6) (tTest (tOp (rIn K true) (tVar 6) (tVar 2))) (tVar 6) [6] [a0, a1, some (.ref p), a3, a4, a5, a6] H Q := by
  refine ⟨w, rfl, fun D hD => ?_⟩
  refine lc_it (n := w.cps.size) (fun i H' => Same H H' ∧ H' D = some (.lst (((w.cps.toList.take i).filter fun c => !decide (c ∈ cs)).map cS))) ⟨same_new hD, upd_same⟩ (fun i H' hi _ => hi) (fun H' _ => Nat.le_refl _) (fun i x H' H2 hi h y => ?_) (fun H' h => ?_)
  · obtain ⟨sm, hk⟩ := h
    obtain ⟨rfl, c, hc, rfl⟩ := y
    have hc2 : w.cps.toList[i]? = some c := by rw [Array.getElem?_toList]; exact hc
    refine ⟨rfl, _, rfl, _, rfl, p, _, rfl, .inl (.inl (.inl (sm _ _ hp))), rfl, flat_ch cs, _, rfl, ?_⟩
    show if (!inV (cS c) (cs.map cS)) = true then _ else _
    rw [inV_ch]
    by_cases hm : c ∈ cs
    · rw [decide_eq_true hm]
      refine iteF ⟨sm, ?_⟩
      rw [hk, List.take_add_one, hc2, List.filter_append]
      simp [hm]
    · rw [decide_eq_false hm]
      refine iteT ⟨_, rfl, _, hk, ?_, fun b o e => ?_, ?_⟩
      · rw [List.length_map]
        refine small1000 ?_
        have h1 := List.length_filter_le (fun c => !decide (c ∈ cs)) (w.cps.toList.take i)
        rw [List.length_take] at h1
        omega
      · rw [upd_ne (ne_of_none e hD)]
        exact sm _ _ e
      · rw [upd_same, List.take_add_one, hc2, List.filter_append, List.map_append]
        simp [hm]
        rfl
  · refine hd H' D h.1 hD ?_
    have := h.2
    rw [← Array.length_toList, List.take_length] at this
    exact this
theorem nodup_len : ∀ {S cs : List Nat}, S.Nodup → (∀ c ∈ S, c ∈ cs) → S.length ≤ cs.length
  | [], _, _, _ => Nat.zero_le _
  | a :: t, cs, hS, h => by
    obtain ⟨h1, h2⟩ := List.nodup_cons.mp hS
    have ha := h a List.mem_cons_self
    have := nodup_len (S := t) (cs := cs.erase a) h2 fun c hc => (List.mem_erase_of_ne (fun z : c = a => h1 (z ▸ hc))).mpr (h c (List.mem_cons_of_mem _ hc))
    rw [List.length_erase_of_mem ha] at this
    have := List.length_pos_of_mem ha
    rw [List.length_cons]
    omega
theorem left_pos {S cs : List Nat} (hS : S.Nodup) (h : cs.length < S.length) : S.filter (fun c => !decide (c ∈ cs)) ≠ [] := fun e => by
  have sub : ∀ c ∈ S, c ∈ cs := fun c hc => by
    have := List.filter_eq_nil_iff.mp e c hc
    simpa using this
  have := nodup_len hS sub
  omega
theorem rising_le : ∀ (l : List Nat) (a : Nat), risingS (ch a) (l.map ch) = true → (a :: l).Pairwise (· ≤ ·)
  | [], a, _ => by simp
  | b :: t, a, h => by
    have hb : ltCps [b] [a] = false ∧ risingS (ch b) (t.map ch) = true := by
      have h' : (!ltCps [b] [a] && risingS (ch b) (t.map ch)) = true := h
      rw [Bool.and_eq_true, Bool.not_eq_true'] at h'
      exact h'
    have ih := rising_le t b hb.2
    have hab : a ≤ b := by
      by_cases z : b < a
      · have := hb.1
        simp [ltCps, z] at this
      · omega
    refine List.pairwise_cons.mpr ⟨fun c hc => ?_, ih⟩
    rcases List.mem_cons.mp hc with rfl | hc
    · exact hab
    · exact Nat.le_trans hab (List.rel_of_pairwise_cons ih hc)
theorem sorted_ch {ys : List Str} {cs : List Nat} (hp : ys.Perm (cs.map ch)) (hs : sortedS ys = true) (nd : cs.Nodup) : ∃ l : List Nat, ys = l.map ch ∧ l.Perm cs ∧ l.Pairwise (· < ·) := by
  let hd : Str → Nat := fun s => s.cps.toList.headD 0
  have e1 : ∀ y ∈ ys, ch (hd y) = y := fun y hy => by
    obtain ⟨c, _, rfl⟩ := List.mem_map.mp (hp.mem_iff.mp hy)
    rfl
  have e2 : ys = (ys.map hd).map ch := by
    rw [List.map_map]
    conv => lhs; rw [← List.map_id ys]
    exact (List.map_congr_left fun y hy => (e1 y hy).symm)
  have e3 : (ys.map hd).Perm cs := by
    have := hp.map hd
    rw [List.map_map] at this
    have e : hd ∘ ch = id := rfl
    rw [e, List.map_id] at this
    exact this
  have nd2 : (ys.map hd).Nodup := e3.nodup_iff.mpr nd
  refine ⟨ys.map hd, e2, e3, ?_⟩
  have le : (ys.map hd).Pairwise (· ≤ ·) := by
    generalize hq : ys.map hd = l at e2
    subst e2
    cases l with
    | nil => exact .nil
    | cons a t => exact rising_le t a hs
  exact (List.pairwise_and_iff.mpr ⟨le, nd2⟩).imp fun {a b} h => Nat.lt_of_le_of_ne h.1 h.2
theorem JugAt.same {H H' : Hp} {j : Addr} (e : Same H H') (h : JugAt H j) : JugAt H' j := by
  obtain ⟨g, s, c, q, a, b⟩ := h
  exact ⟨g, s, c, e _ _ q, a, b⟩
theorem jug_upd {H : Hp} {j p : Addr} {o : HO} (n : p ≠ j) (h : JugAt H j) : JugAt (upd H p o) j := by
  obtain ⟨g, s, c, q, a, b⟩ := h
  exact ⟨g, s, c, by rw [upd_ne (Ne.symm n)]; exact q, a, b⟩
theorem JugAt.ne {H : Hp} {j p : Addr} (h : JugAt H j) (hp : H p = none) : p ≠ j := by
  obtain ⟨g, s, c, q, a, b⟩ := h
  exact fun z => by rw [z, q] at hp; cases hp
theorem JugAt.neL {H : Hp} {j p : Addr} {o : HO} (h : JugAt H j) (hp : H p = some o) (n : ∀ l, o ≠ .lst l) : p ≠ j := by
  obtain ⟨g, s, c, q, a, b⟩ := h
  exact fun z => by
    rw [z, q] at hp
    exact n _ (Option.some.inj hp).symm
theorem chg_new {j p : Addr} {H H' : Hp} {o : HO} (c : Chg j H H') (hp : H p = none) : Chg j H (upd H' p o) := fun b x e n => by
  rw [upd_ne (ne_of_none e hp)]
  exact c b x e n
theorem none_chg {j p : Addr} {H H' : Hp} (c : Chg j H H') (hj : JugAt H' j) (hp : H' p = none) : H p = none := by
  cases e : H p with
  | none => rfl
  | some o => rw [c p o e (hj.ne hp)] at hp; cases hp
theorem near_let : ∀ c ∈ (Str.ofString "xyzuvw").cps.toList, 97 ≤ c ∧ c ≤ 122 := by
  have e : (Str.ofString "xyzuvw").cps.toList = [120, 121, 122, 117, 118, 119] := by decide +kernel
  rw [e]
  decide
theorem all_let : ∀ c ∈ (Str.ofString "abcdefghijklmnopqrstuvwxyz").cps.toList, 97 ≤ c ∧ c ≤ 122 := by
  have e : (Str.ofString "abcdefghijklmnopqrstuvwxyz").cps.toList = (List.range 26).map (· + 97) := by decide +kernel
  rw [e]
  decide
theorem near_n : (Str.ofString "xyzuvw").cps.toList.length = 6 := by decide +kernel
theorem all_n : (Str.ofString "abcdefghijklmnopqrstuvwxyz").cps.toList.length = 26 := by decide +kernel
theorem chg_imm {j : Addr} {H H' : Hp} (c : Chg j H H') (h : JugAt H j) : Imm H H' := by
  obtain ⟨g, s, n, q, _, _⟩ := h
  exact c.imm q trivial
theorem ints_mem {xs : List Int} {x : V} (h : x ∈ xs.map V.int) : ∃ i, x = .int i ∧ i ∈ xs := by
  obtain ⟨i, hi, rfl⟩ := List.mem_map.mp h
  exact ⟨i, rfl, hi⟩
theorem sl_pt {K : PySem.W.Frag} {H : Hp} {a : Addr} {xs : List V} {lo hi : Option Int} {Q : VK} (h : PT H a xs) (k : ∀ t H1, Same H H1 → PT H1 t (cutV xs lo hi) → Q (.ref t) H1) : rSlP K (.ref a) lo hi H Q := by
  refine ⟨a, xs, rfl, h.sq, fun e => k a H (fun _ _ h => h) ?_, fun _ p o hp ho => k p _ (same_new hp) (PT.new ho)⟩
  have : cutV xs lo hi = xs := by
    unfold cutV
    rw [e.1, e.2, List.drop_zero, Nat.sub_zero, List.take_length]
  rw [this]
  exact h
theorem cut_take {xs : List V} {i : Nat} (h : i ≤ xs.length) : cutV xs none (some (i : Int)) = xs.take i := by
  unfold cutV
  rw [HT.sIx_nat]
  show (xs.drop 0).take (min i xs.length - 0) = xs.take i
  rw [List.drop_zero, Nat.min_eq_left h, Nat.sub_zero]
theorem cut_drop {xs : List V} {i : Nat} (h : i < xs.length) : cutV xs (some ((i : Int) + 1)) none = xs.drop (i + 1) := by
  have e : ((i : Int) + 1) = ((i + 1 : Nat) : Int) := by omega
  unfold cutV
  rw [e, HT.sIx_nat]
  show (xs.drop (min (i + 1) xs.length)).take (xs.length - min (i + 1) xs.length) = xs.drop (i + 1)
  rw [Nat.min_eq_left (by omega), List.take_of_length_le (by rw [List.length_drop]; exact Nat.le_refl _)]
theorem set_fst {α β : Type} {g : β} : ∀ {l : List (α × β)} {i : Nat} {q : α × β}, l[i]? = some q → (l.set i (q.1, g)).map (·.1) = l.map (·.1)
  | [], _, _, h => by simp at h
  | x :: t, 0, q, h => by
    simp at h
    subst h
    rfl
  | x :: t, i + 1, q, h => by
    rw [List.set_cons_succ, List.map_cons, List.map_cons, set_fst (by simpa using h)]
theorem Paired.take {α β : Type} {F : α → β → Prop} : ∀ (i : Nat) {l : List α} {m : List β}, Paired F l m → Paired F (l.take i) (m.take i)
  | 0, _, _, _ => .nil
  | _ + 1, _, _, .nil => .nil
  | i + 1, _, _, .cons h t => .cons h (Paired.take i t)
theorem Paired.drop {α β : Type} {F : α → β → Prop} : ∀ (i : Nat) {l : List α} {m : List β}, Paired F l m → Paired F (l.drop i) (m.drop i)
  | 0, _, _, h => h
  | _ + 1, _, _, .nil => .nil
  | i + 1, _, _, .cons _ t => Paired.drop i t
theorem nok_set {ns : List (Nat × Int)} {i : Nat} {q : Nat × Int} {g : Int} (ok : NOk ns) (h : ns[i]? = some q) (h0 : 0 ≤ g) (h9 : g ≤ 999) : NOk (ns.set i (q.1, g)) := by
  have hq := List.mem_of_getElem? h
  refine ⟨by rw [List.length_set]; exact ok.one, by rw [List.length_set]; exact ok.four, fun p hp => ?_, fun p hp => ?_, by rw [set_fst h]; exact ok.asc⟩
  · rcases List.mem_or_eq_of_mem_set hp with z | rfl
    · exact ok.let_ p z
    · exact ok.let_ q hq
  · rcases List.mem_or_eq_of_mem_set hp with z | rfl
    · exact ok.pl p z
    · exact ⟨h0, h9⟩
theorem cok_set {cs : List (Int × Int)} {i : Nat} {q : Int × Int} {g : Int} (ok : COk cs) (h : cs[i]? = some q) (h0 : 0 ≤ g) (h9 : g ≤ 999) : COk (cs.set i (q.1, g)) := by
  have hq := List.mem_of_getElem? h
  refine ⟨by rw [List.length_set]; exact ok.few, fun p hp => ?_, by rw [set_fst h]; exact ok.asc⟩
  rcases List.mem_or_eq_of_mem_set hp with z | rfl
  · exact ok.pl p z
  · obtain ⟨a, b, _, _⟩ := ok.pl q hq
    exact ⟨a, b, h0, h9⟩
/-- a tuple of pairs with the i-th pair changed -/
theorem tp_set {K : PySem.W.Frag} {H : Hp} {t b : Addr} {rs : List Addr} {ls : List (V × V)} {i : Nat} {x : V × V} (hi : i < ls.length) (ht : PT H t ((rs.map V.ref).take i ++ [V.ref b] ++ (rs.map V.ref).drop (i + 1)))
    (hp : Paired (fun b (p : V × V) => SqT K H b [p.1, p.2]) rs ls) (hb : SqT K H b [x.1, x.2]) : TP K H (.ref t) (ls.set i x) := by
  refine ⟨t, rs.take i ++ [b] ++ rs.drop (i + 1), rfl, by rw [List.map_append, List.map_append, List.map_take, List.map_drop]; exact ht, ?_⟩
  rw [List.set_eq_take_append_cons_drop, if_pos hi]
  have e : ls.take i ++ x :: ls.drop (i + 1) = (ls.take i ++ [x]) ++ ls.drop (i + 1) := by simp
  rw [e]
  exact Paired.app (Paired.snoc (F := fun b (p : V × V) => SqT K H b [p.1, p.2]) (x := b) (y := x) hb (Paired.take i hp)) (Paired.drop (i + 1) hp)
/-- a tuple of pairs, the second of one pair changed -/
theorem change {K : PySem.W.Frag} {H : Hp} {a : Addr} {rs : List Addr} {ls : List (V × V)} {i v : Nat} {x y : V} {go : Int} {σ : L2.St} {Q : VK} (hv : σ[v]? = some (some (.ref a))) (h4 : σ[4]? = some (some (.int go))) (h5 : σ[5]? = some (some (.int (i : Int))))
    (ht : PT H a (rs.map V.ref)) (hp : Paired (fun b (p : V × V) => SqT K H b [p.1, p.2]) rs ls) (hx : ls[i]? = some (x, y)) (hz : ls.length ≤ 1000) (k : ∀ t H', Same H H' → TP K H' (.ref t) (ls.set i (x, .int go)) → Q (.ref t) H') :
    tOp (rCatP K) (tOp (rCatP K) (tSl (rSlP K) (tVar v) tNoPart (tPart (tVar 5))) (tTupP (tCons (tTup (tCons (tOp (rIxT K) (tOp (rIxT K) (tVar v) (tVar 5)) (tC (.int 0))) (tCons (tVar 4) tNil))) tNil)))
      (tSl (rSlP K) (tVar v) (tPart (tOp (rI0 fun i j => .int (i + j)) (tVar 5) (tC (.int 1)))) tNoPart) σ H Q := by
  have hl : rs.length = ls.length := Paired.len hp
  have hi : i < ls.length := (List.getElem?_eq_some_iff.mp hx).1
  have hlm : (rs.map V.ref).length = ls.length := by rw [List.length_map, hl]
  refine ⟨_, hv, _, h5, i, rfl, ?_⟩
  refine sl_pt ht fun t1 H1 s1 p1 => ?_
  rw [cut_take (by rw [hlm]; omega)] at p1
  have hb : rs[i]? = some (rs[i]'(by omega)) := List.getElem?_eq_getElem _
  obtain ⟨q, e2, hq⟩ := Paired.at (Paired.imm (.of s1) hp) hb
  rw [hx] at e2
  cases e2
  refine ⟨_, hv, _, h5, a, _, (i : Int), _, rfl, rfl, (PT.same s1 ht).sq, at_nat (by rw [List.getElem?_map, hb]; rfl), _, _, 0, _, rfl, rfl, hq, at_first, _, h4, by show 2 ≤ sizeLine; exact sl_le (by decide), fun b hbn => ?_⟩
  have s2 := s1.trans (same_new (o := .tup [x, V.int go]) hbn)
  have b2 : upd H1 b (.tup [x, V.int go]) b = some (.tup [x, V.int go]) := upd_same
  have p2 := PT.same (same_new (o := .tup [x, V.int go]) hbn) p1
  generalize upd H1 b (.tup [x, V.int go]) = H2 at s2 b2 p2 ⊢
  refine ⟨by show 1 ≤ sizeLine; exact sl_le (by decide), fun p3 o3 hp3 ho3 => ?_⟩
  have s3 := same_new (o := .frz o3 (.tup [V.ref b])) hp3
  refine cat_pt (PT.same s3 p2) (PT.new ho3) (by rw [List.length_take]; show min i _ + 1 ≤ 10000; omega) fun t4 H4 s4 p4 => ?_
  have s04 := (s2.trans s3).trans s4
  refine ⟨_, hv, _, h5, _, _, rfl, rfl, _, rfl, ?_⟩
  unfold tNoPart
  dsimp only
  refine sl_pt (PT.same s04 ht) fun t5 H5 s5 p5 => ?_
  rw [cut_drop (by rw [hlm]; exact hi)] at p5
  refine cat_pt (PT.same s5 p4) p5 (by rw [List.length_append, List.length_take, List.length_drop, hlm]; show min i _ + 1 + _ ≤ 10000; omega) fun t6 H6 s6 p6 => ?_
  have s06 := (s04.trans s5).trans s6
  exact k t6 H6 s06 (tp_set hi p6 (Paired.imm (.of s06) hp) (.inl (.inl (s6 _ _ (s5 _ _ (s4 _ _ (s3 _ _ b2)))))))
theorem set_map {α β : Type} {f : α → β} (l : List α) (i : Nat) (a : α) : (l.map f).set i (f a) = (l.set i a).map f := by rw [List.map_set]
theorem ix_tupK {X : Cx} {K : PySem.W.Frag} (h : X.K = K) : IxR X (rIxT K) := h ▸ ix_tup
theorem repr_ok {K : PySem.W.Frag} {H : Hp} {a : Addr} {xs : List V} {ds : List PyData} {k m : Nat} (h : SqL K H a xs) (hd : DpAll K H xs ds) (hf : ∀ d ∈ ds, Fit d k m) (hz : (k + 2) * ds.length + 3 ≤ 16000000) (hm : m ≤ 50) :
    Dp K H (.ref a) (.list ds) ∧ (PyData.list ds).showable = true ∧ (PyData.list ds).hasDict = false ∧ (PyData.list ds).depth ≤ 60 ∧ (PyData.list ds).shown.length ≤ sizeLine := by
  have F := fit_list hf
  have e : (PyData.list ds).shown.length ≤ sizeLine := by
    rw [sizeLine_eq]
    have := F.len
    omega
  exact ⟨.lst h hd, F.ok, F.nod, Nat.le_trans F.dep (by omega), e⟩
theorem lTxt_mem {ns : List (Nat × Int)} (ok : NOk ns) : ∀ c ∈ TL.tl (lTxt ns), c < 16 ^ 8 := fun c hc => by
  unfold lTxt at hc
  rw [tl_glue] at hc
  refine Nat.lt_of_le_of_lt (m := 122) ?_ (by decide)
  rcases mem_glue hc with h | ⟨q, hq, h⟩
  · exact absurd h (by show c ∉ TL.tl Str.empty; intro z; cases z)
  · obtain ⟨r, hr, rfl⟩ := List.mem_map.mp hq
    obtain ⟨p, hp, rfl⟩ := List.mem_map.mp hr
    have := List.mem_singleton.mp h
    rw [this]
    exact (ok.let_ p hp).2
theorem lTxt_len {ns : List (Nat × Int)} (ok : NOk ns) : (lTxt ns).length ≤ 4 := by
  have h := glue_len (k := 1) (y := Str.empty) (l := ns.map fun p => ch p.1) fun y hy => by
    obtain ⟨p, hp, rfl⟩ := List.mem_map.mp hy
    exact Nat.le_refl _
  have e : Str.empty.length = 0 := rfl
  have := ok.four
  rw [List.length_map, e] at h
  unfold lTxt
  omega
theorem stTxt_len {ns : List (Nat × Int)} {cs : List (Int × Int)} (ok : NOk ns) (ck : COk cs) : (stTxt ns cs).length ≤ 3231 := by
  have a := nTxt_len ok
  have b := cTxt_len ck
  unfold stTxt
  rw [len_app, len_app, bar_len]
  omega
def tellD (ns : List (Nat × Int)) (cs : List (Int × Int)) : List PyData := [nD ns, cD cs, .str (lTxt ns), .str (stTxt ns cs)]
theorem fit_tell {ns : List (Nat × Int)} {cs : List (Int × Int)} (ok : NOk ns) (ck : COk cs) : ∀ d ∈ tellD ns cs, Fit d 32312 2 := fun d hd => by
  simp only [tellD, List.mem_cons, List.not_mem_nil, or_false] at hd
  rcases hd with rfl | rfl | rfl | rfl
  · exact fit_le (fit_n ok) (by decide) (by decide)
  · exact fit_le (fit_c ck) (by decide) (by decide)
  · exact fit_le (fit_str (lTxt_mem ok) (lTxt_len ok)) (by decide) (by decide)
  · exact fit_le (fit_str (fun c hc => stTxt_mem ok ck hc) (stTxt_len ok ck)) (by decide) (by decide)
theorem fit_ints {ps : List Int} (h : ∀ i ∈ ps, 0 ≤ i ∧ i ≤ 999) : ∀ d ∈ ps.map PyData.int, Fit d 5 0 := fun d hd => by
  obtain ⟨i, hi, rfl⟩ := List.mem_map.mp hd
  exact fit_int (h i hi).1 (h i hi).2
theorem andV_bl {ta tb : TE} {σ : L2.St} {H : Hp} {Q : VK} {c1 c2 : Bool} (h1 : ∀ R : VK, R (.bl c1) H → ta σ H R) (h2 : ∀ R : VK, R (.bl c2) H → tb σ H R) (q : Q (.bl (c1 && c2)) H) : tAndV ta tb σ H Q :=
  h1 _ ⟨c1, rfl, by
    cases c1 with
    | true => exact iteT (h2 _ q)
    | false => exact iteF q⟩
theorem inV_int (z : Int) : ∀ l : List Int, inV (.int z) (l.map V.int) = decide (z ∈ l)
  | [] => by simp [inV]
  | a :: t => by
    have ih := inV_int z t
    unfold inV at ih ⊢
    rw [List.map_cons, List.any_cons, ih]
    have : eqV (.int a) (.int z) = decide (a = z) := by
      show (a == z) = _
      rw [Bool.eq_iff_iff, beq_iff_eq, decide_eq_true_eq]
    rw [this, Bool.eq_iff_iff, Bool.or_eq_true, decide_eq_true_eq, decide_eq_true_eq, decide_eq_true_eq, List.mem_cons]
    exact ⟨fun h => h.imp Eq.symm id, fun h => h.imp Eq.symm id⟩
theorem flat_int (l : List Int) : (l.map V.int).all flatV = true := by
  rw [List.all_map, List.all_eq_true]
  intro c _
  rfl
def lookD (cs : List (Int × Int)) (i : Int) : PyData := match cs.find? (fun p => decide (p.1 = i)) with
  | some p => .int p.2
  | none => .none
theorem dp_look {K : PySem.W.Frag} {H : Hp} (cs : List (Int × Int)) (i : Int) : Dp K H (lookC cs i) (lookD cs i) := by
  unfold lookC lookD
  cases cs.find? fun p => decide (p.1 = i) with
  | none => exact .non
  | some p => exact .int _
theorem fit_look {cs : List (Int × Int)} (ck : COk cs) (i : Int) : Fit (lookD cs i) 5 0 := by
  unfold lookD
  cases h : cs.find? fun p => decide (p.1 = i) with
  | none => exact fit_non
  | some p =>
    obtain ⟨_, _, a, b⟩ := ck.pl p (List.mem_of_find?_eq_some h)
    exact fit_int a b
theorem scal_look (cs : List (Int × Int)) (i : Int) : scal (lookC cs i) (lookC cs i) = true := by
  unfold lookC
  cases cs.find? fun p => decide (p.1 = i) <;> rfl
theorem St.ins {K : PySem.W.Frag} {C : Addr} {H : Hp} {x : Addr} {ns : List (Nat × Int)} {cs : List (Int × Int)} (h : St K C H x ns cs) :
    ∃ (dx : Addr) (fs : List (Str × V)), H x = some (.ins C dx fs) ∧ fs.lookup (Str.ofString "at") = none ∧ fs.lookup (Str.ofString "arrow") = none ∧ fs.lookup (Str.ofString "is_gone") = none := by
  obtain ⟨v, u, dx, pd, ad, ld, ks, S⟩ := h
  exact ⟨dx, _, S.ob, rfl, rfl, rfl⟩
theorem bl_ne {α : Type} [DecidableEq α] (x : α) : V.bl (!decide (x = x)) = V.bl false := by simp
theorem ne0_eq (z : Int) : (!decide (V.int z = V.int 0)) = !decide (z = 0) := by simp
/-- for over a list that a local holds -/
theorem forL {K : PySem.W.Frag} {v : Nat} {l : Addr} {xs : List V} {g : TG} {tb : TS} {D : Ends} {σ : L2.St} {H : Hp} (Pv : Nat → L2.St → Hp → Prop) (hv : σ[v]? = some (some (.ref l))) (h0 : Pv 0 σ H) (hl : ∀ i σ H, i ≤ xs.length → Pv i σ H → SqL K H l xs)
    (hs : ∀ i x σ H, xs[i]? = some x → Pv i σ H → g x σ H fun σ2 H2 => tb { D with nx := Pv (i + 1), ct := Pv (i + 1), bk := D.nx } σ2 H2) (hd : ∀ σ H, Pv xs.length σ H → D.nx σ H) : tFor (iList K (tVar v)) g tb D σ H :=
  ⟨_, hv, l, rfl, ⟨_, hl 0 _ _ (Nat.zero_le _) h0⟩, for_list Pv h0 hl hs hd⟩
end K1
/-! What stands while one turn of the law runs. -/
namespace K1
open PySem PySem.Spec L2 Z
structure RS (K : PySem.W.Frag) (H0 H : Hp) (j : Addr) (v u : V) (pg : Addr) (ns : List (Nat × Int)) (cs : List (Int × Int)) (gs : List Int) : Prop where
  chg : Chg j H0 H
  jug : JugAt H j
  tn : TP K H v (ns.map nV)
  tc : TP K H u (cs.map cV)
  g : H pg = some (.lst (gs.map V.int))
  npg : pg ≠ j
theorem RS.same {K : PySem.W.Frag} {H0 H H' : Hp} {j pg : Addr} {v u : V} {ns : List (Nat × Int)} {cs : List (Int × Int)} {gs : List Int} (e : Same H H') (r : RS K H0 H j v u pg ns cs gs) : RS K H0 H' j v u pg ns cs gs :=
  ⟨r.chg.trans (Chg.of e), r.jug.same e, TP.imm (.of e) r.tn, TP.imm (.of e) r.tc, e _ _ r.g, r.npg⟩
theorem RS.cj {K : PySem.W.Frag} {H0 H H' : Hp} {j pg : Addr} {v u : V} {ns : List (Nat × Int)} {cs : List (Int × Int)} {gs : List Int} (e : Chg j H H') (hj : JugAt H' j) (r : RS K H0 H j v u pg ns cs gs) : RS K H0 H' j v u pg ns cs gs :=
  ⟨r.chg.trans e, hj, TP.imm (chg_imm e r.jug) r.tn, TP.imm (chg_imm e r.jug) r.tc, e _ _ r.g r.npg, r.npg⟩
theorem St.cj {K : PySem.W.Frag} {C j x : Addr} {H H' : Hp} {ns : List (Nat × Int)} {cs : List (Int × Int)} (e : Chg j H H') (hj : JugAt H j) (h : St K C H x ns cs) : St K C H' x ns cs := by
  obtain ⟨g, s, c, q, _, _⟩ := hj
  exact St.chg e q h
theorem same_mk {C : Addr} {H H' : Hp} {x dx : Addr} (hx : H x = none) (hdx : H dx = none) (hne : dx ≠ x) (c : Chg x (upd (upd H dx (.own x)) x (.ins C dx [])) H') : Same H H' := fun b o e => by
  have n1 : b ≠ x := ne_of_none e hx
  have n2 : b ≠ dx := ne_of_none e hdx
  exact c b o (by rw [upd_ne n1, upd_ne n2]; exact e) n1
theorem same_raw {C : Addr} {H : Hp} {x dx : Addr} (hx : H x = none) (hdx : H dx = none) (hne : dx ≠ x) : Same H (upd (upd H dx (.own x)) x (.ins C dx [])) := fun b o e => by
  have n1 : b ≠ x := ne_of_none e hx
  have n2 : b ≠ dx := ne_of_none e hdx
  rw [upd_ne n1, upd_ne n2]
  exact e
theorem names_of : ∀ {lcs : List Nat} {qs : List (V × V)}, Paired (fun c (q : V × V) => ∃ g : Int, q = (cS c, V.int g) ∧ 0 ≤ g ∧ g ≤ 999) lcs qs →
    ∃ ns : List (Nat × Int), qs = ns.map nV ∧ ns.map (·.1) = lcs ∧ ∀ p ∈ ns, 0 ≤ p.2 ∧ p.2 ≤ 999
  | _, _, .nil => ⟨[], rfl, rfl, by simp⟩
  | c :: _, _, .cons ⟨g, e, h⟩ t => by
    obtain ⟨ns, e1, e2, e3⟩ := names_of t
    refine ⟨(c, g) :: ns, by rw [e, e1]; rfl, by rw [List.map_cons, e2], fun p hp => ?_⟩
    rcases List.mem_cons.mp hp with rfl | hp
    · exact h
    · exact e3 p hp
theorem fit_bls {bs : List Bool} : ∀ d ∈ bs.map PyData.bool, Fit d 5 0 := fun d hd => by
  obtain ⟨b, _, rfl⟩ := List.mem_map.mp hd
  exact fit_bl b
theorem dp_bls {K : PySem.W.Frag} {H : Hp} : ∀ bs : List Bool, DpAll K H (bs.map V.bl) (bs.map PyData.bool)
  | [] => .nil
  | _ :: t => .cons (.bl _) (dp_bls t)
theorem repr_bls {K : PySem.W.Frag} {H : Hp} {a : Addr} (bs : List Bool) (h : H a = some (.lst (bs.map V.bl))) (hz : bs.length ≤ 100) :
    Dp K H (.ref a) (.list (bs.map PyData.bool)) ∧ (PyData.list (bs.map PyData.bool)).showable = true ∧ (PyData.list (bs.map PyData.bool)).hasDict = false ∧ (PyData.list (bs.map PyData.bool)).depth ≤ 60 ∧ (PyData.list (bs.map PyData.bool)).shown.length ≤ sizeLine :=
  repr_ok (.inl (.inl h)) (dp_bls bs) fit_bls (by rw [List.length_map]; omega) (by decide)
def two (ns : List (Nat × Int)) (cs : List (Int × Int)) : PyData := .tuple [nD ns, cD cs]
theorem dp_two {K : PySem.W.Frag} {H : Hp} {t : Addr} {v u : V} {ns : List (Nat × Int)} {cs : List (Int × Int)} (h : H t = some (.tup [v, u])) (tn : TP K H v (ns.map nV)) (tc : TP K H u (cs.map cV)) : Dp K H (.ref t) (two ns cs) :=
  .tup (.inl (.inl h)) (.cons (dp_n tn) (.cons (dp_c tc) .nil))
theorem shape_two {ns : List (Nat × Int)} {cs : List (Int × Int)} (ok : NOk ns) (ck : COk cs) : SeqAt.shaped (two ns cs) = true := by
  have a := shape_n ok
  have b := shape_c ck
  have c := (fit_n ok).dep
  have d := (fit_c ck).dep
  unfold SeqAt.shaped at a b ⊢
  rw [Bool.and_eq_true, decide_eq_true_eq] at a b ⊢
  refine ⟨?_, ?_⟩
  · simp only [two, PyData.canLay0, PyData.canLayAll0, a.1, b.1, Bool.and_true]
  · simp only [two, PyData.depth, PyData.depthAll]
    omega
theorem eqv_two (ns ns' : List (Nat × Int)) (cs cs' : List (Int × Int)) : (two ns' cs').eqv (two ns cs) = decide (ns = ns' ∧ cs = cs') := by
  have e : (two ns' cs').eqv (two ns cs) = (decide (ns' = ns) && (decide (cs' = cs) && true)) := by
    simp only [two, PyData.eqv, PyData.eqvAll, eqv_n, eqv_c]
  rw [e, Bool.and_true, Bool.eq_iff_iff, Bool.and_eq_true, decide_eq_true_eq, decide_eq_true_eq, decide_eq_true_eq]
  exact ⟨fun h => ⟨h.1.symm, h.2.symm⟩, fun h => ⟨h.1.symm, h.2.symm⟩⟩
theorem dec_sym (ns ns' : List (Nat × Int)) (cs cs' : List (Int × Int)) : decide (ns' = ns ∧ cs' = cs) = decide (ns = ns' ∧ cs = cs') := by
  rw [Bool.eq_iff_iff, decide_eq_true_eq, decide_eq_true_eq]
  exact ⟨fun h => ⟨h.1.symm, h.2.symm⟩, fun h => ⟨h.1.symm, h.2.symm⟩⟩
theorem at_end {gs : List Int} (h : gs ≠ []) : ∃ z, z ∈ gs ∧ atI (gs.map V.int) (-1) = some (V.int z) := by
  refine ⟨gs.getLast h, List.getLast_mem h, ?_⟩
  have e : gs.map V.int = (gs.dropLast).map V.int ++ [V.int (gs.getLast h)] := by
    conv => lhs; rw [← List.dropLast_concat_getLast h]
    rw [List.map_append]
    rfl
  rw [e]
  exact atI_last _ _
theorem St.get {K : PySem.W.Frag} {C : Addr} {H : Hp} {x : Addr} {ns : List (Nat × Int)} {cs : List (Int × Int)} (h : St K C H x ns cs) :
    ∃ (dx : Addr) (fs : List (Str × V)), H x = some (.ins C dx fs) ∧ fs.lookup (Str.ofString "text") = some (.str (stTxt ns cs)) := by
  obtain ⟨v, u, dx, pd, ad, ld, ks, S⟩ := h
  exact ⟨dx, _, S.ob, rfl⟩
theorem dec_same (ns : List (Nat × Int)) (cs : List (Int × Int)) : decide (ns = ns ∧ cs = cs) = true := by simp
end K1
/-! Ways: steps along the arrows until there is no cell, or one that was seen. -/
namespace K1
open PySem PySem.Spec L2 Z
def nx (cs : List (Int × Int)) (i : Int) : Int := match cs.find? (fun p => decide (p.1 = i)) with
  | some p => p.2
  | none => 0
def steps (cs : List (Int × Int)) : Nat → List Int → Int → List Int × Int
  | 0, a, p => (a, p)
  | k + 1, a, p => if (isC cs p && !decide (p ∈ a)) = true then steps cs k (a ++ [p]) (nx cs p) else (a, p)
def along (cs : List (Int × Int)) (p : Int) : List Int × Int := steps cs (cs.length + 1) [] p
theorem steps_go {cs : List (Int × Int)} {k : Nat} {a : List Int} {p : Int} (h : isC cs p = true) (h2 : p ∉ a) : steps cs (k + 1) a p = steps cs k (a ++ [p]) (nx cs p) := by
  show (if (isC cs p && !decide (p ∈ a)) = true then _ else _) = _
  rw [if_pos]
  rw [h, decide_eq_false h2]
  rfl
theorem steps_end {cs : List (Int × Int)} {a : List Int} {p : Int} (h : isC cs p = false ∨ p ∈ a) : ∀ k, steps cs k a p = (a, p)
  | 0 => rfl
  | k + 1 => by
    show (if (isC cs p && !decide (p ∈ a)) = true then _ else _) = _
    rw [if_neg]
    rcases h with h | h
    · rw [h]
      simp
    · rw [decide_eq_true h]
      simp
theorem get_nx {cs : List (Int × Int)} {p : Int} (h : isC cs p = true) : valV (kC cs) (Sum.inl p : Key) = some (.int (nx cs p)) := by
  rw [find_c]
  have := some_c cs p
  rw [h, find_c, Option.isSome_map] at this
  unfold nx
  cases e : cs.find? fun q => decide (q.1 = p) with
  | none => rw [e] at this; cases this
  | some q => rfl
theorem isC_mem {cs : List (Int × Int)} {p : Int} : isC cs p = true ↔ p ∈ cs.map (·.1) := by
  unfold isC
  rw [List.any_eq_true, List.mem_map]
  constructor
  · rintro ⟨q, hq, e⟩
    exact ⟨q, hq, of_decide_eq_true e⟩
  · rintro ⟨q, hq, e⟩
    exact ⟨q, hq, decide_eq_true e⟩
theorem nodup_lenG {α : Type} [DecidableEq α] : ∀ {S l : List α}, S.Nodup → (∀ c ∈ S, c ∈ l) → S.length ≤ l.length
  | [], _, _, _ => Nat.zero_le _
  | a :: t, l, hS, h => by
    obtain ⟨h1, h2⟩ := List.nodup_cons.mp hS
    have ha := h a List.mem_cons_self
    have h3 := nodup_lenG (S := t) (l := l.erase a) h2 fun c hc => (List.mem_erase_of_ne (fun z : c = a => h1 (z ▸ hc))).mpr (h c (List.mem_cons_of_mem _ hc))
    rw [List.length_erase_of_mem ha] at h3
    have := List.length_pos_of_mem ha
    rw [List.length_cons]
    omega
/-- places of cells, none twice: no more than the cells -/
theorem seen_len {cs : List (Int × Int)} {a : List Int} (nd : a.Nodup) (h : ∀ p ∈ a, isC cs p = true) : a.length ≤ cs.length := by
  have := nodup_lenG (l := cs.map (·.1)) nd fun p hp => isC_mem.mp (h p hp)
  rw [List.length_map] at this
  exact this
theorem nodup_snoc {a : List Int} {p : Int} (nd : a.Nodup) (h : p ∉ a) : (a ++ [p]).Nodup := List.nodup_append.mpr ⟨nd, by simp, fun u hu v hv e => by
  cases List.mem_singleton.mp hv
  exact h (e ▸ hu)⟩
/-- where the steps end there is no cell, or one that was seen -/
theorem steps_stop {cs : List (Int × Int)} : ∀ (k : Nat) (a : List Int) (p : Int), a.Nodup → (∀ q ∈ a, isC cs q = true) → cs.length < k + a.length →
    (isC cs (steps cs k a p).2 = false ∨ (steps cs k a p).2 ∈ (steps cs k a p).1) ∧ (steps cs k a p).1.Nodup ∧ ∀ q ∈ (steps cs k a p).1, isC cs q = true
  | 0, a, p, nd, h, hk => by
    have := seen_len nd h
    omega
  | k + 1, a, p, nd, h, hk => by
    by_cases hc : isC cs p = true ∧ p ∉ a
    · rw [steps_go hc.1 hc.2]
      refine steps_stop k (a ++ [p]) (nx cs p) (nodup_snoc nd hc.2) (fun q hq => ?_) (by rw [List.length_append]; show cs.length < k + (a.length + 1); omega)
      rcases List.mem_append.mp hq with z | z
      · exact h q z
      · rw [List.mem_singleton.mp z]
        exact hc.1
    · have he : isC cs p = false ∨ p ∈ a := by
        cases e : isC cs p with
        | false => exact .inl rfl
        | true => exact .inr (Classical.byContradiction fun z => hc ⟨e, z⟩)
      rw [steps_end he]
      exact ⟨he, nd, h⟩
theorem along_stop (cs : List (Int × Int)) (p : Int) : (isC cs (along cs p).2 = false ∨ (along cs p).2 ∈ (along cs p).1) ∧ (along cs p).1.Nodup ∧ ∀ q ∈ (along cs p).1, isC cs q = true :=
  steps_stop _ _ _ List.nodup_nil (by simp) (by simp)
def idx (a : List Int) (q : Int) : Nat := a.findIdx fun z => decide (z = q)
theorem idx_spec {a : List Int} {q : Int} (h : q ∈ a) : a[idx a q]? = some q ∧ ∀ (m : Nat) (z : Int), m < idx a q → a[m]? = some z → z ≠ q := by
  have hlt : idx a q < a.length := List.findIdx_lt_length_of_exists ⟨q, h, by simp⟩
  refine ⟨?_, fun m z hm hz => ?_⟩
  · have := List.findIdx_getElem (w := hlt)
    have e : a[idx a q] = q := of_decide_eq_true this
    rw [List.getElem?_eq_getElem hlt, e]
  · have := List.not_of_lt_findIdx (p := fun z => decide (z = q)) (xs := a) hm
    obtain ⟨h1, h2⟩ := List.getElem?_eq_some_iff.mp hz
    rw [h2] at this
    simpa using this
theorem index_ok {a : List Int} {q : Int} (h : q ∈ a) : (a.map V.int)[idx a q]? = some (V.int q) ∧ eqV (V.int q) (V.int q) = true ∧ ∀ (m : Nat) (z : V), m < idx a q → (a.map V.int)[m]? = some z → eqV z (V.int q) = false := by
  obtain ⟨h1, h2⟩ := idx_spec h
  refine ⟨by rw [List.getElem?_map, h1]; rfl, ?_, fun m z hm hz => ?_⟩
  · show (q == q) = true
    exact beq_self_eq_true q
  · obtain ⟨i, hi, rfl⟩ := map_at hz
    show (i == q) = false
    exact beq_eq_false_iff_ne.mpr (h2 m i hm hi)
def partsV (cs : List (Int × Int)) (p : Int) : Option (Int × Int) := if isC cs (along cs p).2 = true then some ((idx (along cs p).1 (along cs p).2 : Nat), ((along cs p).1.length : Int) - (idx (along cs p).1 (along cs p).2 : Nat)) else none
section
variable (K : PySem.W.Frag) (C : Addr)
def sp_tail : Sp := fun vs H Q _ => ∃ (x : Addr) (ns : List (Nat × Int)) (cs : List (Int × Int)) (p : Nat × Int), vs = [.ref x, .str (ch p.1)] ∧ St K C H x ns cs ∧ p ∈ ns ∧ ∀ (H' : Hp), Same H H' →
  (partsV cs p.2 = none → Q .non H') ∧ ∀ i j, partsV cs p.2 = some (i, j) → ∀ t, H t = none → H' t = some (.tup [.int i, .int j]) → Q (.ref t) H'
def sp_law_gone_along : Sp := fun vs H Q _ => ∃ (d : Addr) (p : Int) (cs : List (Int × Int)), vs = [.ref d, .int p] ∧ H d = some (.dK (kC cs)) ∧ cs.length ≤ 400 ∧ ∀ (H' : Hp) (t l : Addr), Same H H' → H l = none → H' t = some (.tup [.ref l, .int (along cs p).2]) → H' l = some (.lst ((along cs p).1.map V.int)) → Q (.ref t) H'
def sp_followed : Sp := fun vs H Q _ => ∃ (x : Addr) (ns : List (Nat × Int)) (cs : List (Int × Int)) (p : Nat × Int), vs = [.ref x, .str (ch p.1)] ∧ St K C H x ns cs ∧ p ∈ ns ∧ ∀ (H' : Hp) (t l : Addr), Same H H' → H l = none → H' t = some (.tup [.ref l, .int (along cs p.2).2]) → H' l = some (.lst ((along cs p.2).1.map V.int)) → Q (.ref t) H'
def sp_need_store : Sp := fun vs H Q _ => ∃ (x : Addr) (ns : List (Nat × Int)) (cs : List (Int × Int)), vs = [.ref x] ∧ St K C H x ns cs ∧ Q .non H
def sp_way : Sp := fun vs H Q _ => ∃ (x : Addr) (ns : List (Nat × Int)) (cs : List (Int × Int)) (p : Nat × Int), vs = [.ref x, .str (ch p.1)] ∧ St K C H x ns cs ∧ p ∈ ns ∧ ∀ (H' : Hp) (t : Addr), Same H H' → PT H' t ((along cs p.2).1.map V.int) → Q (.ref t) H'
def sp_way_end : Sp := fun vs H Q _ => ∃ (x : Addr) (ns : List (Nat × Int)) (cs : List (Int × Int)) (p : Nat × Int), vs = [.ref x, .str (ch p.1)] ∧ St K C H x ns cs ∧ p ∈ ns ∧ ∀ (H' : Hp), Same H H' → Q (.int (along cs p.2).2) H'
end
end K1
/-! Dicts made of lists; cells that are reached. -/
namespace K1
open PySem PySem.Spec L2 Z
theorem dc_it {J : It} {n : Nat} {g : TG} {tt : TT} {tk tv : TE} {vs : List Nat} {σ : L2.St} {H1 : Hp} {D : Addr} {Qd : Hp → Prop} (Pv : Nat → Hp → Prop) (h0 : Pv 0 (upd H1 D (.dK []))) (go : ∀ i H, i < n → Pv i H → J.go i H) (stop : ∀ H, Pv n H → J.stop n H)
    (hs : ∀ i x H H', i < n → Pv i H → J.yld i H x H' → g x (wipe σ vs) H' fun σ2 H2 => wipe σ2 vs = wipe σ vs ∧ tt σ2 H2 fun b H3 =>
      if b = true then tk σ2 H3 fun y H4 => tv σ2 H4 fun z H5 => ∃ kvs k, y = kV k ∧ H5 D = some (.dK kvs) ∧ kvs.length < sizeLine ∧ Pv (i + 1) (upd H5 D (.dK (putK kvs k z))) else Pv (i + 1) H3) (hd : ∀ H, Pv n H → Qd H) :
    ∃ W : Nat → Nat → Hp → Prop, (∃ m, W 0 m (upd H1 D (.dK []))) ∧ ∀ i m H, W i m H →
      (J.stop i H ∧ Qd H) ∨ (J.go i H ∧ ∃ Nx : Hp → Prop, (∀ H', Nx H' → ∃ m', m' < m ∧ W (i + 1) m' H') ∧ ∀ x H', J.yld i H x H' → g x (wipe σ vs) H' fun σ2 H2 => wipe σ2 vs = wipe σ vs ∧ tt σ2 H2 fun b H3 =>
        if b = true then tk σ2 H3 fun y H4 => tv σ2 H4 fun z H5 => ∃ kvs k, y = kV k ∧ H5 D = some (.dK kvs) ∧ kvs.length < sizeLine ∧ Nx (upd H5 D (.dK (putK kvs k z))) else Nx H3) := by
  refine ⟨fun i m H => m = n - i ∧ i ≤ n ∧ Pv i H, ⟨n, by simp, Nat.zero_le _, h0⟩, ?_⟩
  rintro i m H ⟨rfl, hi, p⟩
  by_cases hlt : i < n
  · exact .inr ⟨go i H hlt p, Pv (i + 1), fun H' p' => ⟨n - (i + 1), by omega, rfl, hlt, p'⟩, fun x H' y => hs i x H H' hlt p y⟩
  · have e : i = n := by omega
    subst e
    exact .inl ⟨stop H p, hd H p⟩
/-- a dict whose keys are the ints of a list -/
theorem dcI {K : PySem.W.Frag} {gs : List Int} {v : Nat} {l : Addr} {g : TG} {tk tv : TE} {vs : List Nat} {σ : L2.St} {H : Hp} {Q : VK} (hv : σ[v]? = some (some (.ref l))) (hl : H l = some (.lst (gs.map V.int))) (hz : gs.length ≤ 1000)
    (hs : ∀ (i : Int) H' (R : V → V → Hp → Prop), Same H H' → R (.int i) (.bl true) H' → g (.int i) (wipe σ vs) H' fun σ2 H2 => wipe σ2 vs = wipe σ vs ∧ tk σ2 H2 fun y H4 => tv σ2 H4 fun z H5 => R y z H5)
    (hd : ∀ H' D kvs, Same H H' → H D = none → H' D = some (.dK kvs) → (∀ j : Int, (valV kvs (Sum.inl j : Key)).isSome = decide (j ∈ gs)) → Q (.ref D) H') : tDc (iList K (tVar v)) g tYes tk tv vs σ H Q := by
  refine ⟨_, hv, l, rfl, ⟨_, .inl (.inl hl)⟩, fun D hD => ?_⟩
  refine dc_it (n := gs.length) (fun i H' => Same H H' ∧ ∃ kvs : List (Key × V), H' D = some (.dK kvs) ∧ kvs.length ≤ i ∧ ∀ j : Int, (valV kvs (Sum.inl j : Key)).isSome = decide (j ∈ gs.take i)) ⟨same_new hD, [], upd_same, Nat.le_refl _, fun j => by simp [valV_nil]⟩
    (fun i H' hi h => ⟨gs.map V.int, (gs.map V.int)[i]'(by simpa using hi), .inl (.inl (h.1 _ _ hl)), List.getElem?_eq_getElem _⟩) (fun H' h => ⟨gs.map V.int, .inl (.inl (h.1 _ _ hl)), by simp⟩) (fun i x H' H2 hi h y => ?_) (fun H' h => ?_)
  · obtain ⟨s2, kvs, hk, kl, hv⟩ := h
    obtain ⟨rfl, y⟩ := y
    obtain ⟨z, e4, rfl⟩ := map_at (y _ (.inl (.inl (s2 _ _ hl))))
    refine hs z H2 (fun y z2 H5 => ∃ kvs k, y = kV k ∧ H5 D = some (.dK kvs) ∧ kvs.length < sizeLine ∧ (Same H (upd H5 D (.dK (putK kvs k z2))) ∧ ∃ kvs' : List (Key × V), upd H5 D (.dK (putK kvs k z2)) D = some (.dK kvs') ∧ kvs'.length ≤ i + 1 ∧ ∀ j : Int, (valV kvs' (Sum.inl j : Key)).isSome = decide (j ∈ gs.take (i + 1)))) s2
      ⟨kvs, Sum.inl z, rfl, hk, ?_, fun c o e => ?_, _, upd_same, ?_, fun j => ?_⟩
    · exact small1000 (by omega)
    · rw [upd_ne (ne_of_none e hD)]
      exact s2 _ _ e
    · exact Nat.le_trans (length_putK _ _ _) (by omega)
    · rw [valV_put, List.take_add_one, e4]
      by_cases ej : j = z
      · subst ej
        rw [if_pos rfl]
        simp
      · rw [if_neg (fun q => ej (Sum.inl.inj q)), hv]
        simp [ej]
  · obtain ⟨s2, kvs, hk, _, hv⟩ := h
    rw [List.take_length] at hv
    exact hd H' D kvs s2 hD hk hv
def cmV : Option Int → V
  | some z => .int z
  | none => .non
def common (cs : List (Int × Int)) (p q : Int) : Option Int := (along cs p).1.find? fun z => decide (z ∈ (along cs q).1)
def kT (a : List Int) : List (Key × V) := a.map fun z => (Sum.inl z, V.bl true)
def come (cs : List (Int × Int)) (ns : List (Nat × Int)) : List Int := ns.foldl (fun a p => (steps cs (cs.length + 1) a p.2).1) []
theorem val_T (a : List Int) (j : Int) : (valV (kT a) (Sum.inl j : Key)).isSome = decide (j ∈ a) := by
  rw [Bool.eq_iff_iff, decide_eq_true_eq, ← valV_any, List.any_eq_true]
  unfold kT
  constructor
  · rintro ⟨kv, hk, e⟩
    obtain ⟨z, hz, rfl⟩ := List.mem_map.mp hk
    have := of_decide_eq_true e
    cases this
    exact hz
  · intro h
    exact ⟨_, List.mem_map_of_mem h, by simp⟩
theorem put_T {a : List Int} {q : Int} (h : q ∉ a) : putK (kT a) (Sum.inl q : Key) (V.bl true) = kT (a ++ [q]) := by
  have e : valV (kT a) (Sum.inl q : Key) = none := by
    have := val_T a q
    rw [decide_eq_false h] at this
    simpa using this
  rw [putK_new _ e]
  unfold kT
  rw [List.map_append]
  rfl
/-- a comprehension over a tuple of pairs with a test -/
theorem lcPc {α : Type} {K : PySem.W.Frag} {rs : List Addr} {ls : List α} {a : Addr} {g : TG} {te : TE} {tt : TT} {t0 : TE} {vs : List Nat} {σ : L2.St} {H : Hp} {Q : VK} (emb : α → V × V) (f : α → V) (c : α → Bool) (hv : ∀ R : VK, R (.ref a) H → t0 σ H R)
    (hT : PT H a (rs.map V.ref)) (hp : Paired (fun b (p : V × V) => SqT K H b [p.1, p.2]) rs (ls.map emb)) (hz : ls.length ≤ 1000)
    (hs : ∀ b p H' (R : V → Hp → Prop) (R2 : Prop), Same H H' → SqT K H' b [(emb p).1, (emb p).2] → p ∈ ls → (c p = true → R (f p) H') → (c p = false → R2) →
      g (.ref b) (wipe σ vs) H' fun σ2 H2 => wipe σ2 vs = wipe σ vs ∧ tt σ2 H2 fun b H3 => H3 = H' ∧ if b = true then te σ2 H3 R else R2)
    (mono : ∀ b σ H Q Q', (∀ σ2 H2, Q σ2 H2 → Q' σ2 H2) → g b σ H Q → g b σ H Q') (monot : ∀ σ H Q Q', (∀ b H2, Q b H2 → Q' b H2) → tt σ H Q → tt σ H Q')
    (hd : ∀ H' D, Same H H' → H D = none → H' D = some (.lst ((ls.filter c).map f)) → Q (.ref D) H') : tLc (iTup K t0) g tt te vs σ H Q := by
  refine hv _ ⟨a, rfl, ⟨_, hT.sq⟩, fun D hD => ?_⟩
  have hl : rs.length = ls.length := by rw [Paired.len hp, List.length_map]
  refine lc_tup (xs := rs.map V.ref) (fun i H' => Same H H' ∧ H' D = some (.lst (((ls.take i).filter c).map f))) ⟨same_new hD, upd_same⟩ (fun i H' _ h => (PT.same h.1 hT).sq) (fun i x H' hx h => ?_) (fun H' h => hd H' D h.1 hD ?_)
  · obtain ⟨sm, hDl⟩ := h
    obtain ⟨b, p, rfl, e1, e2, hq⟩ := pairs_at (Paired.imm (.of sm) hp) hx
    obtain ⟨q, e3, rfl⟩ := map_at e2
    have hi : i < ls.length := (List.getElem?_eq_some_iff.mp e3).1
    refine mono _ _ _ _ _ (fun σ2 H2 w => ⟨w.1, monot _ _ _ _ (fun b H3 w2 => ?_) w.2⟩) (hs b q H' (fun y H4 => ∃ acc, H4 D = some (.lst acc) ∧ acc.length < sizeLine ∧ Same H (upd H4 D (.lst (acc ++ [y]))) ∧ upd H4 D (.lst (acc ++ [y])) D = some (.lst (((ls.take (i + 1)).filter c).map f)))
      (Same H H' ∧ H' D = some (.lst (((ls.take (i + 1)).filter c).map f))) sm hq (List.mem_of_getElem? e3) (fun hc => ⟨_, hDl, ?_, fun c o e => ?_, ?_⟩) (fun hc => ⟨sm, ?_⟩))
    · obtain ⟨rfl, w3⟩ := w2
      exact w3
    · rw [List.length_map]
      refine small1000 ?_
      have := List.length_filter_le c (ls.take i)
      rw [List.length_take] at this
      omega
    · rw [upd_ne (ne_of_none e hD)]
      exact sm _ _ e
    · rw [upd_same, List.take_add_one, e3, List.filter_append, List.map_append]
      simp [hc]
    · rw [hDl, List.take_add_one, e3, List.filter_append]
      simp [hc]
  · have := h.2
    rw [List.length_map, hl, List.take_length] at this
    exact this
theorem come_ok (cs : List (Int × Int)) : ∀ (ns : List (Nat × Int)) (a : List Int), a.Nodup → (∀ r ∈ a, isC cs r = true) → (ns.foldl (fun a p => (steps cs (cs.length + 1) a p.2).1) a).Nodup ∧ ∀ r ∈ ns.foldl (fun a p => (steps cs (cs.length + 1) a p.2).1) a, isC cs r = true
  | [], a, nd, h => ⟨nd, h⟩
  | p :: t, a, nd, h => by
    have s := steps_stop (cs.length + 1) a p.2 nd h (by omega)
    exact come_ok cs t _ s.2.1 s.2.2
theorem come_len (cs : List (Int × Int)) (ns : List (Nat × Int)) : (come cs ns).length ≤ cs.length := by
  have h := come_ok cs ns [] List.nodup_nil (by simp)
  exact seen_len h.1 h.2
section
variable (K : PySem.W.Frag) (C : Addr)
def sp_first_common : Sp := fun vs H Q _ => ∃ (x : Addr) (ns : List (Nat × Int)) (cs : List (Int × Int)) (p q : Nat × Int), vs = [.ref x, .str (ch p.1), .str (ch q.1)] ∧ St K C H x ns cs ∧ p ∈ ns ∧ q ∈ ns ∧ ∀ (H' : Hp), Same H H' →
  Q (cmV (common cs p.2 q.2)) H'
def sp_reached_cells : Sp := fun vs H Q _ => ∃ (x : Addr) (ns : List (Nat × Int)) (cs : List (Int × Int)), vs = [.ref x] ∧ St K C H x ns cs ∧ ∀ (H' : Hp) (d : Addr), Same H H' → H d = none → H' d = some (.dK (kT (come cs ns))) → Q (.ref d) H'
def sp_lost : Sp := fun vs H Q _ => ∃ (x : Addr) (ns : List (Nat × Int)) (cs : List (Int × Int)), vs = [.ref x] ∧ St K C H x ns cs ∧ ∀ (H' : Hp) (t : Addr), Same H H' → PT H' t (((cs.map (·.1)).filter fun z => !decide (z ∈ come cs ns)).map V.int) → Q (.ref t) H'
def sp_reached : Sp := fun vs H Q _ => ∃ (x : Addr) (ns : List (Nat × Int)) (cs : List (Int × Int)), vs = [.ref x] ∧ St K C H x ns cs ∧ cs.length < 64 ∧ ∀ (H' : Hp) (t : Addr) (l : List Int), Same H H' → l.Perm (come cs ns) → l.Pairwise (· ≤ ·) → PT H' t (l.map V.int) → Q (.ref t) H'
def sp_law_drawn_store : Sp := fun vs H Q _ => ∃ (j pl : Addr) (m : Int) (lcs : List Nat), vs = [.ref j, .ref pl, .int m] ∧ JugAt H j ∧ H pl = some (.lst (lcs.map cS)) ∧ pl ≠ j ∧ 0 ≤ m ∧ m ≤ 30 ∧ 1 ≤ lcs.length ∧ lcs.length ≤ 4 ∧ (∀ c ∈ lcs, 97 ≤ c ∧ c ≤ 122) ∧ lcs.Pairwise (· < ·) ∧
  ∀ (H' : Hp) (t : Addr) (v u : V) (ns : List (Nat × Int)) (cs : List (Int × Int)), Chg j H H' → JugAt H' j → H' t = some (.tup [v, u]) → TP K H' v (ns.map nV) → TP K H' u (cs.map cV) → NOk ns → COk cs → cs.length ≤ 30 → Q (.ref t) H'
end
end K1
/-! The union of ways is one list, however it is gathered. -/
namespace K1
open PySem PySem.Spec L2 Z
/-- what a leads to is in a, or p, or no cell -/
def Closed (cs : List (Int × Int)) (a : List Int) (p : Int) : Prop := ∀ r ∈ a, nx cs r ∈ a ∨ nx cs r = p ∨ isC cs (nx cs r) = false
theorem steps_in {cs : List (Int × Int)} {a : List Int} (h : ∀ r ∈ a, nx cs r ∈ a ∨ isC cs (nx cs r) = false) : ∀ (k : Nat) (b : List Int) (p : Int), p ∈ a ∨ isC cs p = false →
    ∃ c : List Int, (steps cs k b p).1 = b ++ c ∧ ∀ r ∈ c, r ∈ a
  | 0, b, p, _ => ⟨[], by simp [steps], by simp⟩
  | k + 1, b, p, hp => by
    by_cases hc : isC cs p = true ∧ p ∉ b
    · have pa : p ∈ a := by
        rcases hp with z | z
        · exact z
        · rw [hc.1] at z
          cases z
      rw [steps_go hc.1 hc.2]
      obtain ⟨c, e, hcc⟩ := steps_in h k (b ++ [p]) (nx cs p) (h p pa)
      refine ⟨p :: c, by rw [e, List.append_assoc]; rfl, fun r hr => ?_⟩
      rcases List.mem_cons.mp hr with rfl | hr
      · exact pa
      · exact hcc r hr
    · have he : isC cs p = false ∨ p ∈ b := by
        cases e : isC cs p with
        | false => exact .inl rfl
        | true => exact .inr (Classical.byContradiction fun z => hc ⟨e, z⟩)
      rw [steps_end he]
      exact ⟨[], by simp, by simp⟩
theorem filter_all {a b : List Int} (h : ∀ r ∈ b, r ∉ a) : b.filter (fun z => !decide (z ∈ a)) = b := List.filter_eq_self.mpr fun r hr => by
  rw [decide_eq_false (h r hr)]
  rfl
theorem filter_none {a c : List Int} (h : ∀ r ∈ c, r ∈ a) : c.filter (fun z => !decide (z ∈ a)) = [] := List.filter_eq_nil_iff.mpr fun r hr => by
  rw [decide_eq_true (h r hr)]
  simp
theorem steps_union {cs : List (Int × Int)} {a : List Int} (h : ∀ r ∈ a, nx cs r ∈ a ∨ isC cs (nx cs r) = false) : ∀ (k : Nat) (b : List Int) (p : Int), (∀ r ∈ b, r ∉ a) →
    (steps cs k (a ++ b) p).1 = a ++ (steps cs k b p).1.filter (fun z => !decide (z ∈ a))
  | 0, b, p, hb => by
    show a ++ b = a ++ b.filter _
    rw [filter_all hb]
  | k + 1, b, p, hb => by
    by_cases hc : isC cs p = true
    · by_cases h1 : p ∈ a
      · rw [steps_end (.inr (List.mem_append_left b h1))]
        obtain ⟨c, e, hcc⟩ := steps_in h (k + 1) b p (.inl h1)
        rw [e, List.filter_append, filter_all hb, filter_none hcc, List.append_nil]
      · by_cases h2 : p ∈ b
        · rw [steps_end (.inr (List.mem_append_right a h2)), steps_end (.inr h2), filter_all hb]
        · have h3 : p ∉ a ++ b := fun z => by
            rcases List.mem_append.mp z with w | w
            · exact h1 w
            · exact h2 w
          rw [steps_go hc h3, steps_go hc h2, List.append_assoc]
          refine steps_union h k (b ++ [p]) (nx cs p) fun r hr => ?_
          rcases List.mem_append.mp hr with w | w
          · exact hb r w
          · rw [List.mem_singleton.mp w]
            exact h1
    · have hc' : isC cs p = false := by simpa using hc
      rw [steps_end (.inl hc'), steps_end (.inl hc'), filter_all hb]
theorem steps_closed {cs : List (Int × Int)} : ∀ (k : Nat) (a : List Int) (p : Int), a.Nodup → (∀ q ∈ a, isC cs q = true) → cs.length < k + a.length → Closed cs a p →
    ∀ r ∈ (steps cs k a p).1, nx cs r ∈ (steps cs k a p).1 ∨ isC cs (nx cs r) = false
  | 0, a, p, nd, h, hk, _ => by
    have := seen_len nd h
    omega
  | k + 1, a, p, nd, h, hk, cl => by
    by_cases hc : isC cs p = true ∧ p ∉ a
    · rw [steps_go hc.1 hc.2]
      refine steps_closed k (a ++ [p]) (nx cs p) (nodup_snoc nd hc.2) (fun q hq => ?_) (by rw [List.length_append]; show cs.length < k + (a.length + 1); omega) fun r hr => ?_
      · rcases List.mem_append.mp hq with z | z
        · exact h q z
        · rw [List.mem_singleton.mp z]
          exact hc.1
      · rcases List.mem_append.mp hr with z | z
        · rcases cl r z with w | w | w
          · exact .inl (List.mem_append_left _ w)
          · exact .inl (List.mem_append_right _ (by rw [w]; exact List.mem_singleton_self _))
          · exact .inr (.inr w)
        · rw [List.mem_singleton.mp z]
          exact .inr (.inl rfl)
    · have he : isC cs p = false ∨ p ∈ a := by
        cases e : isC cs p with
        | false => exact .inl rfl
        | true => exact .inr (Classical.byContradiction fun z => hc ⟨e, z⟩)
      rw [steps_end he]
      intro r hr
      rcases cl r hr with w | w | w
      · exact .inl w
      · rcases he with z | z
        · exact .inr (by rw [w]; exact z)
        · exact .inl (by rw [w]; exact z)
      · exact .inr w
/-- one more way, gathered by the law's own filter -/
theorem come_step {cs : List (Int × Int)} {a : List Int} (p : Int) (nd : a.Nodup) (h : ∀ q ∈ a, isC cs q = true) (cl : ∀ r ∈ a, nx cs r ∈ a ∨ isC cs (nx cs r) = false) :
    (steps cs (cs.length + 1) a p).1 = a ++ (along cs p).1.filter (fun z => !decide (z ∈ a)) ∧ (steps cs (cs.length + 1) a p).1.Nodup ∧ (∀ q ∈ (steps cs (cs.length + 1) a p).1, isC cs q = true) ∧
      ∀ r ∈ (steps cs (cs.length + 1) a p).1, nx cs r ∈ (steps cs (cs.length + 1) a p).1 ∨ isC cs (nx cs r) = false := by
  have u := steps_union cl (cs.length + 1) [] p (by simp)
  rw [List.append_nil] at u
  have s := steps_stop (cs.length + 1) a p nd h (by omega)
  exact ⟨u, s.2.1, s.2.2, steps_closed _ _ _ nd h (by omega) fun r hr => (cl r hr).elim .inl fun z => .inr (.inr z)⟩
def sp_law_knots (K : PySem.W.Frag) : Sp := fun vs H Q _ => ∃ (v : V) (d : Addr) (ns : List (Nat × Int)) (cs : List (Int × Int)), vs = [v, .ref d] ∧ TP K H v (ns.map nV) ∧ H d = some (.dK (kC cs)) ∧ NOk ns ∧ cs.length ≤ 400 ∧
  ∀ (H' : Hp) (t lf lc : Addr), Same H H' → H' t = some (.tup [.ref lf, .ref lc]) → H' lc = some (.lst ((come cs ns).map V.int)) → Q (.ref t) H'
def sp_law_way_right (K : PySem.W.Frag) (C : Addr) : Sp := fun vs H Q _ => ∃ (x : Addr) (v : V) (d : Addr) (ns : List (Nat × Int)) (cs : List (Int × Int)) (i : Nat), vs = [.ref x, v, .ref d, .int (i : Int)] ∧ St K C H x ns cs ∧ TP K H v (ns.map nV) ∧ H d = some (.dK (kC cs)) ∧ i < ns.length ∧ ∀ H', Same H H' → Q (.bl true) H'
theorem nx_range {cs : List (Int × Int)} (ck : COk cs) (p : Int) : 0 ≤ nx cs p ∧ nx cs p ≤ 999 := by
  unfold nx
  cases h : cs.find? fun q => decide (q.1 = p) with
  | none => exact ⟨by decide, by decide⟩
  | some q =>
    obtain ⟨_, _, a, b⟩ := ck.pl q (List.mem_of_find?_eq_some h)
    exact ⟨a, b⟩
theorem steps_range {cs : List (Int × Int)} (ck : COk cs) : ∀ (k : Nat) (a : List Int) (p : Int), 0 ≤ p → p ≤ 999 → 0 ≤ (steps cs k a p).2 ∧ (steps cs k a p).2 ≤ 999
  | 0, a, p, h, h2 => ⟨h, h2⟩
  | k + 1, a, p, h, h2 => by
    by_cases hc : isC cs p = true ∧ p ∉ a
    · rw [steps_go hc.1 hc.2]
      exact steps_range ck k _ _ (nx_range ck p).1 (nx_range ck p).2
    · have he : isC cs p = false ∨ p ∈ a := by
        cases e : isC cs p with
        | false => exact .inl rfl
        | true => exact .inr (Classical.byContradiction fun z => hc ⟨e, z⟩)
      rw [steps_end he]
      exact ⟨h, h2⟩
theorem along_range {cs : List (Int × Int)} (ck : COk cs) {p : Int} (h : 0 ≤ p) (h2 : p ≤ 999) : (0 ≤ (along cs p).2 ∧ (along cs p).2 ≤ 999) ∧ ∀ z ∈ (along cs p).1, 0 ≤ z ∧ z ≤ 999 := by
  refine ⟨steps_range ck _ _ _ h h2, fun z hz => ?_⟩
  obtain ⟨q, hq, rfl⟩ := List.mem_map.mp (isC_mem.mp ((along_stop cs p).2.2 z hz))
  obtain ⟨a, b, _, _⟩ := ck.pl q hq
  exact ⟨by omega, b⟩
def partsD (cs : List (Int × Int)) (p : Int) : PyData := match partsV cs p with
  | some (i, j) => .tuple [.int i, .int j]
  | none => .none
def wayD (cs : List (Int × Int)) (p : Int) : List PyData := [.tuple ((along cs p).1.map PyData.int), .int (along cs p).2, partsD cs p]
theorem idx_lt {a : List Int} {q : Int} (h : q ∈ a) : idx a q < a.length := (List.getElem?_eq_some_iff.mp (idx_spec h).1).1
theorem fit_way {cs : List (Int × Int)} (ck : COk cs) {p : Int} (h : 0 ≤ p) (h2 : p ≤ 999) : ∀ d ∈ wayD cs p, Fit d 2803 1 := fun d hd => by
  have ar := along_range ck h h2
  have ast := along_stop cs p
  have sl := seen_len ast.2.1 ast.2.2
  have c4 := ck.few
  simp only [wayD, List.mem_cons, List.not_mem_nil, or_false] at hd
  rcases hd with rfl | rfl | rfl
  · have F := fit_tup (fit_ints ar.2)
    rw [List.length_map] at F
    have e : (5 + 2) * (along cs p).1.length + 3 ≤ 2803 := by omega
    exact fit_le F e (by decide)
  · exact fit_le (fit_int ar.1.1 ar.1.2) (by decide) (by decide)
  · unfold partsD partsV
    by_cases hc : isC cs (along cs p).2 = true
    · rw [if_pos hc]
      have hin : (along cs p).2 ∈ (along cs p).1 := by
        rcases ast.1 with z | z
        · rw [hc] at z
          cases z
        · exact z
      have il := idx_lt hin
      refine fit_le (fit_tup (k := 5) (m := 0) fun d hd => ?_) (show (5 + 2) * 2 + 3 ≤ 2803 by decide) (by decide)
      rcases List.mem_cons.mp hd with rfl | hd
      · exact fit_int (by omega) (by omega)
      · rcases List.mem_cons.mp hd with rfl | hd
        · exact fit_int (by omega) (by omega)
        · cases hd
    · rw [if_neg hc]
      exact fit_le fit_non (by decide) (by decide)
theorem dp_way {K : PySem.W.Frag} {H : Hp} {cs : List (Int × Int)} {p : Int} {t : Addr} {w : V} (ht : PT H t ((along cs p).1.map V.int)) (hw : Dp K H w (partsD cs p)) : DpAll K H [.ref t, .int (along cs p).2, w] (wayD cs p) :=
  .cons (.tup ht.sq (dp_ints _)) (.cons (.int _) (.cons hw .nil))
theorem dp_parts {K : PySem.W.Frag} {H : Hp} {cs : List (Int × Int)} {p i j : Int} {t : Addr} (e : partsV cs p = some (i, j)) (h : H t = some (.tup [.int i, .int j])) : Dp K H (.ref t) (partsD cs p) := by
  unfold partsD
  rw [e]
  exact .tup (.inl (.inl h)) (.cons (.int _) (.cons (.int _) .nil))
theorem dp_parts0 {K : PySem.W.Frag} {H : Hp} {cs : List (Int × Int)} {p : Int} (e : partsV cs p = none) : Dp K H .non (partsD cs p) := by
  unfold partsD
  rw [e]
  exact .non
end K1
/-! A comprehension over a list of ints, with a test. -/
namespace K1
open PySem PySem.Spec L2 Z
theorem lcI {K : PySem.W.Frag} {gs : List Int} {i : Nat} {te0 : TE} {tt : TT} {σ : L2.St} {H : Hp} {Q : VK} (c : Int → Bool) (hte : ∀ R : VK, (∀ l H1, Same H H1 → H1 l = some (.lst (gs.map V.int)) → R (.ref l) H1) → te0 σ H R) (hz : gs.length ≤ 1000)
    (hi : i < σ.length) (ht : ∀ z H' (R : Bool → Hp → Prop), Same H H' → R (c z) H' → tt ((σ.set i none).set i (some (.int z))) H' R)
    (hd : ∀ H' D, Same H H' → H D = none → H' D = some (.lst ((gs.filter c).map V.int)) → Q (.ref D) H') : tLc (iList K te0) (gName i) tt (tVar i) [i] σ H Q := by
  refine hte _ fun l H1 s1 hl => ⟨l, rfl, ⟨_, .inl (.inl hl)⟩, fun D hD => ?_⟩
  have hD0 := none_of s1 hD
  refine lc_it (n := gs.length) (fun k H' => Same H1 H' ∧ H' D = some (.lst (((gs.take k).filter c).map V.int))) ⟨same_new hD, upd_same⟩
    (fun k H' hk h => ⟨gs.map V.int, (gs.map V.int)[k]'(by simpa using hk), .inl (.inl (h.1 _ _ hl)), List.getElem?_eq_getElem _⟩) (fun H' h => ⟨gs.map V.int, .inl (.inl (h.1 _ _ hl)), by simp⟩) (fun k x H' H2 hk h y => ?_) (fun H' h => ?_)
  · obtain ⟨sm, hDl⟩ := h
    obtain ⟨rfl, y⟩ := y
    obtain ⟨z, ez, rfl⟩ := map_at (y _ (.inl (.inl (sm _ _ hl))))
    refine ⟨?_, ht z H2 _ (s1.trans sm) ?_⟩
    · show ((σ.set i none).set i (some (V.int z))).set i none = σ.set i none
      rw [List.set_set, List.set_set]
    · cases hc : c z with
      | true =>
        refine iteT ⟨.int z, ?_, _, hDl, ?_, fun b o e => ?_, ?_⟩
        · rw [List.getElem?_set_self (by show i < (σ.set i none).length; rw [List.length_set]; exact hi)]
        · rw [List.length_map]
          refine small1000 ?_
          have := List.length_filter_le c (gs.take k)
          rw [List.length_take] at this
          omega
        · rw [upd_ne (ne_of_none e hD)]
          exact sm _ _ e
        · rw [upd_same, List.take_add_one, ez, List.filter_append, List.map_append]
          simp [hc]
      | false =>
        refine iteF ⟨sm, ?_⟩
        rw [hDl, List.take_add_one, ez, List.filter_append]
        simp [hc]
  · have := h.2
    rw [List.take_length] at this
    exact hd H' D (s1.trans h.1) hD0 this
def sp_law_common_right (K : PySem.W.Frag) (C : Addr) : Sp := fun vs H Q _ => ∃ (x : Addr) (v : V) (d : Addr) (ns : List (Nat × Int)) (cs : List (Int × Int)), vs = [.ref x, v, .ref d] ∧ St K C H x ns cs ∧ TP K H v (ns.map nV) ∧ H d = some (.dK (kC cs)) ∧ ∀ H', Same H H' → Q (.bl true) H'
theorem common_eq (cs : List (Int × Int)) (p q : Int) : common cs p q = ((along cs p).1.filter fun z => decide (z ∈ (along cs q).1)).head? := by
  unfold common
  rw [List.head?_filter]
theorem shape_ints (l : List Int) : SeqAt.shaped (.list (l.map PyData.int)) = true := by
  have e1 : PyData.canLayAll0 (l.map PyData.int) = true := shaped_all (dat := PyData.int) (fun a => by simp only [PyData.canLay0]) l
  have e2 : PyData.depthAll (l.map PyData.int) = 0 := by
    induction l with
    | nil => simp [PyData.depthAll]
    | cons a t ih => simp only [List.map_cons, PyData.depthAll, PyData.depth, ih (shaped_all (dat := PyData.int) (fun a => by simp only [PyData.canLay0]) t), Nat.max_self]
  unfold SeqAt.shaped
  rw [Bool.and_eq_true, decide_eq_true_eq]
  refine ⟨by simp only [PyData.canLay0, e1], ?_⟩
  simp only [PyData.depth, e2]
  decide
def cmD : Option Int → PyData
  | some z => .int z
  | none => .none
theorem dp_cm {K : PySem.W.Frag} {H : Hp} : ∀ o : Option Int, Dp K H (cmV o) (cmD o)
  | some z => .int z
  | none => .non
theorem common_range {cs : List (Int × Int)} (ck : COk cs) {p q : Int} (h : 0 ≤ p) (h2 : p ≤ 999) {z : Int} (e : common cs p q = some z) : 0 ≤ z ∧ z ≤ 999 :=
  (along_range ck h h2).2 z (List.mem_of_find?_eq_some e)
theorem fit_cm {cs : List (Int × Int)} (ck : COk cs) {p q : Int} (h : 0 ≤ p) (h2 : p ≤ 999) : ∀ d ∈ [cmD (common cs p q), cmD (common cs p q)], Fit d 5 0 := fun d hd => by
  have key : Fit (cmD (common cs p q)) 5 0 := by
    cases e : common cs p q with
    | none => exact fit_non
    | some z => exact fit_int (common_range ck h h2 e).1 (common_range ck h h2 e).2
  rcases List.mem_cons.mp hd with rfl | hd
  · exact key
  · rcases List.mem_cons.mp hd with rfl | hd
    · exact key
    · cases hd
/-- for over a tuple of pairs that a local holds -/
theorem forP {K : PySem.W.Frag} {v : Nat} {rs : List Addr} {ls : List (V × V)} {a : Addr} {g : TG} {tb : TS} {D : Ends} {σ : L2.St} {H H0 : Hp} (Pv : Nat → L2.St → Hp → Prop) (hv : σ[v]? = some (some (.ref a))) (h0 : Pv 0 σ H)
    (hT : PT H0 a (rs.map V.ref)) (hp : Paired (fun b (p : V × V) => SqT K H0 b [p.1, p.2]) rs ls) (hI : ∀ i σ H, Pv i σ H → Imm H0 H)
    (hs : ∀ i b p σ H, rs[i]? = some b → ls[i]? = some p → SqT K H b [p.1, p.2] → Pv i σ H → g (.ref b) σ H fun σ2 H2 => tb { D with nx := Pv (i + 1), ct := Pv (i + 1), bk := D.nx } σ2 H2) (hd : ∀ σ H, Pv ls.length σ H → D.nx σ H) : tFor (iTup K (tVar v)) g tb D σ H :=
  ⟨_, hv, a, rfl, ⟨_, (PT.imm (hI 0 _ _ h0) hT).sq⟩, for_pairs Pv h0 hT hp hI hs hd⟩
/-- for over a list that an expression makes -/
theorem forE {K : PySem.W.Frag} {te : TE} {g : TG} {tb : TS} {D : Ends} {σ : L2.St} {H : Hp} (Pre : Addr → Hp → Prop) (hte : ∀ R : VK, (∀ l H1, Pre l H1 → R (.ref l) H1) → te σ H R)
    (hb : ∀ l H1, Pre l H1 → ∃ (xs : List V) (Pv : Nat → L2.St → Hp → Prop), Pv 0 σ H1 ∧ (∀ i σ H, i ≤ xs.length → Pv i σ H → SqL K H l xs) ∧
      (∀ i x σ H, xs[i]? = some x → Pv i σ H → g x σ H fun σ2 H2 => tb { D with nx := Pv (i + 1), ct := Pv (i + 1), bk := D.nx } σ2 H2) ∧ (∀ σ H, Pv xs.length σ H → D.nx σ H)) : tFor (iList K te) g tb D σ H := by
  refine hte _ fun l H1 pre => ?_
  obtain ⟨xs, Pv, h0, hl, hs, hd⟩ := hb l H1 pre
  exact ⟨l, rfl, ⟨_, hl 0 _ _ (Nat.zero_le _) h0⟩, for_list Pv h0 hl hs hd⟩
end K1
/-! Ways: what is promised, also of wrong names. -/
namespace K7
open PySem PySem.Spec L2 Z K1
def NotStr (K : PySem.W.Frag) (H : Hp) (v : V) : Prop := v = .non ∨ (∃ b, v = .bl b) ∨ (∃ i, v = .int i) ∨ (∃ a xs, v = .ref a ∧ SqT K H a xs) ∨ (∃ a xs, v = .ref a ∧ H a = some (.lst xs)) ∨ ∃ a kvs, v = .ref a ∧ H a = some (.dK kvs)
theorem NotStr.same {K : PySem.W.Frag} {H H' : Hp} {v : V} (e : Same H H') (h : NotStr K H v) : NotStr K H' v := by
  rcases h with h | h | h | ⟨a, xs, h1, h2⟩ | ⟨a, xs, h1, h2⟩ | ⟨a, xs, h1, h2⟩
  · exact .inl h
  · exact .inr (.inl h)
  · exact .inr (.inr (.inl h))
  · exact .inr (.inr (.inr (.inl ⟨a, xs, h1, SqT.imm (.of e) h2⟩)))
  · exact .inr (.inr (.inr (.inr (.inl ⟨a, xs, h1, e _ _ h2⟩))))
  · exact .inr (.inr (.inr (.inr (.inr ⟨a, xs, h1, e _ _ h2⟩))))
/-- no letter -/
def NoLet (K : PySem.W.Frag) (H : Hp) (v : V) : Prop := (∃ z : Str, v = .str z ∧ z.length ≠ 1 ∧ z.length ≤ 1000) ∨ (∃ c : Nat, v = .str (ch c) ∧ c ∉ (Str.ofString "abcdefghijklmnopqrstuvwxyz").cps.toList) ∨ NotStr K H v
theorem NoLet.same {K : PySem.W.Frag} {H H' : Hp} {v : V} (e : Same H H') (h : NoLet K H v) : NoLet K H' v := h.imp id (Or.imp id (NotStr.same e))
/-- no name of the store -/
def NoName (K : PySem.W.Frag) (H : Hp) (v : V) (ns : List (Nat × Int)) : Prop := (∃ c : Nat, v = .str (ch c) ∧ 97 ≤ c ∧ c ≤ 122 ∧ c ∉ ns.map (·.1)) ∨ NoLet K H v
theorem NoName.same {K : PySem.W.Frag} {H H' : Hp} {v : V} {ns : List (Nat × Int)} (e : Same H H') (h : NoName K H v ns) : NoName K H' v ns := h.imp id (NoLet.same e)
section
variable (K : PySem.W.Frag) (C CU : Addr)
def q_is_letter : Sp := fun vs H Q _ => ∃ v, vs = [v] ∧ ((∃ c : Nat, v = .str (ch c) ∧ 97 ≤ c ∧ c ≤ 122 ∧ Q (.bl true) H) ∨ (NoLet K H v ∧ Q (.bl false) H))
def Named (post : (Nat × Int) → Prop) (v : V) (ns : List (Nat × Int)) (H : Hp) (E : XK) : Prop := (∃ p ∈ ns, v = .str (ch p.1) ∧ post p) ∨ (NoName K H v ns ∧ Bad CU "given" v H E)
def q_at : Sp := fun vs H Q E => ∃ x v ns cs, vs = [.ref x, v] ∧ St K C H x ns cs ∧ Named K CU (fun p => Q (.int p.2) H) v ns H E
def q_followed : Sp := fun vs H Q E => ∃ x v ns cs, vs = [.ref x, v] ∧ St K C H x ns cs ∧ Named K CU (fun p => ∀ (H' : Hp) (t l : Addr), Same H H' → H l = none → H' t = some (.tup [.ref l, .int (along cs p.2).2]) → H' l = some (.lst ((along cs p.2).1.map V.int)) → Q (.ref t) H') v ns H E
def q_way : Sp := fun vs H Q E => ∃ x v ns cs, vs = [.ref x, v] ∧ St K C H x ns cs ∧ Named K CU (fun p => ∀ (H' : Hp) (t : Addr), Same H H' → PT H' t ((along cs p.2).1.map V.int) → Q (.ref t) H') v ns H E
def q_way_end : Sp := fun vs H Q E => ∃ x v ns cs, vs = [.ref x, v] ∧ St K C H x ns cs ∧ Named K CU (fun p => ∀ (H' : Hp), Same H H' → Q (.int (along cs p.2).2) H') v ns H E
def q_tail : Sp := fun vs H Q E => ∃ x v ns cs, vs = [.ref x, v] ∧ St K C H x ns cs ∧ Named K CU (fun p => ∀ (H' : Hp), Same H H' → (partsV cs p.2 = none → Q .non H') ∧ ∀ i j, partsV cs p.2 = some (i, j) → ∀ t, H t = none → H' t = some (.tup [.int i, .int j]) → Q (.ref t) H') v ns H E
def q_first_common : Sp := fun vs H Q E => ∃ x v u ns cs, vs = [.ref x, v, u] ∧ St K C H x ns cs ∧ Named K CU (fun p => Named K CU (fun q => ∀ (H' : Hp), Same H H' → Q (cmV (common cs p.2 q.2)) H') u ns H E) v ns H E
def q_reached_from : Sp := fun vs H Q _ => ∃ (v : V) (d : Addr) (ns : List (Nat × Int)) (cs : List (Int × Int)), vs = [v, .ref d] ∧ TP K H v (ns.map nV) ∧ H d = some (.dK (kC cs)) ∧ NOk ns ∧ COk cs ∧ ∀ (H' : Hp) (d : Addr), Same H H' → H d = none → H' d = some (.dK (kT (come cs ns))) → Q (.ref d) H'
end
end K7
/-! A def that calls the lambda that it got, and tells what came: try: return [S1, repr(a())] / except x as n: return [S2, repr(n.F)]. -/
namespace Z
open PySem PySem.Spec PyProof.Rows L2 LamX
/-- what the def tells: a list of a word and a text -/
def Tells (K : PySem.W.Frag) (S : Str) (v : V) (H : Hp) (Q : VK) : Prop := rShow K [v] H fun t H2 => [V.str S, t].length ≤ sizeLine ∧ ∀ p, H2 p = none → Q (.ref p) (upd H2 p (.lst [.str S, t]))
theorem Tells.intro {K : PySem.W.Frag} {S : Str} {v : V} {H : Hp} {Q : VK} {d : PyData} (h : Sh K H v d) (s : d.showable = true) (dp : d.depth ≤ 60) (z : d.shown.length ≤ sizeLine) (k : ∀ p, H p = none → Q (.ref p) (upd H p (.lst [.str S, .str d.shown]))) : Tells K S v H Q :=
  ⟨v, d, rfl, h, s, dp, z, by show 2 ≤ sizeLine; exact (by decide +kernel), k⟩
def TShow (K : PySem.W.Frag) (CS : Addr) (F S1 S2 : Str) : (XK → Hp → VK → Prop) → Hp → VK → Prop := fun tl H Q =>
  tl (fun cls d H' => cls = .ref CS ∧ ∃ dd v, d = some dd ∧ H' dd = some (.xd [(F, v)]) ∧ Tells K S2 v H' Q) H (fun v H' => Tells K S1 v H' Q)
section
variable {X : Cx}
theorem takes_len {W : WX} (tk : Takes X W) (n : Nat) (hn : X.N.length = n) : Takes X (fun cls d σ H => σ.length = n → W cls d σ H) := fun u s' ⟨a, B, sI, pins, σ, H, cls, d, e, I, nb, up, sky, na, os, ag, w⟩ =>
  tk u s' ⟨a, B, sI, pins, σ, H, cls, d, e, I, nb, up, sky, na, os, ag, w (by rw [I.len, hn])⟩
theorem show_gives {Ng : List Str} {x a e n q F S1 S2 : Str} {sg : Scope} {g CS : Addr} {cdg : Value} {j1 j2 : Nat} {p1 p2 p3 p4 p5 p6 p7 p8 p9 pa pb pc pd pe pf pg ph : Pos}
    (hge : sg.names.lookup e = some .globalImplicit) (hme : X.mg e = some (.ref CS)) (hde : (e == ("__debug__" : Str)) = false) (h0 : ∀ f : Addr, (L2.start Ng [V.ref f])[0]? = some (some (V.ref f)))
    (hgr : sg.names.lookup ("repr" : Str) = some .globalImplicit) (hmr : X.mg "repr" = none) (nd : Ng.Nodup) (hl : Ng.length = 2) (hn : Ng[1]? = some n) (hnl : sg.names.lookup n = some .local) (hdn : (n == ("__debug__" : Str)) = false) (hcn : (n == ("__classdict__" : Str)) = false)
    (te : PySem.W.exmOne X.K (.ref CS) (.ref CS) = some true) (xf : XfC X.K CS) (no : PySem.W.findIn X.K (.ref CS) F = some none) (hgd : X.A.guards = some []) (hu : X.A.units + 80 < cLine) :
    GivesTo X Ng x sg g cdg [.Try [.Return (some (.List [.Constant (.str S1) j1 p3, .Call (.Name "repr" p4) [.Call (.Name a p1) [] [] p2] [] p5] p6)) p7]
      [.ExceptHandler (some (.Name e p8)) (some n) [.Return (some (.List [.Constant (.str S2) j2 p9, .Call (.Name "repr" pa) [.Attribute (.Name n pb) F pc] [] pd] pe)) pf] pg] [] [] ph] a q (TShow X.K CS F S1 S2) := by
  intro f c' s H Q tl act hc h
  let Z := (cxOf C8.CX0 X.prog X.w X.K X.mg X.base Ng x sg g cdg X.A X.stack s H C8.E0).nox
  have hgl : Gl Z e := hge
  have hglr : Gl Z "repr" := hgr
  have hgdZ : Z.A.guards = some [] := by
    show (X.A.deeper _).guards = some []
    simpa [Around.deeper] using hgd
  have huZ : Z.A.units + 64 < cLine := by
    show (X.A.deeper _).units + 64 < cLine
    simp only [Around.deeper]
    omega
  have hb : bootBuiltins ("repr" : Str) = some (.builtin "repr") := by decide +kernel
  let cl : List Clause := [(.ref CS, 1, fun a cls d => tRet (tLst (tCons (tC (.str S2)) (tCons (tCB (rShow X.K) (tCons (tXf a cls d CS F (tVar 1)) tNil)) tNil))))]
  refine ⟨_, pss_one (ps_try_each (X := Z) (l := cl) (tb := fun W D σ H => σ.length = 2 → ∃ Ech : XK, (∀ cls d σ' H', Ech cls d H' → σ'.length = 2 → W cls d σ' H') ∧ σ[0]? = some (some (.ref f)) ∧ H c' = some (CodeO c' q) ∧ tl Ech H (fun v H' => Tells X.K S1 v H' D.rt))
      rfl rfl nd LamX.takes0 (fun W pn xe tk _ => ?_)
      (.cons (i := 1) hn (show sg.names.lookup n = some .local from hnl) ⟨hgl, hde, .inl hme⟩ (fun a oe cls d pn hz hf => pss_one (ps_ret (pe_lst (pa_cons pe_str (pa_cons (pe_callB (id := "repr") (r := rShow X.K) (call_show (X := Z.suite a ((a, oe) :: pn)) hgdZ huZ) hglr hmr hb (pa_cons (pe_xf xf no hz hf (pe_var (i := 1) hn (Or.inl hnl) hdn hcn)) pa_nil)) pa_nil))))) .nil)), ?_⟩
  · refine ⟨fun pins s' σ H' D I h' => ?_⟩
    have e2 : σ.length = 2 := I.len.trans hl
    obtain ⟨Ech, hW, h1, h2, h3⟩ := h' e2
    have hp := act (fun cls d σ H => σ.length = 2 → W cls d σ H) pn xe Ech p1 p2 (takes_len tk 2 hl) hW
    have hq := pss_one (ps_ret (pos := p7) (pe_lst (pos := p6) (pa_cons (pe_str (x := S1) (j := j1) (pos := p3)) (pa_cons (pe_callB (p := p4) (pos := p5) (call_show (X := Z.tr pn xe) hgdZ huZ) hglr hmr hb (pa_cons hp pa_nil)) pa_nil))))
    refine hq.run pins s' σ H' D I ?_
    exact ⟨h1, h2, h3⟩
  · intro hs
    refine ⟨_, fun cls d σ' H' he hl' => ?_, h0 f, hc, h⟩
    obtain ⟨rfl, dd, v, rfl, hd, k⟩ := he
    refine .inl ⟨te, fun a ha => ?_⟩
    have hset : (σ'.set 1 (some (.ref a)))[1]? = some (some (V.ref a)) := by
      rw [List.getElem?_set_self (by omega)]
    exact ⟨_, hset, rfl, rfl, dd, _, v, rfl, hd, by simp, k⟩
end
end Z
/-! A def whose code object is known; a lambda handed to a def that tells what its call did. -/
namespace Z
open PySem PySem.Spec PyProof.Rows L2 LamX
section
variable {P : Program} {w : World} {K : PySem.W.Frag} {mg : Str → Option Value} {base : Heap}
/-- as okG, where the frame's code object is the def's own -/
theorem okGC {x qual : Str} {st : Stmt} {f : Addr} {fd : FuncData} {N ps : List Str} {k : Nat} {sp : Sp} {c : Addr} (F : Fun K x qual st f fd) (hc : fd.code = .ref c) (S : FnScope N ps (defScope st)) (len : ∀ vs H Q E, sp vs H Q E → vs.length = ps.length)
    (hbody : ∀ (A : Around) (outer : List Env) (s : Shared) (H : Hp) (vs : List V) (Q : VK) (E : XK), Room k (A.deeper (envOfC qual (defScope st) s.heap.objs.size f (.ref c))) →
      (A.deeper (envOfC qual (defScope st) s.heap.objs.size f (.ref c))).guards = some [] → sp vs H Q E →
      ∃ t, PSs (cxOf CX0 P w K mg base N qual (defScope st) f (.ref c) A outer s H E).nox (defBody st) t ∧ t { nx := fun _ H' => Q .non H', rt := Q } (start N vs) H) : FnG P w K mg base (k + 1) f fd ps sp := by
  obtain ⟨oc, od, kV, doc, pm, an, cdv, ct, osl, rfl, lk, hcd⟩ := F.ex
  obtain rfl : cdv = .ref c := hc
  refine ⟨len, fun A outer s H args us vs Q E hr hgd e0 hb r hsp => ?_⟩
  have keepB : ∀ b o, base.get? b = some o → s.heap.get? b = some o := fun b o e => (e0.bs b o e).1
  have KX : K.In s.heap := e0.mod.kin.keeps keepB
  have lim : s.heap.NoLimit := e0.mod.nolimit.keeps keepB
  refine codeAny_call_function hr.depth (KX _ _ lk) rfl S.co S.gen rfl (PySem.W.codeRec_of KX hcd) (hb _ _ _ _ ?_)
  refine wpAny_newFunctionEnv_cells S.kind (fun y hy => ?_) fun env he s1 x => ?_
  · rcases S.par y.1 (List.of_mem_zip (a := y.1) (b := y.2) hy).1 with q | q
    · exact .inl q
    · exact .inr ⟨q, PySem.W.cellsFrom_some _ _ _ (.inl q)⟩
  subst he
  refine ⟨lim.keeps x.toInCall.keep, codeAny_func ?_⟩
  obtain ⟨t, ht, hq⟩ := hbody A outer s H vs Q E (hr.deeper _) (by simpa [Around.deeper] using hgd) hsp
  have I0 := inv_start (CX := CX0) (E := E) (cd := .ref c) (qual := qual) (f := f) (N := N) S hr.hd e0 (len _ _ _ _ hsp) r x
  refine wpAny_mono (ht.nox.run [] s1 (start N vs) H _ I0 hq) (fun fl s' hs => ?_) fun e s' hs => hs
  have fin : ∀ {σ' : L2.St} {H' : Hp} {v : V} {u : Value}, Inv (cxOf CX0 P w K mg base N qual (defScope st) f (.ref c) A outer s H E) [] σ' H' s' → RelV v u → Q v H' → CE outer P w H s Q u s' :=
    fun J rv q => ⟨_, _, J.os, J.bare, J.base, J.hok, rv, q⟩
  match fl, hs with
  | .ret u, ⟨v, σ', H', J, rv, q⟩ => exact fin J rv q
  | .next, ⟨σ', H', J, q⟩ => exact fin (v := V.non) (u := Value.none) J rfl q
  | .brk, ⟨_, _, _, q⟩ => exact q.elim
  | .cont, ⟨_, _, _, q⟩ => exact q.elim
end
section
variable {X : Cx} {T : List (Addr × Str)} {x a e n F S1 S2 : Str} {st : Stmt} {g CS c P : Addr} {k : Nat} {fd : FuncData} {Ng : List Str} {params : Arguments} {body : Expr} {scope : Scope} {t : XK → TE} {p lpos pos : Pos} {j1 j2 : Nat} {p1 p2 p3 p4 p5 p6 p7 p8 p9 pa pb pc pd pe pf pg ph : Pos}
/-- x(lambda: body), x a def that tells what the call did -/
theorem pe_lamTell (Fg : Fun X.K x x st g fd) (hg : Gl X x) (hm : X.mg x = some (.ref g)) (hb : L2.Binds X.K fd [a] []) (Sg : FnScope Ng [a] (defScope st)) (hNg : Ng[0]? = some a) (hva : Vis (defScope st) a)
    (hbd : defBody st = [.Try [.Return (some (.List [.Constant (.str S1) j1 p3, .Call (.Name "repr" p4) [.Call (.Name a p1) [] [] p2] [] p5] p6)) p7]
      [.ExceptHandler (some (.Name e p8)) (some n) [.Return (some (.List [.Constant (.str S2) j2 p9, .Call (.Name "repr" pa) [.Attribute (.Name n pb) F pc] [] pd] pe)) pf] pg] [] [] ph])
    (hge : (defScope st).names.lookup e = some .globalImplicit) (hme : X.mg e = some (.ref CS)) (hgr : (defScope st).names.lookup ("repr" : Str) = some .globalImplicit) (hmr : X.mg "repr" = none) (h0 : ∀ f : Addr, (L2.start Ng [V.ref f])[0]? = some (some (V.ref f)))
    (hl : Ng.length = 2) (hn : Ng[1]? = some n) (hnl : (defScope st).names.lookup n = some .local)
    (te : PySem.W.exmOne X.K (.ref CS) (.ref CS) = some true) (xf : XfC X.K CS) (no : PySem.W.findIn X.K (.ref CS) F = some none) (hgd : X.A.guards = some []) (hu : X.A.units + 80 < cLine)
    (TB : TabB X.base X.mg c P) (hcode : X.env.code = .ref c) (hmT : (P, X.env.qual ++ "<lambda>") ∈ T) (hu2 : ∀ p ∈ T, p.1 = P → p.2 = X.env.qual ++ "<lambda>") (hr : Room (k + 2) X.A) (L : LamS X.env.scope scope) (hdef : defaultsOf params X.env = ([], []))
    (hbind : ∀ (q : Str) (cl : List (Str × Addr)) (pm cv ctv : Value), bindArgs (PySem.W.kla_fn "<lambda>" q params body scope cl pm cv ctv) ⟨[], []⟩ = pure [])
    (hbody : ∀ (A : Around) (outer : List Env) (s : Shared) (H : Hp) (E : XK) (f c' : Addr), Room k (A.deeper (lamEnv X scope s.heap.objs.size f c')) → PE (lamCx X A outer s H E scope f c') body (t E))
    (hde : (e == ("__debug__" : Str)) = false := by decide) (hdn : (n == ("__debug__" : Str)) = false := by decide) (hcn : (n == ("__classdict__" : Str)) = false := by decide)
    (hdb : (x == ("__debug__" : Str)) = false := by decide) (hd : (a == ("__debug__" : Str)) = false := by decide) (hcd : (a == ("__classdict__" : Str)) = false := by decide) :
    PE X (.Call (.Name x p) [.Lambda params body scope lpos] [] pos) (tLam T (TShow X.K CS F S1 S2) t) := by
  obtain ⟨oc, od, kV, doc, pm, an, cdv, ct, osl, rfl, lk, hcd2⟩ := Fg.ex
  have G := show_gives (X := X) (x := x) (q := X.env.qual ++ "<lambda>") (g := g) (cdg := cdv) (j1 := j1) (j2 := j2) (p1 := p1) (p2 := p2) (p3 := p3) (p4 := p4) (p5 := p5) (p6 := p6) (p7 := p7) (p8 := p8) (p9 := p9) (pa := pa) (pb := pb) (pc := pc) (pd := pd) (pe := pe) (pf := pf) (pg := pg) (ph := ph) (a := a) (S1 := S1) (S2 := S2) hge hme hde h0 hgr hmr Sg.nd hl hn hnl hdn hcn te xf no hgd hu
  rw [← hbd] at G
  exact pe_lamcall hg hm Fg.kp lk hcd2 hb Sg hNg hva G TB hcode hmT hu2 hr L hdef hbind hbody hdb hd hcd
end
end Z
/-! `x in l`, l a list of texts, x any thing that can be shown (a dict too). -/
namespace Z
open PySem PySem.Spec PyProof.Rows L2 PySem.SeqAt
open PyProof
theorem dict_eq_declines_str (a : Addr) (es : Array DictEntry) (ep : Nat) (b : Str) (u : Tok) :
    Meets (Builtin.«dict.__eq__» ⟨[.ref a, .str b u], []⟩) (fun _ R s => s.heap.get? a = some { cls := .type "dict", dict := none, data := .dict es ep, slots := #[] } ∧ R (.ok (.ret .notImplemented)) s) :=
  .of_wp fun prog w A R s h => by
    obtain ⟨hp, g, d, tk, os⟩ := s
    obtain ⟨hl, h⟩ := h
    have f1 := F.sub_str_dict
    wp_walk using wpAny_load hl
    exact ⟨_, rfl, h⟩
theorem str_eq_declines_dict (b : Str) (u : Tok) (a : Addr) (es : Array DictEntry) (ep : Nat) :
    Meets (Builtin.«str.__eq__» ⟨[.str b u, .ref a], []⟩) (fun _ R s => s.heap.get? a = some { cls := .type "dict", dict := none, data := .dict es ep, slots := #[] } ∧ R (.ok (.ret .notImplemented)) s) :=
  .of_wp fun prog w A R s h => by
    obtain ⟨hp, g, d, tk, os⟩ := s
    obtain ⟨hl, h⟩ := h
    wp_walk using wpAny_load hl
    exact ⟨_, rfl, h⟩
section
variable {A : Around} {s : Shared}
theorem rc_str_dict {a : Addr} {es : Array DictEntry} {ep : Nat} (b : Str) (u : Tok) (ho : s.heap.get? a = some { cls := .type "dict", dict := none, data := .dict es ep, slots := #[] }) (hu : A.units < cLine) : RcAt A s (.str b u) (.ref a) false := fun prog w E Q h =>
  rc_eq_decline_or (k := false) (typeIs_str s b u) ⟨_, ho, rfl⟩ (by decide) F.sub_dict_str F.slot_str_eq F.slot_dict_eq_refl
    (fun _ hq => call_meets F.slot_str_eq (typeIs_str s b u) F.entry_str_eq (F.args_str_eq_2 _ _) (str_eq_declines_dict b u a es ep) ⟨ho, hq⟩)
    (fun _ hq => call_meets F.slot_dict_eq_refl ⟨_, ho, rfl⟩ F.entry_dict_eq (F.args_dict_eq_2 _ _) (dict_eq_declines_str a es ep b u) ⟨ho, hq⟩)
    (fun _ hq => wpAny_of_eq (rfl : isSame (.str b u) (.ref a) = pure false) hq) (.inr hu) h
theorem eq_str_dict {a : Addr} {es : Array DictEntry} {ep : Nat} (b : Str) (u : Tok) (ho : s.heap.get? a = some { cls := .type "dict", dict := none, data := .dict es ep, slots := #[] }) (hu : A.units < cLine) : EqAt A s (.str b u) (.ref a) false := fun prog w E Q h => by
  unfold eqBool
  refine wpAny_holding ?_
  refine wpAny_ite_split (fun hab => absurd (eq_of_beq hab) nofun) (fun _ => ?_)
  exact wpAny_bind (rc_str_dict b u ho hu prog w E _ (wpAny_truthy_bool h))
end
section
variable {X : Cx}
/-- is the thing one of the texts -/
def rInT (K : PySem.W.Frag) : R2 := fun x y H Q => ∃ (p : Addr) (ws : List Str), y = .ref p ∧ SqL K H p (ws.map V.str) ∧ (∀ z ∈ ws, PyData.strOk z = true) ∧ ((∃ d, Dp K H x d ∧ SeqAt.shaped d = true ∧ Q (.bl (ws.any fun z => PyData.eqv (.str z) d)) H) ∨ ∃ a kvs, x = .ref a ∧ H a = some (.dK kvs) ∧ Q (.bl false) H)
theorem dp_strs {K : PySem.W.Frag} {H : Hp} : ∀ ws : List Str, DpAll K H (ws.map V.str) (ws.map PyData.str)
  | [] => .nil
  | x :: r => .cons (.str x) (dp_strs r)
theorem shaped_strs (ws : List Str) (ok : ∀ z ∈ ws, PyData.strOk z = true) : SeqAt.shaped (.list (ws.map PyData.str)) = true := by
  have h1 : ∀ ws : List Str, (∀ z ∈ ws, PyData.strOk z = true) → PyData.canLayAll0 (ws.map PyData.str) = true ∧ PyData.depthAll (ws.map PyData.str) ≤ 1 := by
    intro ws
    induction ws with
    | nil => exact fun _ => ⟨rfl, by simp [PyData.depthAll]⟩
    | cons x r ih => exact fun k => ⟨by simp [PyData.canLayAll0, PyData.canLay0, (ih fun z hz => k z (List.mem_cons_of_mem _ hz)).1, k x List.mem_cons_self], by simp [PyData.depthAll, PyData.depth]; exact (ih fun z hz => k z (List.mem_cons_of_mem _ hz)).2⟩
  have h2 := (h1 ws ok).2
  have h3 := (h1 ws ok).1
  unfold SeqAt.shaped
  rw [show (PyData.list (ws.map PyData.str)).canLay0 = true from by simpa [PyData.canLay0] using h3]
  have h4 : (PyData.list (ws.map PyData.str)).depth ≤ 2 := by
    simp only [PyData.depth]
    omega
  simp only [Bool.true_and, decide_eq_true_eq]
  omega
theorem reads_strs {h : Heap} : ∀ (ws : List Str) (vs : List Value) (as : List Addr), ReadsAll h vs (ws.map PyData.str) as → ∀ y ∈ vs, ∃ b u, y = .str b u
  | [], _, _, r, y, hy => by cases r; cases hy
  | x :: ws, _, _, r, y, hy => by
    cases r with
    | cons r1 r2 =>
      rcases List.mem_cons.mp hy with rfl | hy
      · cases r1
        exact ⟨_, _, rfl⟩
      · exact reads_strs ws _ _ r2 y hy
theorem op_inT (hu : X.A.units + 65 < cLine) : OpR X (compareOp .In) (rInT X.K) := by
  intro pins s σ H x y v u Q I rx ry h
  obtain ⟨p, ws, rfl, hl, ok, ⟨d, hd, sd, q⟩ | ⟨a, kvs, rfl, ha, q⟩⟩ := h
  · refine op_inD hu pins s σ H x (.ref p) v u Q I rx ry ⟨d, ws.map PyData.str, hd, .lst hl (dp_strs ws), sd, shaped_strs ws ok, ?_⟩
    rw [List.any_map]
    exact q
  · cases rx
    obtain ⟨bs, r2⟩ := Dp.reads I (.list (ws.map PyData.str)) (.ref p) u (.lst hl (dp_strs ws)) ry
    obtain ⟨_, _, _, _, ⟨cl, dd, dt, sl⟩, es, ep, ho, ⟨x1, x2, x3⟩, hdat, _⟩ := dk_of I.hok ha
    simp only at x1 x2 x3 hdat
    subst x1 x2 x3 hdat
    cases r2 with
    | list h1 h2 h3 h4 =>
      refine in_listAt (fun _ => false) ⟨_, h1, h2, _, h3⟩ (fun y hy => ?_) ?_
      · obtain ⟨b, t, rfl⟩ := reads_strs ws _ _ h4 y (by simpa using hy)
        exact eq_str_dict b t ho (by show X.A.units + 1 < cLine; omega)
      · rw [show Array.any _ (fun _ => false) = false from by simp]
        exact ⟨.bl false, H, I, rfl, q⟩
end
end Z
/-! Odd names: what is promised of the drawn thing and of what is told. -/
namespace K7
open PySem PySem.Spec L2 Z K1
/-- a drawn thing that may be asked for: x, or no letter; it is shown as d -/
def OddD (K : PySem.W.Frag) (H : Hp) (v : V) (d : PyData) : Prop := (v = .str (ch 120) ∨ NoLet K H v) ∧ Sh K H v d
def OddOk (d : PyData) : Bool := PyData.strOk d.shown && d.showable && decide (d.depth ≤ 60) && decide (d.shown.length ≤ sizeLine) && (d.hasDict || SeqAt.shaped d)
theorem jugS {H H' : Hp} {j : Addr} (s : Same H H') (h : JugAt H j) : JugAt H' j := by
  obtain ⟨g, t, c, q, a, b⟩ := h
  exact ⟨g, t, c, s _ _ q, a, b⟩
theorem same_new2 {H : Hp} {p : Addr} {a b : HO} (h : H p = none) : Same H (upd (upd H p a) p b) := fun q x e => by
  have n := ne_of_none e h
  rw [upd_ne n, upd_ne n]
  exact e
/-- all but the jug and the tables is as it was -/
def ChT (j : Addr) (H H' : Hp) : Prop := ∀ b o, H b = some o → b ≠ j → (∀ ps, o ≠ .tbl ps) → H' b = some o
theorem ChT.of {j : Addr} {H H' : Hp} (c : Chg j H H') : ChT j H H' := fun b o e n _ => c b o e n
theorem ChT.ext {j : Addr} {H H' : Hp} (c : LamX.ExtN H H') : ChT j H H' := fun b o e _ t => c b o e t
theorem ChT.trans {j : Addr} {H H1 H2 : Hp} (a : ChT j H H1) (b : ChT j H1 H2) : ChT j H H2 := fun c o e n t => b c o (a c o e n t) n t
theorem jugN {H H' : Hp} {j : Addr} (s : LamX.ExtN H H') (h : JugAt H j) : JugAt H' j := by
  obtain ⟨g, t, c, q, a, b⟩ := h
  exact ⟨g, t, c, s _ _ q (fun _ z => by cases z), a, b⟩
theorem immN {H H' : Hp} (s : LamX.ExtN H H') : Imm H H' := ⟨fun b xs h => s b _ h (fun _ z => by cases z), fun b o u h => s b _ h (fun _ z => by cases z)⟩
theorem St.ext {K : PySem.W.Frag} {C : Addr} {H H' : Hp} {x : Addr} {ns : List (Nat × Int)} {cs : List (Int × Int)} (e : LamX.ExtN H H') (h : St K C H x ns cs) : St K C H' x ns cs := by
  obtain ⟨v, u, dx, pd, ad, ld, ks, S⟩ := h
  exact ⟨v, u, dx, pd, ad, ld, ks, e _ _ S.ob (fun _ z => by cases z), S.nm.imm (immN e), S.ce.imm (immN e), e _ _ S.pd_ (fun _ z => by cases z), e _ _ S.ad_ (fun _ z => by cases z), e _ _ S.ld_ (fun _ z => by cases z), S.led, S.nok, S.cok⟩
open LamX in
theorem tabs_chg {H H' : Hp} {j P : Addr} {q : Str} (c : Chg j H H') (hj : JugAt H j) (t : TabS H P q) : TabS H' P q := by
  obtain ⟨ps, h1, h2, h3⟩ := t
  have n1 : P ≠ j := hj.neL h1 (fun _ z => by cases z)
  refine ⟨ps, c _ _ h1 n1, h2, fun pos cv hc => ?_⟩
  obtain ⟨a, e1, e2⟩ := h3 pos cv hc
  exact ⟨a, e1, c _ _ e2 (hj.neL e2 (fun _ z => by cases z))⟩
section
variable (K : PySem.W.Frag) (C CU : Addr)
def q_one_of_s : Sp := fun vs H Q _ => ∃ j, vs = [.ref j, .str (Str.ofString "abxyz")] ∧ JugAt H j ∧ ∀ (H' : Hp) (c : Nat), Chg j H H' → JugAt H' j → 97 ≤ c → c ≤ 122 → Q (.str (ch c)) H'
def q_refusals (Pt : Addr) (ql : Str) : Sp := fun vs H Q _ => ∃ j x v ns cs, vs = [.ref j, .ref x, v] ∧ JugAt H j ∧ St K C H x ns cs ∧ TP K H v (ns.map nV) ∧ LamX.TabS H Pt ql ∧ ∀ H', ChT j H H' → JugAt H' j → LamX.TabS H' Pt ql → Q (.bl true) H'
def q_right (Pt : Addr) (ql : Str) : Sp := fun vs H Q _ => ∃ j, vs = [.ref j] ∧ JugAt H j ∧ LamX.TabS H Pt ql ∧ ∀ H', ChT j H H' → LamX.TabS H' Pt ql → Q (.bl true) H'
def q_odd : Sp := fun vs H Q _ => ∃ j, vs = [.ref j] ∧ JugAt H j ∧ ∀ (H' : Hp) (v : V), Chg j H H' → JugAt H' j → (∃ d, OddOk d = true ∧ ∀ H2, ChT j H' H2 → OddD K H2 v d) → Q v H'
end
/-- the name of a lambda that _law_refusals_right makes -/
abbrev QL : Str := "_law_refusals_right.<locals>.<lambda>"
abbrev noArgs : Arguments := { posonlyargs := [], args := [], vararg := none, kwonlyargs := [], kw_defaults := [], kwarg := none, defaults := [] }
theorem tell {X : Cx} {C CU c P : Addr} {k : Nat} {body : Expr} {scope : Scope} {t : XK → TE} {p lpos pos : Pos} (T : Txt X.K X.mg C CU) (TB : LamX.TabB X.base X.mg c P) (hcode : X.env.code = .ref c) (hq : X.env.qual ++ "<lambda>" = QL) (hgd : X.A.guards = some []) (hu : X.A.units + 80 < cLine) (hr : Room (k + 2) X.A)
    (hbody : ∀ (A : Around) (outer : List Env) (s : Shared) (H : Hp) (E : XK) (f c' : Addr), Room k (A.deeper (LamX.lamEnv X scope s.heap.objs.size f c')) → PE (LamX.lamCx X A outer s H E scope f c') body (t E))
    (L : LamX.LamS X.env.scope scope := by exact LamX.lamS_by (by decide +kernel)) (hg : Gl X "_law_told" := by rfl) :
    PE X (.Call (.Name "_law_told" p) [.Lambda noArgs body scope lpos] [] pos) (LamX.tLam [(P, QL)] (TShow X.K CU "given" "right" "name") t) := by
  obtain ⟨f, fd, F, gl, bd⟩ := T.d__law_told
  refine pe_lamTell F hg gl bd sc_law_told rfl (Or.inl rfl) rfl rfl T.mgCU rfl T.b_repr (fun _ => rfl) rfl rfl rfl T.x_UnknownName.te T.x_UnknownName.xf T.x_UnknownName.no hgd hu TB hcode (by rw [hq]; exact List.mem_cons_self) (fun p hp _ => ?_) hr L rfl (fun _ _ _ _ _ => rfl) hbody
  rw [List.mem_singleton.mp hp, hq]
end K7

namespace Z
open PySem PySem.Spec L2
theorem op_inTK {X : Cx} {K : PySem.W.Frag} (h : X.K = K) (hu : X.A.units + 65 < cLine) : OpR X (compareOp .In) (rInT K) := h ▸ op_inT hu
end Z
namespace K1
open PySem PySem.Spec L2 Z K7
section
variable {P : Program} {w : World} {K : PySem.W.Frag} {mg : Str → Option Value} {base : Heap} {C CU : Addr}
theorem ok_law_one_of_s (T : Txt K mg C CU) (G__law_take : Pr P w K mg base "_law_take" s_law_take 1 ["_law_jug_here", "_law_many"] sp_law_take) : Pr P w K mg base "_law_one_of" s_law_one_of 2 ["_law_jug_here", "_law_some"] q_one_of_s := by
  obtain ⟨f, fd, F, gl, bd⟩ := T.d__law_one_of
  refine ⟨f, fd, F, gl, bd, F.ok sc_law_one_of (fun vs H Q E h => ?_) (fun cdv A outer s H vs Q E hr h => ?_)⟩
  · obtain ⟨j, rfl, _⟩ := h
    rfl
  · obtain ⟨j, rfl, hj, k⟩ := h
    have hu := hu_of hr
    refine ⟨_, (pss_one (ps_ret (pe_ix ix_str (pv 1) (pcall G__law_take (hr.mono (by decide)) (pa_cons (pv 0) (pa_cons (pe_callB call_len_str (by rfl) T.b_len (by decide +kernel) (pa_cons (pv 1) pa_nil)) pa_nil))) (fun _ _ => rfl)))), ?_⟩
    refine ⟨_, rfl, _, rfl, _, rfl, _, rfl, by decide +kernel, j, 5, rfl, hj, by decide, by decide, fun H' i cg hj' i0 im => ?_⟩
    have h5 : i = 0 ∨ i = 1 ∨ i = 2 ∨ i = 3 ∨ i = 4 := by omega
    rcases h5 with rfl | rfl | rfl | rfl | rfl
    · exact ⟨_, _, 97, rfl, rfl, by decide +kernel, by decide +kernel, k H' 97 cg hj' (by decide) (by decide)⟩
    · exact ⟨_, _, 98, rfl, rfl, by decide +kernel, by decide +kernel, k H' 98 cg hj' (by decide) (by decide)⟩
    · exact ⟨_, _, 120, rfl, rfl, by decide +kernel, by decide +kernel, k H' 120 cg hj' (by decide) (by decide)⟩
    · exact ⟨_, _, 121, rfl, rfl, by decide +kernel, by decide +kernel, k H' 121 cg hj' (by decide) (by decide)⟩
    · exact ⟨_, _, 122, rfl, rfl, by decide +kernel, by decide +kernel, k H' 122 cg hj' (by decide) (by decide)⟩
end
end K1
namespace K1
open PySem PySem.Spec L2 Z K7
section
variable {P : Program} {w : World} {K : PySem.W.Frag} {mg : Str → Option Value} {base : Heap} {C CU : Addr}
theorem ok_law_take (T : Txt K mg C CU)  : Pr P w K mg base "_law_take" s_law_take 1 ["_law_jug_here", "_law_many"] sp_law_take := by
  obtain ⟨f, fd, F, gl, bd⟩ := T.d__law_take
  refine ⟨f, fd, F, gl, bd, F.ok sc_law_take (fun vs H Q E h => ?_) (fun cdv A outer s H vs Q E hr h => ?_)⟩
  · obtain ⟨j, m, rfl, _⟩ := h
    rfl
  · obtain ⟨j, m, rfl, ⟨g, s0, c, hj, b1, b2⟩, m1, m2, k⟩ := h
    have hu := hu_of hr
    refine ⟨_, (pss_cons (ps_if (pt_cmpR op_gt (pe_ix ix_list (pv 0) pe_int (fun _ _ => rfl)) pe_int (nomark _)) (pss_cons (ps_asg (pe_callB call_divmod (by rfl) T.b_divmod (by decide +kernel) (pa_cons (pe_ix ix_list (pv 0) pe_int (fun _ _ => rfl)) (pa_cons (pv 1) pa_nil))) (pg_tup rfl (pgs_cons (pg_sub (pv 0) pe_int set_list) (pgs_cons (pg_name (i := 2) sc_law_take.nd rfl (Or.inl rfl)) pgs_nil))))
      (pss_one (ps_ret (pv 2)))) pss_nil)
      (pss_cons (ps_asg (pe_op op_add (pe_ix ix_list (pv 0) pe_int (fun _ _ => rfl)) pe_int) (pg_sub (pv 0) pe_int set_list))
      (pss_cons (ps_asg (pe_op op_modN (pe_callTy call_int1 (by rfl) T.b_int (by decide +kernel) (pa_cons (pe_op op_add (pe_op op_add (pe_op op_mul (pe_ix ix_list (pv 0) pe_int (fun _ _ => rfl)) (pe_op op_add pe_int (pe_op op_mul pe_int (pe_ix ix_list (pv 0) pe_int (fun _ _ => rfl))))) pe_int) (pe_ix ix_list (pv 0) pe_int (fun _ _ => rfl))) pa_nil)) pe_int) (pg_sub (pv 0) pe_int set_list))
      (pss_one (ps_ret (pe_op op_modN (pe_callTy call_int1 (by rfl) T.b_int (by decide +kernel) (pa_cons (pe_op op_fdivN (pe_ix ix_list (pv 0) pe_int (fun _ _ => rfl)) pe_int) pa_nil)) (pv 1))))))), ?_⟩
    refine ⟨_, rfl, j, _, 0, _, rfl, rfl, .inl (.inl hj), at_first, _, _, rfl, rfl, _, rfl, ?_⟩
    by_cases hg : 0 < g
    · rw [decide_eq_true hg]
      refine iteT ⟨_, rfl, j, _, 0, _, rfl, rfl, .inl (.inl hj), at_first, _, rfl, _, _, rfl, ⟨by omega, by omega⟩, fun t ht => ?_⟩
      have nt : j ≠ t := ne_of_none hj ht
      refine ⟨t, _, rfl, .inl (.inl upd_same), rfl, _, _, rfl, _, rfl, j, _, 0, 0, rfl, rfl, by rw [upd_ne nt]; exact hj, rfl, _, _, rfl, rfl, _, rfl, ?_⟩
      exact k _ (g % m) ((Chg.of (same_new ht)).trans Chg.upd) ⟨g / m, s0, c, upd_same, b1, b2⟩ (Int.emod_nonneg _ (by omega)) (Int.emod_lt_of_pos _ (by omega))
    · rw [decide_eq_false hg]
      refine iteF ⟨_, rfl, j, _, 2, _, rfl, rfl, .inl (.inl hj), at_third, _, _, rfl, rfl, _, rfl, j, _, 2, 2, rfl, rfl, hj, rfl, ?_⟩
      have j1 : upd H j (.lst ([V.int g, V.int s0, V.int c].set 2 (V.int (c + 1)))) j = some (.lst [V.int g, V.int s0, V.int (c + 1)]) := upd_same
      have c1 : Chg j H (upd H j (.lst ([V.int g, V.int s0, V.int c].set 2 (V.int (c + 1))))) := Chg.upd
      generalize upd H j (.lst ([V.int g, V.int s0, V.int c].set 2 (V.int (c + 1)))) = H1 at j1 c1 ⊢
      refine ⟨_, rfl, j, _, 1, _, rfl, rfl, .inl (.inl j1), at_snd, _, rfl, j, _, 2, _, rfl, rfl, .inl (.inl j1), at_third, _, _, rfl, rfl, .inl ⟨by decide, by decide⟩, _, _, rfl, rfl, _, _, rfl, rfl, .inl ⟨b1, b2⟩, _, _, rfl, rfl,
        _, rfl, j, _, 2, _, rfl, rfl, .inl (.inl j1), at_third, _, _, rfl, rfl, .inl ⟨_, rfl, _, _, rfl, rfl, nz3, _, rfl, j, _, 1, 1, rfl, rfl, j1, rfl, ?_⟩⟩
      have hr := fm_range (i := s0 * (40014 + 2 * (c + 1)) + 12211 + (c + 1)) (m := 2147483563) (by decide)
      refine ⟨_, rfl, j, _, 1, _, rfl, rfl, .inl (.inl upd_same), at_snd, _, _, rfl, rfl, ⟨by decide, by decide⟩, .inl ⟨_, rfl, _, rfl, _, _, rfl, rfl, by show m ≠ 0; omega, ?_⟩⟩
      have fr := fm_range (i := (Int.fmod (s0 * (40014 + 2 * (c + 1)) + 12211 + (c + 1)) 2147483563).fdiv 131) (m := m) (by omega)
      exact k _ _ (c1.trans Chg.upd) ⟨_, _, _, upd_same, Int.lt_of_lt_of_le (by decide) hr.1, Int.lt_trans hr.2 (by decide)⟩ fr.1 fr.2
end
end K1
namespace K1
open PySem PySem.Spec L2 Z K7
section
variable {P : Program} {w : World} {K : PySem.W.Frag} {mg : Str → Option Value} {base : Heap} {C CU : Addr}
theorem ok_law_one_of (T : Txt K mg C CU) (G__law_take : Pr P w K mg base "_law_take" s_law_take 1 ["_law_jug_here", "_law_many"] sp_law_take) : Pr P w K mg base "_law_one_of" s_law_one_of 2 ["_law_jug_here", "_law_some"] (sp_law_one_of K) := by
  obtain ⟨f, fd, F, gl, bd⟩ := T.d__law_one_of
  refine ⟨f, fd, F, gl, bd, F.ok sc_law_one_of (fun vs H Q E h => ?_) (fun cdv A outer s H vs Q E hr h => ?_)⟩
  · obtain ⟨j, l, xs, rfl, _⟩ := h
    rfl
  · obtain ⟨j, l, xs, rfl, hj, hne, hl, hx, hm, k⟩ := h
    have hu := hu_of hr
    refine ⟨_, (pss_one (ps_ret (pe_ix ix_list (pv 1) (pcall G__law_take (hr.mono (by decide)) (pa_cons (pv 0) (pa_cons (pe_callB call_len_seq (by rfl) T.b_len (by decide +kernel) (pa_cons (pv 1) pa_nil)) pa_nil))) (fun _ _ => rfl)))), ?_⟩
    have hp := List.length_pos_iff.mpr hx
    refine ⟨_, rfl, _, rfl, _, rfl, l, xs, rfl, .inl hl, j, (xs.length : Int), rfl, hj, by omega, by omega, fun H' i cg hj' i0 im => ?_⟩
    obtain ⟨y, hy, hat⟩ := at_of (xs := xs) i0 im
    exact ⟨l, xs, i, y, rfl, rfl, SqL.chg cg hne hl, hat, k H' y cg hj' hy⟩
end
end K1
namespace K1
open PySem PySem.Spec L2 Z K7
section
variable {P : Program} {w : World} {K : PySem.W.Frag} {mg : Str → Option Value} {base : Heap} {C CU : Addr}
theorem ok_law_drawn_cells (T : Txt K mg C CU) (G__law_take : Pr P w K mg base "_law_take" s_law_take 1 ["_law_jug_here", "_law_many"] sp_law_take) (G__law_one_of : Pr P w K mg base "_law_one_of" s_law_one_of 2 ["_law_jug_here", "_law_some"] (sp_law_one_of K)) : Pr P w K mg base "_law_drawn_cells" s_law_drawn_cells 3 ["_law_jug_here", "_law_most"] (sp_law_drawn_cells K) := by
  obtain ⟨f, fd, F, gl, bd⟩ := T.d__law_drawn_cells
  refine ⟨f, fd, F, gl, bd, F.ok sc_law_drawn_cells (fun vs H Q E h => ?_) (fun cdv A outer s H vs Q E hr h => ?_)⟩
  · obtain ⟨j, m, rfl, _⟩ := h
    rfl
  · obtain ⟨j, m, rfl, hj, m1, m2, k⟩ := h
    have hu := hu_of hr
    refine ⟨_, (pss_cons (ps_par3 (i := 2) (j := 3) (l := 4) rfl sc_law_drawn_cells.nd rfl rfl rfl (by decide) (by decide) (by decide) rfl rfl rfl (pa_cons (pcall G__law_take (hr.mono (by decide)) (pa_cons (pv 0) (pa_cons (pe_op op_add (pv 1) pe_int) pa_nil))) (pa_cons (pcall G__law_one_of (hr.mono (by decide)) (pa_cons (pv 0) (pa_cons (pe_lst (pa_cons pe_int (pa_cons pe_int (pa_cons pe_int (pa_cons pe_int (pa_cons pe_int pa_nil)))))) pa_nil))) (pa_cons (pe_lst pa_nil) pa_nil))) (by rfl))
      (pss_cons (ps_for PassesOwn.never rfl (pi_range1 rfl T.b_range (pa_cons (pv 2) pa_nil)) (pg_name (i := 5) sc_law_drawn_cells.nd rfl (Or.inl rfl))
      (pss_cons (ps_set (i := 3) sc_law_drawn_cells.nd rfl (Or.inl rfl) (pe_op op_add (pe_op op_add (pv 3) pe_int) (pe_callTy call_int1 (by rfl) T.b_int (by decide +kernel) (pa_cons (pe_cmpR op_eq (pcall G__law_take (hr.mono (by decide)) (pa_cons (pv 0) (pa_cons pe_int pa_nil))) pe_int (nomark _)) pa_nil))))
      (pss_one (ps_expr (pe_bm PySem.F.plainAttrs_list PySem.F.slot_list_append PySem.F.type_list_append mt_append (pv 4) (pa_cons (pv 3) pa_nil))))))
      (pss_cons (ps_par (i := 6) (j := 7) rfl sc_law_drawn_cells.nd rfl rfl (by decide) rfl rfl (pa_cons (pe_op op_cat (pe_op op_cat (pe_lst (pa_cons pe_int pa_nil)) (pv 4)) (pe_lst (pa_cons (pe_op op_add (pv 3) pe_int) (pa_cons (pe_op op_add (pv 3) pe_int) pa_nil)))) (pa_cons (pe_lst pa_nil) pa_nil)) (by rfl))
      (pss_cons (ps_for PassesOwn.never rfl (pi_enum rfl T.b_enumerate (pa_cons (pv 4) pa_nil)) (pg_tup rfl (pgs_cons (pg_name (i := 8) sc_law_drawn_cells.nd rfl (Or.inl rfl)) (pgs_cons (pg_name (i := 9) sc_law_drawn_cells.nd rfl (Or.inl rfl)) pgs_nil)))
      (pss_cons (ps_set (i := 10) sc_law_drawn_cells.nd rfl (Or.inl rfl) (pe_ix ix_list (pv 6) (pe_op op_add (pv 8) pe_int) (fun _ _ => rfl)))
      (pss_cons (ps_if (pt_cmpR op_gt (pcall G__law_take (hr.mono (by decide)) (pa_cons (pv 0) (pa_cons pe_int pa_nil))) pe_int (nomark _)) (pss_one (ps_set (i := 10) sc_law_drawn_cells.nd rfl (Or.inl rfl) (pcall G__law_one_of (hr.mono (by decide)) (pa_cons (pv 0) (pa_cons (pv 6) pa_nil))))) pss_nil)
      (pss_one (ps_expr (pe_bm PySem.F.plainAttrs_list PySem.F.slot_list_append PySem.F.type_list_append mt_append (pv 7) (pa_cons (pe_tup (pa_cons (pv 9) (pa_cons (pv 10) pa_nil))) pa_nil)))))))
      (pss_one (ps_ret (pe_tup (pa_cons (pv 7) (pa_cons (pv 6) pa_nil))))))))), ?_⟩
    refine ⟨_, rfl, _, rfl, _, _, rfl, rfl, j, m + 1, rfl, hj, by omega, by omega, fun H1 many c1 j1 n0 n1 => ?_⟩
    refine ⟨_, rfl, by show 5 ≤ sizeLine; exact sl_le (by decide), fun l0 hl0 => ?_⟩
    have nl0 := j1.ne hl0
    refine ⟨j, l0, _, rfl, jug_upd nl0 j1, nl0, .inl (.inl upd_same), by simp, by simp, fun H2 x c2 j2 hx => ?_⟩
    have c02 : Chg j H H2 := (c1.trans (Chg.of (same_new hl0))).trans c2
    obtain ⟨la, rfl, la0, la9⟩ : ∃ z : Int, x = .int z ∧ 0 ≤ z ∧ z ≤ 900 := by
      simp only [List.mem_cons, List.not_mem_nil, or_false] at hx
      rcases hx with rfl | rfl | rfl | rfl | rfl <;> exact ⟨_, rfl, by decide, by decide⟩
    refine ⟨Nat.zero_le _, fun p hp2 => ⟨_, _, _, rfl, ?_⟩⟩
    have hp := none_chg c02 j2 hp2
    have np := j2.ne hp2
    refine ⟨_, rfl, many, rfl, by omega, by omega, ?_⟩
    refine for_range (lo := 0) (n := many.toNat) (fun i σ H' => Chg j H H' ∧ JugAt H' j ∧ ∃ (la : Int) (ps : List Int), ∃ x5, σ = [some (.ref j), some (.int m), some (.int many), some (.int la), some (.ref p), x5, none, none, none, none, none] ∧
      H' p = some (.lst (ps.map V.int)) ∧ ps.length = i ∧ 0 ≤ la ∧ la ≤ 900 + 2 * (i : Int) ∧ (∀ x ∈ ps, 1 ≤ x ∧ x ≤ la) ∧ ps.Pairwise (· < ·)) ⟨chg_new c02 hp, jug_upd np j2, la, [], _, rfl, upd_same, rfl, la0, by omega, (by simp), .nil⟩ ?_ ?_
    · rintro i σ H3 hi ⟨c3, j3, la, ps, x5, rfl, hk, hl, b1, b2, hps, asc⟩
      refine ⟨_, rfl, _, _, rfl, rfl, _, rfl, j, 3, rfl, j3, by decide, by decide, fun H4 kk c4 j4 k0 k3 => ⟨rfl, .inr ⟨_, rfl, _, _, rfl, rfl, ?_⟩⟩⟩
      generalize hd : (if decide (V.int kk = V.int 2) = true then (1 : Int) else 0) = d
      have hd2 : 0 ≤ d ∧ d ≤ 1 := by
        subst hd
        split <;> omega
      have hk4 := c4 _ _ hk np
      refine ⟨_, rfl, .inl ⟨rfl, _, .inl (.inl hk4)⟩, _, rfl, p, _, _, rfl, rfl, hk4, by rw [List.length_map]; exact Nat.lt_of_lt_of_le (show ps.length < 100 by omega) (sl_le (by decide)), ?_⟩
      refine ⟨chg_new (c3.trans c4) hp, jug_upd np j4, la + 1 + d, ps ++ [la + 1 + d], _, rfl, by rw [upd_same, List.map_append]; rfl, by rw [List.length_append, hl]; rfl, by omega, by omega, ?_, ?_⟩
      · intro x hx
        rcases List.mem_append.mp hx with z | z
        · have := hps x z
          omega
        · have := List.mem_singleton.mp z
          omega
      · refine List.pairwise_append.mpr ⟨asc, List.pairwise_singleton _ _, fun u hu v hv => ?_⟩
        have h1 := hps u hu
        have h2 := List.mem_singleton.mp hv
        omega
    rintro σ H3 ⟨c3, j3, la, ps, x5, rfl, hk, hl, b1, b2, hps, asc⟩
    have nl : ps.length ≤ 30 := by omega
    refine ⟨by show 1 ≤ sizeLine; exact sl_le (by decide), fun l1 hl1 => ?_⟩
    have s1 := same_new (o := .lst [V.int 0]) hl1
    refine ⟨_, rfl, l1, p, _, _, rfl, rfl, upd_same, s1 _ _ hk, by rw [List.length_map]; exact sl_le (by show 1 + ps.length ≤ _; omega), fun l2 hl2 => ?_⟩
    have s2 := s1.trans (same_new (o := .lst ([V.int 0] ++ ps.map V.int)) hl2)
    have e2 : upd (upd H3 l1 (.lst [V.int 0])) l2 (.lst ([V.int 0] ++ ps.map V.int)) l2 = some (.lst ([V.int 0] ++ ps.map V.int)) := upd_same
    generalize upd (upd H3 l1 (.lst [V.int 0])) l2 (.lst ([V.int 0] ++ ps.map V.int)) = A2 at s2 e2 ⊢
    refine ⟨_, rfl, _, _, rfl, rfl, _, rfl, _, _, rfl, rfl, by show 2 ≤ sizeLine; exact sl_le (by decide), fun l3 hl3 => ?_⟩
    have s3 := same_new (o := .lst [V.int (la + 1), V.int (la + 2)]) hl3
    refine ⟨l2, l3, _, _, rfl, rfl, s3 _ _ e2, upd_same, by rw [List.length_append, List.length_map]; exact sl_le (by show 1 + ps.length + 2 ≤ _; omega), fun pg hpg => ?_⟩
    have s23 := s2.trans s3
    have gg : ([V.int 0] ++ ps.map V.int) ++ [V.int (la + 1), V.int (la + 2)] = (0 :: (ps ++ [la + 1, la + 2])).map V.int := by simp
    rw [gg]
    have g9 : ∀ x ∈ (0 :: (ps ++ [la + 1, la + 2])), 0 ≤ x ∧ x ≤ 999 := by
      intro x hx
      simp only [List.mem_cons, List.mem_append, List.not_mem_nil, or_false] at hx
      rcases hx with rfl | hx | rfl | rfl
      · omega
      · have := hps x hx
        omega
      · omega
      · omega
    have glen : (0 :: (ps ++ [la + 1, la + 2])).length = ps.length + 3 := by simp
    have gmid : ∀ x ∈ ps, x ≤ 960 := fun x hx => by
      have := hps x hx
      omega
    generalize (0 :: (ps ++ [la + 1, la + 2])) = gs at g9 glen gg ⊢
    have hpg3 := none_of s23 hpg
    have hpg0 := none_chg c3 j3 hpg3
    have npg : pg ≠ j := j3.ne hpg3
    have s4 := s23.trans (same_new (o := .lst (gs.map V.int)) hpg)
    refine ⟨Nat.zero_le _, fun pc hpc => ⟨_, _, rfl, ?_⟩⟩
    have g4 := (same_new (o := .lst []) hpc) pg _ (upd_same (H := upd A2 l3 (.lst [V.int (la + 1), V.int (la + 2)])) (o := .lst (gs.map V.int)))
    have hpc3 := none_of s4 hpc
    have hpc0 := none_chg c3 j3 hpc3
    have npc : pc ≠ j := j3.ne hpc3
    have npp : p ≠ pc := ne_of_none hk hpc3
    have npg' : pg ≠ pc := fun z => by
      rw [← z, upd_same] at hpc
      cases hpc
    have s5 := s4.trans (same_new (o := .lst []) hpc)
    have k5 := upd_same (H := upd (upd A2 l3 (.lst [V.int (la + 1), V.int (la + 2)])) pg (.lst (gs.map V.int))) (a := pc) (o := .lst [])
    generalize upd (upd (upd A2 l3 (.lst [V.int (la + 1), V.int (la + 2)])) pg (.lst (gs.map V.int))) pc (.lst []) = A5 at s5 k5 g4 ⊢
    refine ⟨_, rfl, p, _, rfl, .inl (.inl (s5 _ _ hk)), ?_⟩
    refine K1.for_it (n := ps.length) (fun i σ H' => Chg j H H' ∧ JugAt H' j ∧ H' p = some (.lst (ps.map V.int)) ∧ H' pg = some (.lst (gs.map V.int)) ∧ ∃ (rs : List Addr) (cs : List (Int × Int)), ∃ x8 x9 x10,
      σ = [some (.ref j), some (.int m), some (.int many), some (.int la), some (.ref p), x5, some (.ref pg), some (.ref pc), x8, x9, x10] ∧
      H' pc = some (.lst (rs.map V.ref)) ∧ Paired (fun b (p : V × V) => SqT K H' b [p.1, p.2]) rs (cs.map cV) ∧ cs.map (·.1) = ps.take i ∧ ∀ q ∈ cs, q.2 ∈ gs)
      ⟨c3.trans (Chg.of s5), j3.same s5, s5 _ _ hk, g4, [], [], _, _, _, rfl, k5, .nil, rfl, (by simp)⟩ (fun i σ H' hi h => ⟨ps.map V.int, (ps.map V.int)[i]'(by simpa using hi), .inl (.inl h.2.2.1), List.getElem?_eq_getElem _⟩) (fun σ H' h => ⟨ps.map V.int, .inl (.inl h.2.2.1), by simp⟩) ?_ ?_
    · rintro i v σ H6 H7 hi ⟨c6, j6, p6, g6, rs, cs, x8, x9, x10, rfl, hk6, hp6, hf, hg⟩ ⟨T0, x, rfl, hT, rfl, y⟩
      obtain ⟨z, ez, rfl⟩ := map_at (y _ (.inl (.inl p6)))
      have lr : rs.length = i := by
        rw [Paired.len hp6, List.length_map]
        have := congrArg List.length hf
        rw [List.length_map, List.length_take] at this
        omega
      refine ⟨T0, _, rfl, .inl (.inl upd_same), rfl, _, _, rfl, _, _, rfl, rfl, ?_⟩
      have s7 := same_new (o := .tup [V.int (i : Nat), V.int z]) hT
      generalize upd H6 T0 (.tup [V.int (i : Nat), V.int z]) = H7 at s7 ⊢
      obtain ⟨y0, hy0, hat⟩ := at_of (xs := gs.map V.int) (k := (i : Int) + 2) (by omega) (by rw [List.length_map, glen]; omega)
      obtain ⟨gz, rfl, hgz⟩ := ints_mem hy0
      refine ⟨_, rfl, _, rfl, _, _, rfl, rfl, pg, _, _, _, rfl, rfl, .inl (.inl (s7 _ _ g6)), hat, ?_⟩
      refine ⟨_, rfl, j, 3, rfl, j6.same s7, by decide, by decide, fun H8 kk c8 j8 k0 k3 => ⟨_, _, rfl, rfl, _, rfl, ?_⟩⟩
      generalize decide (0 < kk) = w
      cases w
      · refine iteF ?_
        have cX : Chg j H6 H8 := (Chg.of s7).trans c8
        have iX := chg_imm cX j6
        have jX := j8
        have hgX := hgz
        clear c8 j8
        generalize H8 = HX at *
        generalize gz = gX at *
        refine ⟨_, rfl, .inl ⟨rfl, _, .inl (.inl (cX _ _ hk6 npc))⟩, _, rfl, _, rfl, by show 2 ≤ sizeLine; exact sl_le (by decide), fun b hb => ?_⟩
        have sY := same_new (o := .tup [V.int z, V.int gX]) hb
        have bY : upd HX b (.tup [V.int z, V.int gX]) b = some (.tup [V.int z, V.int gX]) := upd_same
        generalize upd HX b (.tup [V.int z, V.int gX]) = HY at sY bY ⊢
        have kY := sY _ _ (cX _ _ hk6 npc)
        have iZ : Imm HY (upd HY pc (.lst (rs.map V.ref ++ [V.ref b]))) := Chg.imm Chg.upd kY trivial
        refine ⟨pc, _, _, rfl, rfl, kY, by rw [List.length_map, lr]; exact Nat.lt_of_lt_of_le (show i < 100 by omega) (sl_le (by decide)), ?_⟩
        refine ⟨chg_new ((c6.trans cX).trans (Chg.of sY)) hpc0, jug_upd npc (jX.same sY), ?_, ?_, rs ++ [b], cs ++ [(z, gX)], _, _, _, rfl, by rw [upd_same, List.map_append]; rfl, ?_, ?_, ?_⟩
        · rw [upd_ne npp]
          exact sY _ _ (cX _ _ p6 np)
        · rw [upd_ne npg']
          exact sY _ _ (cX _ _ g6 npg)
        · rw [List.map_append]
          exact Paired.snoc (F := fun b (p : V × V) => SqT K _ b [p.1, p.2]) (x := b) (y := cV (z, gX)) (.inl (.inl (iZ.1 _ _ bY))) (Paired.imm ((iX.trans (.of sY)).trans iZ) hp6)
        · rw [List.map_append, hf, List.take_add_one, ez]
          rfl
        · intro q hq
          rcases List.mem_append.mp hq with w | w
          · exact hg q w
          · rw [List.mem_singleton.mp w]
            exact hgX
      · refine iteT ⟨_, rfl, _, rfl, j, pg, _, rfl, j8, npg, .inl (.inl (c8 _ _ (s7 _ _ g6) npg)), ?_, ?_, fun H9 x c9 j9 hx => ?_⟩
        · intro q
          have := congrArg List.length q
          rw [List.length_map, glen] at this
          cases this
        · rw [List.length_map, glen]
          omega
        obtain ⟨gX, rfl, hgX⟩ := ints_mem hx
        have cX : Chg j H6 H9 := ((Chg.of s7).trans c8).trans c9
        have iX := chg_imm cX j6
        have jX := j9
        clear c9 j9 c8 j8
        generalize H9 = HX at *
        refine ⟨_, rfl, .inl ⟨rfl, _, .inl (.inl (cX _ _ hk6 npc))⟩, _, rfl, _, rfl, by show 2 ≤ sizeLine; exact sl_le (by decide), fun b hb => ?_⟩
        have sY := same_new (o := .tup [V.int z, V.int gX]) hb
        have bY : upd HX b (.tup [V.int z, V.int gX]) b = some (.tup [V.int z, V.int gX]) := upd_same
        generalize upd HX b (.tup [V.int z, V.int gX]) = HY at sY bY ⊢
        have kY := sY _ _ (cX _ _ hk6 npc)
        have iZ : Imm HY (upd HY pc (.lst (rs.map V.ref ++ [V.ref b]))) := Chg.imm Chg.upd kY trivial
        refine ⟨pc, _, _, rfl, rfl, kY, by rw [List.length_map, lr]; exact Nat.lt_of_lt_of_le (show i < 100 by omega) (sl_le (by decide)), ?_⟩
        refine ⟨chg_new ((c6.trans cX).trans (Chg.of sY)) hpc0, jug_upd npc (jX.same sY), ?_, ?_, rs ++ [b], cs ++ [(z, gX)], _, _, _, rfl, by rw [upd_same, List.map_append]; rfl, ?_, ?_, ?_⟩
        · rw [upd_ne npp]
          exact sY _ _ (cX _ _ p6 np)
        · rw [upd_ne npg']
          exact sY _ _ (cX _ _ g6 npg)
        · rw [List.map_append]
          exact Paired.snoc (F := fun b (p : V × V) => SqT K _ b [p.1, p.2]) (x := b) (y := cV (z, gX)) (.inl (.inl (iZ.1 _ _ bY))) (Paired.imm ((iX.trans (.of sY)).trans iZ) hp6)
        · rw [List.map_append, hf, List.take_add_one, ez]
          rfl
        · intro q hq
          rcases List.mem_append.mp hq with w | w
          · exact hg q w
          · rw [List.mem_singleton.mp w]
            exact hgX
    rintro σ H6 ⟨c6, j6, p6, g6, rs, cs, x8, x9, x10, rfl, hk6, hp6, hf, hg⟩
    rw [List.take_length] at hf
    have lcs : cs.length = ps.length := by rw [← hf, List.length_map]
    refine ⟨_, rfl, _, rfl, by show 2 ≤ sizeLine; exact sl_le (by decide), fun t htn => ?_⟩
    have st := same_new (o := .tup [V.ref pc, V.ref pg]) htn
    refine k _ t pc pg rs cs gs (c6.trans (Chg.of st)) (j6.same st) upd_same hpc0 (st _ _ hk6) (Paired.imm (.of st) hp6) hpg0 (st _ _ g6) ?_ (by omega) g9 ⟨by omega, ?_, by rw [hf]; exact asc⟩ (by omega)
    · intro q
      rw [q] at glen
      cases glen
    · intro q hq
      have h1 : q.1 ∈ ps := hf ▸ List.mem_map_of_mem hq
      have h2 := hps _ h1
      have h3 := g9 _ (hg q hq)
      omega
end
end K1
namespace K1
open PySem PySem.Spec L2 Z K7
section
variable {P : Program} {w : World} {K : PySem.W.Frag} {mg : Str → Option Value} {base : Heap} {C CU : Addr}
theorem ok_law_drawn_store (T : Txt K mg C CU) (G__law_drawn_cells : Pr P w K mg base "_law_drawn_cells" s_law_drawn_cells 3 ["_law_jug_here", "_law_most"] (sp_law_drawn_cells K)) (G__law_one_of : Pr P w K mg base "_law_one_of" s_law_one_of 2 ["_law_jug_here", "_law_some"] (sp_law_one_of K)) : Pr P w K mg base "_law_drawn_store" s_law_drawn_store 4 ["_law_jug_here", "_law_letters_here", "_law_most"] (sp_law_drawn_store K) := by
  obtain ⟨f, fd, F, gl, bd⟩ := T.d__law_drawn_store
  refine ⟨f, fd, F, gl, bd, F.ok sc_law_drawn_store (fun vs H Q E h => ?_) (fun cdv A outer s H vs Q E hr h => ?_)⟩
  · obtain ⟨j, pl, m, lcs, rfl, _⟩ := h
    rfl
  · obtain ⟨j, pl, m, lcs, rfl, hj, hl, npl, m0, m30, l1, l4, rng, asc, k⟩ := h
    have hu := hu_of hr
    refine ⟨_, (pss_cons (ps_asg (pcall G__law_drawn_cells (hr.mono (by decide)) (pa_cons (pv 0) (pa_cons (pv 2) pa_nil))) (pg_tup rfl (pgs_cons (pg_name (i := 3) sc_law_drawn_store.nd rfl (Or.inl rfl)) (pgs_cons (pg_name (i := 4) sc_law_drawn_store.nd rfl (Or.inr rfl)) pgs_nil))))
      (pss_one (ps_ret (pe_tup (pa_cons (pe_callTy call_tupP (by rfl) T.b_tuple (by decide +kernel) (pa_cons (pe_lc (own := [("_law_letter", 5)]) (g := gName 5) (tt := tYes) rfl sc_law_drawn_store.nd (pi_list (pv 1)) (blkOk_by (own := [("_law_letter", 5)]) (N := N_law_drawn_store) (sc := defScope s_law_drawn_store) (by decide +kernel)) (fun _ _ _ _ _ => (pg_name (i := 5) sc_law_drawn_store.nd rfl (Or.inl rfl))) (fun _ _ _ _ _ => pts_nil) (fun _ _ _ _ _ => (pe_tup (pa_cons (pv 5) (pa_cons (pcall G__law_one_of (hr.mono (by decide)) (pa_cons (pv 0) (pa_cons (pv 4) pa_nil))) pa_nil))))) pa_nil)) (pa_cons (pe_callTy call_tupP (by rfl) T.b_tuple (by decide +kernel) (pa_cons (pv 3) pa_nil)) pa_nil)))))), ?_⟩
    refine ⟨_, rfl, _, rfl, j, m, rfl, hj, m0, m30, fun H4 t4 pc pg rs cs gs c4 j4 ht4 hpc hk4 hp4 hpg hg4 gne glen g9 ck c30 => ?_⟩
    have npc : pc ≠ j := hj.ne hpc
    have npg : pg ≠ j := hj.ne hpg
    have hl4 := c4 _ _ hl npl
    refine ⟨t4, _, rfl, .inl (.inl ht4), rfl, _, _, rfl, _, _, rfl, rfl, ?_⟩
    unfold tRet tTup tCons tCB
    dsimp only
    refine lcMk (ls := lcs) cS (fun c q => ∃ g : Int, q = (cS c, V.int g) ∧ 0 ≤ g ∧ g ≤ 999) (fun l H' => pl = l ∧ H4 = H') (fun R hR => ⟨_, rfl, hR pl H4 ⟨rfl, rfl⟩⟩) (by omega) (fun l2 H' pre => ⟨lcs.map cS, .inl (.inl (by rw [← pre.1, ← pre.2]; exact hl4))⟩) (fun l2 H' D pre hD => ?_)
    obtain ⟨rfl, rfl⟩ := pre
    have nD : D ≠ j := j4.ne hD
    refine ⟨fun H' => Chg j H4 H' ∧ JugAt H' j, ⟨Chg.refl _ _, j4⟩, fun H' o h => ⟨chg_new h.1 hD, jug_upd nD h.2⟩, fun H' h => .inl (.inl (h.1 _ _ hl4 npl)), fun c H' acc R hp iv hk hR => ?_, fun H5 bs qs iv hk hq hg => ?_⟩
    · refine ⟨rfl, _, rfl, _, rfl, _, rfl, j, pg, _, rfl, iv.2, npg, .inl (.inl (iv.1 _ _ hg4 npg)), by simpa using gne, by rw [List.length_map]; omega, fun H6 x6 c6 j6 hx6 => ?_⟩
      obtain ⟨z, rfl, hz⟩ := ints_mem hx6
      refine ⟨by show 2 ≤ sizeLine; exact sl_le (by decide), fun b hb => ?_⟩
      have s7 := same_new (o := .tup [cS c, V.int z]) hb
      exact hR b (cS c, V.int z) _ ⟨(iv.1.trans c6).trans (Chg.of s7), j6.same s7⟩ ((chg_imm c6 iv.2).trans (.of s7)) (s7 _ _ (c6 _ _ hk nD)) ⟨z, rfl, (g9 z hz).1, (g9 z hz).2⟩ (.inl (.inl upd_same))
    obtain ⟨ns, rfl, hfst, hpl9⟩ := names_of hg
    have lns : ns.length = lcs.length := by rw [← hfst, List.length_map]
    have ok : NOk ns := ⟨by omega, by omega, fun p hp => rng _ (hfst ▸ List.mem_map_of_mem hp), hpl9, by rw [hfst]; exact asc⟩
    refine ⟨D, _, rfl, .inl (.inl hk), fun n o hn ho => ?_⟩
    have s6 : Same H5 (upd H5 n (.frz o (.tup (bs.map V.ref)))) := same_new hn
    have tn6 : TP K (upd H5 n (.frz o (.tup (bs.map V.ref)))) (.ref n) (ns.map nV) := ⟨n, bs, rfl, PT.new ho, Paired.imm (.of s6) hq⟩
    generalize upd H5 n (.frz o (.tup (bs.map V.ref))) = H6 at s6 tn6 ⊢
    have k6 := s6 _ _ (iv.1 _ _ hk4 npc)
    refine ⟨_, rfl, pc, _, rfl, .inl (.inl k6), fun n2 o2 hn2 ho2 => ?_⟩
    have s7 : Same H6 (upd H6 n2 (.frz o2 (.tup (rs.map V.ref)))) := same_new hn2
    have s57 := s6.trans s7
    have tc7 : TP K (upd H6 n2 (.frz o2 (.tup (rs.map V.ref)))) (.ref n2) (cs.map cV) := ⟨n2, rs, rfl, PT.new ho2, Paired.imm ((chg_imm iv.1 j4).trans (.of s57)) hp4⟩
    have tn7 := TP.imm (.of s7) tn6
    generalize upd H6 n2 (.frz o2 (.tup (rs.map V.ref))) = H7 at s7 s57 tc7 tn7 ⊢
    refine ⟨by show 2 ≤ sizeLine; exact sl_le (by decide), fun t ht => ?_⟩
    have s8 := same_new (o := .tup [V.ref n, V.ref n2]) ht
    exact k _ t (.ref n) (.ref n2) ns cs ((c4.trans iv.1).trans (Chg.of (s57.trans s8))) (iv.2.same (s57.trans s8)) upd_same (TP.imm (.of s8) tn7) (TP.imm (.of s8) tc7) ok ck c30
end
end K1
namespace K1
open PySem PySem.Spec L2 Z K7
section
variable {P : Program} {w : World} {K : PySem.W.Frag} {mg : Str → Option Value} {base : Heap} {C CU : Addr}
theorem ok_law_letters (T : Txt K mg C CU) (G__law_one_of : Pr P w K mg base "_law_one_of" s_law_one_of 2 ["_law_jug_here", "_law_some"] (sp_law_one_of K)) (G__law_take : Pr P w K mg base "_law_take" s_law_take 1 ["_law_jug_here", "_law_many"] sp_law_take) : Pr P w K mg base "_law_letters" s_law_letters 3 ["_law_jug_here", "_law_many"] sp_law_letters := by
  obtain ⟨f, fd, F, gl, bd⟩ := T.d__law_letters
  refine ⟨f, fd, F, gl, bd, F.ok sc_law_letters (fun vs H Q E h => ?_) (fun cdv A outer s H vs Q E hr h => ?_)⟩
  · obtain ⟨j, m, rfl, _⟩ := h
    rfl
  · obtain ⟨j, m, rfl, hj, m1, m2, k⟩ := h
    have hu := hu_of hr
    refine ⟨_, (pss_cons (ps_set (i := 2) sc_law_letters.nd rfl (Or.inr rfl) (pe_lst pa_nil))
      (pss_cons (ps_for PassesOwn.never rfl (pi_range1 rfl T.b_range (pa_cons (pv 1) pa_nil)) (pg_name (i := 3) sc_law_letters.nd rfl (Or.inl rfl))
      (pss_cons (ps_setLc (i := 4) (own := [("_law_letter", 6)]) (g := gName 6) rfl sc_law_letters.nd rfl rfl (sw_true rfl rfl rfl (by decide +kernel)) (pi_str pe_str) (blkOk_by (own := [("_law_letter", 6)]) (N := N_law_letters) (sc := defScope s_law_letters) (by decide +kernel)) (fun _ _ _ _ _ => (pg_name (i := 6) sc_law_letters.nd rfl (Or.inl rfl))) (fun _ _ _ _ _ => (pts_one (pt_cmpR (op_notIn_seqK (K := K) rfl) (pv 6) (pv 2) (by rfl)))) (fun _ _ _ _ _ => (pv 6)))
      (pss_cons (ps_setLc (i := 5) (own := [("_law_letter", 6)]) (g := gName 6) rfl sc_law_letters.nd rfl rfl (sw_true rfl rfl rfl (by decide +kernel)) (pi_str pe_str) (blkOk_by (own := [("_law_letter", 6)]) (N := N_law_letters) (sc := defScope s_law_letters) (by decide +kernel)) (fun _ _ _ _ _ => (pg_name (i := 6) sc_law_letters.nd rfl (Or.inl rfl))) (fun _ _ _ _ _ => (pts_one (pt_cmpR (op_notIn_seqK (K := K) rfl) (pv 6) (pv 2) (by rfl)))) (fun _ _ _ _ _ => (pv 6)))
      (pss_one (ps_expr (pe_bm PySem.F.plainAttrs_list PySem.F.slot_list_append PySem.F.type_list_append mt_append (pv 2) (pa_cons (pcall G__law_one_of (hr.mono (by decide)) (pa_cons (pv 0) (pa_cons (pe_ifExp (pt_cmpR op_eq (pcall G__law_take (hr.mono (by decide)) (pa_cons (pv 0) (pa_cons pe_int pa_nil))) pe_int (nomark _)) (pv 4) (pv 5)) pa_nil))) pa_nil)))))))
      (pss_one (ps_ret (pe_callB cr_sortedS (by rfl) T.b_sorted (by decide +kernel) (pa_cons (pv 2) pa_nil)))))), ?_⟩
    refine ⟨Nat.zero_le _, fun p hp => ?_⟩
    have np : p ≠ j := hj.ne hp
    refine ⟨_, rfl, m, rfl, by omega, by omega, ?_⟩
    refine for_range (lo := 0) (n := m.toNat) (fun i σ H' => Chg j H H' ∧ JugAt H' j ∧ ∃ cs : List Nat, ∃ x3 x4 x5, σ = [some (.ref j), some (.int m), some (.ref p), x3, x4, x5, none] ∧ H' p = some (.lst (cs.map cS)) ∧ cs.length = i ∧ (∀ c ∈ cs, 97 ≤ c ∧ c ≤ 122) ∧ cs.Nodup)
      ⟨Chg.of (same_new hp), jug_upd np hj, [], _, _, _, rfl, upd_same, rfl, (fun c hc => by cases hc), List.nodup_nil⟩ ?_ ?_
    · rintro i σ H1 hi ⟨c1, hj1, cs, x3, x4, x5, rfl, hk, hl, hc, nd⟩
      unfold gName tSeq tAsg
      dsimp only
      refine lcF hk (by decide +kernel) fun H2 D2 s2 hD2 hd2 => ?_
      refine lcF (s2 _ _ hk) (by decide +kernel) fun H3 D3 s3 hD3 hd3 => ?_
      have hj3 := (hj1.same s2).same s3
      have neD2 : D2 ≠ j := hj1.ne hD2
      have neD3 : D3 ≠ j := (hj1.same s2).ne hD3
      refine ⟨_, rfl, .inl ⟨rfl, _, .inl (.inl (s3 _ _ (s2 _ _ hk)))⟩, _, rfl, _, rfl, j, 2, rfl, hj3, by decide, by decide, fun H4 kk c4 j4 k0 k2 => ⟨rfl, _, rfl, ?_⟩⟩
      generalize decide (V.int kk = V.int 0) = z
      cases z
      · refine iteF ⟨_, rfl, j, D3, _, rfl, j4, neD3, .inl (.inl (c4 _ _ (hd3) neD3)), ?_, ?_, fun H5 x c5 j5 hx => ?_⟩
        · intro z
          exact left_pos (S := (Str.ofString "abcdefghijklmnopqrstuvwxyz").cps.toList) (by decide +kernel) (by rw [all_n]; omega) (List.map_eq_nil_iff.mp z)
        · rw [List.length_map]
          exact Nat.lt_of_le_of_lt (List.length_filter_le _ _) (by decide +kernel)
        obtain ⟨c, hcm, rfl⟩ := List.mem_map.mp hx
        obtain ⟨cS1, cN'⟩ := List.mem_filter.mp hcm
        have cN : c ∉ cs := by simpa using cN'
        have hp5 := c5 _ _ (c4 _ _ (s3 _ _ (s2 _ _ hk)) np) np
        refine ⟨p, _, _, rfl, rfl, hp5, by rw [List.length_map]; exact Nat.lt_of_lt_of_le (show cs.length < 100 by omega) (sl_le (by decide)), ?_⟩
        refine ⟨chg_new (((c1.trans (Chg.of (s2.trans s3))).trans c4).trans c5) hp, ?_, cs ++ [c], _, _, _, rfl, by rw [upd_same, List.map_append]; rfl, by rw [List.length_append, hl]; rfl, ?_, ?_⟩
        · exact jug_upd np j5
        · intro c' hc'
          rcases List.mem_append.mp hc' with z | z
          · exact hc c' z
          · cases List.mem_singleton.mp z
            exact all_let c cS1
        · refine List.nodup_append.mpr ⟨nd, by simp, ?_⟩
          intro u hu v hv e
          cases List.mem_singleton.mp hv
          exact cN (e ▸ hu)
      · refine iteT ⟨_, rfl, j, D2, _, rfl, j4, neD2, .inl (.inl (c4 _ _ (s3 _ _ hd2) neD2)), ?_, ?_, fun H5 x c5 j5 hx => ?_⟩
        · intro z
          exact left_pos (S := (Str.ofString "xyzuvw").cps.toList) (by decide +kernel) (by rw [near_n]; omega) (List.map_eq_nil_iff.mp z)
        · rw [List.length_map]
          exact Nat.lt_of_le_of_lt (List.length_filter_le _ _) (by decide +kernel)
        obtain ⟨c, hcm, rfl⟩ := List.mem_map.mp hx
        obtain ⟨cS1, cN'⟩ := List.mem_filter.mp hcm
        have cN : c ∉ cs := by simpa using cN'
        have hp5 := c5 _ _ (c4 _ _ (s3 _ _ (s2 _ _ hk)) np) np
        refine ⟨p, _, _, rfl, rfl, hp5, by rw [List.length_map]; exact Nat.lt_of_lt_of_le (show cs.length < 100 by omega) (sl_le (by decide)), ?_⟩
        refine ⟨chg_new (((c1.trans (Chg.of (s2.trans s3))).trans c4).trans c5) hp, ?_, cs ++ [c], _, _, _, rfl, by rw [upd_same, List.map_append]; rfl, by rw [List.length_append, hl]; rfl, ?_, ?_⟩
        · exact jug_upd np j5
        · intro c' hc'
          rcases List.mem_append.mp hc' with z | z
          · exact hc c' z
          · cases List.mem_singleton.mp z
            exact near_let c cS1
        · refine List.nodup_append.mpr ⟨nd, by simp, ?_⟩
          intro u hu v hv e
          cases List.mem_singleton.mp hv
          exact cN (e ▸ hu)
    · rintro σ H1 ⟨c1, hj1, cs, x3, x4, x5, rfl, hk, hl, hc, nd⟩
      refine ⟨_, rfl, p, cs.map ch, rfl, .inl (.inl (by rw [List.map_map]; exact hk)), by rw [List.length_map]; omega, fun ys q hperm hsort hq => ?_⟩
      obtain ⟨l, rfl, pl, as⟩ := sorted_ch hperm hsort nd
      have hq0 := none_chg c1 hj1 hq
      exact k _ q l (chg_new c1 hq0) (jug_upd (hj1.ne hq) hj1) hq0 (by rw [upd_same, List.map_map]; rfl) (by rw [pl.length_eq, hl]; omega) (fun c h => hc c (pl.mem_iff.mp h)) as
end
end K1
namespace K1
open PySem PySem.Spec L2 Z K7
section
variable {P : Program} {w : World} {K : PySem.W.Frag} {mg : Str → Option Value} {base : Heap} {C CU : Addr}
theorem ok_is_tuple_of (T : Txt K mg C CU)  : Pr P w K mg base "is_tuple_of" s_is_tuple_of 1 ["value", "many"] (sp_is_tuple_of K) := by
  obtain ⟨f, fd, F, gl, bd⟩ := T.d_is_tuple_of
  refine ⟨f, fd, F, gl, bd, F.ok sc_is_tuple_of (fun vs H Q E h => ?_) (fun cdv A outer s H vs Q E hr h => ?_)⟩
  · obtain ⟨a, xs, rfl, _⟩ := h
    rfl
  · obtain ⟨a, xs, rfl, h, k⟩ := h
    have hu := hu_of hr
    refine ⟨_, (pss_one (ps_ret (pe_and (pe_callB call_isi (by rfl) T.b_isinstance (by decide +kernel) (pa_cons (pv 0) (pa_cons (pe_bty "tuple" (by rfl) T.b_tuple (by decide +kernel)) pa_nil))) (pe_one (pe_cmpR op_eq (pe_callB call_len_seq (by rfl) T.b_len (by decide +kernel) (pa_cons (pv 0) pa_nil)) (pv 1) (nomark _)))))), ?_⟩
    refine ⟨_, rfl, _, _, _, _, _, rfl, .ty _, SqT.ty h, kit_ty (r := true) (by decide +kernel), _, rfl, ?_⟩
    refine iteT ⟨_, rfl, a, xs, rfl, .inr h, _, rfl, rfl, ?_⟩
    have e : decide (V.int (xs.length : Int) = V.int (xs.length : Int)) = true := decide_eq_true rfl
    rw [e]
    exact k
end
end K1
namespace K1
open PySem PySem.Spec L2 Z K7
section
variable {P : Program} {w : World} {K : PySem.W.Frag} {mg : Str → Option Value} {base : Heap} {C CU : Addr}
theorem ok_is_number (T : Txt K mg C CU)  : Pr P w K mg base "is_number" s_is_number 1 ["value"] sp_is_number := by
  obtain ⟨f, fd, F, gl, bd⟩ := T.d_is_number
  refine ⟨f, fd, F, gl, bd, F.ok sc_is_number (fun vs H Q E h => ?_) (fun cdv A outer s H vs Q E hr h => ?_)⟩
  · obtain ⟨i, rfl, _⟩ := h
    rfl
  · obtain ⟨i, rfl, k⟩ := h
    have hu := hu_of hr
    refine ⟨_, (pss_one (ps_ret (pe_and (pe_callB call_isi (by rfl) T.b_isinstance (by decide +kernel) (pa_cons (pv 0) (pa_cons (pe_bty "int" (by rfl) T.b_int (by decide +kernel)) pa_nil))) (pe_one (pe_not (pe_callB call_isi (by rfl) T.b_isinstance (by decide +kernel) (pa_cons (pv 0) (pa_cons (pe_bty "bool" (by rfl) T.b_bool (by decide +kernel)) pa_nil)))))))), ?_⟩
    refine ⟨_, rfl, _, _, _, _, _, rfl, .ty _, .base (.int i), kit_ty (r := true) (by decide +kernel), _, rfl, ?_⟩
    refine iteT ?_
    exact ⟨_, rfl, _, _, _, _, _, rfl, .ty _, .base (.int i), kit_ty (r := false) (by decide +kernel), _, rfl, k⟩
end
end K1
namespace K1
open PySem PySem.Spec L2 Z K7
section
variable {P : Program} {w : World} {K : PySem.W.Frag} {mg : Str → Option Value} {base : Heap} {C CU : Addr}
theorem ok_is_whole (T : Txt K mg C CU) (G_is_number : Pr P w K mg base "is_number" s_is_number 1 ["value"] sp_is_number) : Pr P w K mg base "is_whole" s_is_whole 2 ["value", "low", "high"] sp_is_whole := by
  obtain ⟨f, fd, F, gl, bd⟩ := T.d_is_whole
  refine ⟨f, fd, F, gl, bd, F.ok sc_is_whole (fun vs H Q E h => ?_) (fun cdv A outer s H vs Q E hr h => ?_)⟩
  · obtain ⟨i, lo, hi, rfl, _⟩ := h
    rfl
  · obtain ⟨i, lo, hi, rfl, h1, h2, k⟩ := h
    have hu := hu_of hr
    refine ⟨_, (pss_one (ps_ret (pe_and (pcall G_is_number (hr.mono (by decide)) (pa_cons (pv 0) pa_nil)) (pe_one (pe_chain op_le op_le (pv 1) (pv 0) (pv 2)))))), ?_⟩
    refine ⟨_, rfl, _, rfl, _, rfl, iteT ?_⟩
    refine ⟨_, rfl, _, rfl, _, _, rfl, rfl, _, rfl, ?_⟩
    rw [decide_eq_true h1]
    refine iteT ⟨_, rfl, _, _, rfl, rfl, ?_⟩
    show Q (.bl (decide (i ≤ hi))) H
    rw [decide_eq_true h2]
    exact k
end
end K1
namespace K1
open PySem PySem.Spec L2 Z K7
section
variable {P : Program} {w : World} {K : PySem.W.Frag} {mg : Str → Option Value} {base : Heap} {C CU : Addr}
theorem ok_is_place (T : Txt K mg C CU) (G_is_whole : Pr P w K mg base "is_whole" s_is_whole 2 ["value", "low", "high"] sp_is_whole) : Pr P w K mg base "is_place" s_is_place 3 ["value"] sp_is_place := by
  obtain ⟨f, fd, F, gl, bd⟩ := T.d_is_place
  refine ⟨f, fd, F, gl, bd, F.ok sc_is_place (fun vs H Q E h => ?_) (fun cdv A outer s H vs Q E hr h => ?_)⟩
  · obtain ⟨i, rfl, _⟩ := h
    rfl
  · obtain ⟨i, rfl, h1, h2, k⟩ := h
    have hu := hu_of hr
    refine ⟨_, (pss_one (ps_ret (pcall G_is_whole (hr.mono (by decide)) (pa_cons (pv 0) (pa_cons (pe_globI rfl T.c_END) (pa_cons (pe_globI rfl T.c_LAST_PLACE) pa_nil)))))), ?_⟩
    exact ⟨_, rfl, i, 0, 999, rfl, h1, h2, k⟩
end
end K1
namespace K1
open PySem PySem.Spec L2 Z K7
section
variable {P : Program} {w : World} {K : PySem.W.Frag} {mg : Str → Option Value} {base : Heap} {C CU : Addr}
theorem ok_wrong_cell (T : Txt K mg C CU) (G_is_tuple_of : Pr P w K mg base "is_tuple_of" s_is_tuple_of 1 ["value", "many"] (sp_is_tuple_of K)) (G_is_place : Pr P w K mg base "is_place" s_is_place 3 ["value"] sp_is_place) : Pr P w K mg base "_wrong_cell" s_wrong_cell 4 ["cells"] (sp_wrong_cell K) := by
  obtain ⟨f, fd, F, gl, bd⟩ := T.d__wrong_cell
  refine ⟨f, fd, F, gl, bd, F.ok sc_wrong_cell (fun vs H Q E h => ?_) (fun cdv A outer s H vs Q E hr h => ?_)⟩
  · obtain ⟨v, cs, rfl, _⟩ := h
    rfl
  · obtain ⟨v, cs, rfl, ⟨a, rs, rfl, ht, hp⟩, ok, k⟩ := h
    have hu := hu_of hr
    refine ⟨_, (pss_cons (ps_set (i := 1) sc_wrong_cell.nd rfl (Or.inl rfl) (pe_globI rfl T.c_END))
      (pss_cons (ps_for PassesOwn.never rfl (pi_enumT rfl T.b_enumerate (pa_cons (pv 0) pa_nil)) (pg_tup rfl (pgs_cons (pg_name (i := 2) sc_wrong_cell.nd rfl (Or.inl rfl)) (pgs_cons (pg_name (i := 3) sc_wrong_cell.nd rfl (Or.inl rfl)) pgs_nil)))
      (pss_cons (ps_if (PW.pt (pw_or (pt_cmpR op_ge (pv 2) (pe_globI rfl T.c_MOST_CELLS) (nomark _)) (pw_or (pt_not (pt_val (pcall G_is_tuple_of (hr.mono (by decide)) (pa_cons (pv 3) (pa_cons pe_int pa_nil))))) (pw_or (pt_not (pt_val (pcall G_is_place (hr.mono (by decide)) (pa_cons (pe_ix ix_tup (pv 3) pe_int (fun _ _ => rfl)) pa_nil)))) (pw_or1 (pt_not (pt_val (pcall G_is_place (hr.mono (by decide)) (pa_cons (pe_ix ix_tup (pv 3) pe_int (fun _ _ => rfl)) pa_nil))))))))) (pss_one (ps_ret (pv 2))) pss_nil)
      (pss_cons (ps_if (pt_cmpR op_le (pe_ix ix_tup (pv 3) pe_int (fun _ _ => rfl)) (pv 1) (nomark _)) (pss_one (ps_ret (pv 2))) pss_nil)
      (pss_one (ps_set (i := 1) sc_wrong_cell.nd rfl (Or.inl rfl) (pe_ix ix_tup (pv 3) pe_int (fun _ _ => rfl)))))))
      (pss_one (ps_ret pe_non)))), ?_⟩
    have o4 := ok.few
    refine ⟨_, rfl, a, _, rfl, ht.sq, ?_⟩
    refine for_enumP (fun i σ H' => Same H H' ∧ ∃ b : Int, ∃ x y, σ = [some (.ref a), some (.int b), x, y] ∧ ∀ p, cs[i]? = some p → b < p.1) ⟨fun b o e => e, _, _, _, rfl, fun p e => (ok.pl p (List.mem_of_getElem? e)).1⟩ ht hp ?_ ?_ ?_
    · rintro i σ H' ⟨s, _⟩
      exact s
    · rintro i b p σ H' t eb ep hq ⟨sm, z, x0, y0, rfl, hlt⟩ hn
      obtain ⟨q, eq, rfl⟩ := map_at ep
      have hm := List.mem_of_getElem? eq
      obtain ⟨p1, p2, p3, p4⟩ := ok.pl q hm
      have hi : i < cs.length := (List.getElem?_eq_some_iff.mp eq).1
      have sm2 : Same H (upd H' t (.tup [.int (i : Nat), .ref b])) := sm.trans (same_new hn)
      have hq2 : SqT K (upd H' t (.tup [.int (i : Nat), .ref b])) b [(cV q).1, (cV q).2] := SqT.imm (.of (same_new hn)) hq
      refine ⟨t, _, rfl, .inl (.inl upd_same), rfl, _, _, rfl, _, _, rfl, rfl, ?_⟩
      refine ⟨_, rfl, _, _, rfl, rfl, false, congrArg V.bl (decide_eq_false (by omega)), iteF ?_⟩
      refine ⟨_, rfl, b, _, rfl, hq2, _, rfl, iteF ?_⟩
      refine ⟨_, rfl, b, _, 0, _, rfl, rfl, hq2, at_first, q.1, rfl, by omega, p2, _, rfl, iteF ?_⟩
      refine ⟨_, rfl, b, _, 1, _, rfl, rfl, hq2, at_snd, q.2, rfl, p3, p4, _, rfl, iteF ?_⟩
      have hz := hlt q eq
      refine ⟨_, rfl, b, _, 0, _, rfl, rfl, hq2, at_first, _, rfl, _, _, rfl, rfl, false, congrArg V.bl (decide_eq_false (by omega)), iteF ?_⟩
      exact ⟨_, rfl, b, _, 0, _, rfl, rfl, hq2, at_first, sm2, _, _, _, rfl, fun p hp => asc_atI ok.asc eq hp⟩
    · rintro σ H' ⟨s, _⟩
      exact k _ s
end
end K1
namespace K1
open PySem PySem.Spec L2 Z K7
section
variable {P : Program} {w : World} {K : PySem.W.Frag} {mg : Str → Option Value} {base : Heap} {C CU : Addr}
theorem ok_store_text (T : Txt K mg C CU)  : Pr P w K mg base "_store_text" s_store_text 1 ["names", "cells"] (sp_store_text K) := by
  obtain ⟨f, fd, F, gl, bd⟩ := T.d__store_text
  refine ⟨f, fd, F, gl, bd, F.ok sc_store_text (fun vs H Q E h => ?_) (fun cdv A outer s H vs Q E hr h => ?_)⟩
  · obtain ⟨v, u, ns, cs, rfl, _⟩ := h
    rfl
  · obtain ⟨v, u, ns, cs, rfl, ⟨a, rs, rfl, ht, hp⟩, ⟨b, qs, rfl, ht2, hp2⟩, ok, ck, k⟩ := h
    have hu := hu_of hr
    refine ⟨_, (pss_cons (ps_set (i := 2) sc_store_text.nd rfl (Or.inl rfl) (pe_join pe_str (pe_lc (own := [("letter", 4), ("place", 5)]) (g := gTup K 2 (gCons (gName 4) (gCons (gName 5) gNil))) (tt := tYes) rfl sc_store_text.nd (pi_tup (pv 0)) (blkOk_by (own := [("letter", 4), ("place", 5)]) (N := N_store_text) (sc := defScope s_store_text) (by decide +kernel)) (fun _ _ _ _ _ => (pg_tup rfl (pgs_cons (pg_name (i := 4) sc_store_text.nd rfl (Or.inl rfl)) (pgs_cons (pg_name (i := 5) sc_store_text.nd rfl (Or.inl rfl)) pgs_nil)))) (fun _ _ _ _ _ => pts_nil) (fun _ _ _ _ _ => (pe_joined (PJ.cons (pe_fmt (pv 4)) (PJ.cons pe_str (PJ.cons (pe_fmt (pv 5)) PJ.nil))))))))
      (pss_cons (ps_set (i := 3) sc_store_text.nd rfl (Or.inl rfl) (pe_join pe_str (pe_lc (own := [("place", 5), ("to", 6)]) (g := gTup K 2 (gCons (gName 5) (gCons (gName 6) gNil))) (tt := tYes) rfl sc_store_text.nd (pi_tup (pv 1)) (blkOk_by (own := [("place", 5), ("to", 6)]) (N := N_store_text) (sc := defScope s_store_text) (by decide +kernel)) (fun _ _ _ _ _ => (pg_tup rfl (pgs_cons (pg_name (i := 5) sc_store_text.nd rfl (Or.inl rfl)) (pgs_cons (pg_name (i := 6) sc_store_text.nd rfl (Or.inl rfl)) pgs_nil)))) (fun _ _ _ _ _ => pts_nil) (fun _ _ _ _ _ => (pe_joined (PJ.cons (pe_fmt (pv 5)) (PJ.cons pe_str (PJ.cons (pe_fmt (pv 6)) PJ.nil))))))))
      (pss_one (ps_ret (pe_joined (PJ.cons (pe_fmt (pv 2)) (PJ.cons pe_str (PJ.cons (pe_fmt (pe_orT (pv 3) (pe_one pe_str))) PJ.nil)))))))), ?_⟩
    have o4 := ok.four
    have c4 := ck.few
    refine ⟨⟨_, rfl⟩, ?_⟩
    refine lcP nV (fun p => V.str (nameW p)) rfl ht hp (by omega) (fun b p H1 R sm hq hm hR => ?_) (fun H1 D sm hD hl => ?_)
    · obtain ⟨p1, p2⟩ := ok.pl p hm
      refine ⟨b, _, rfl, hq, rfl, _, _, rfl, _, _, rfl, rfl, rfl, ?_⟩
      refine ⟨_, rfl, .inl ⟨_, rfl, sl_le (by rw [ch_len]; decide), _, rfl, sl_le (by rw [emp_app, ch_len]; decide), _, rfl, sl_le (by rw [len_app, emp_app, ch_len, eq1_len]; decide), _, rfl, .inr ⟨p.2, rfl, num_log p1 p2, _, rfl, ?_, ?_⟩⟩⟩
      · have := nameW_len p1 p2
        rw [← nameW_eq] at this
        exact sl_le (Nat.le_trans this (by decide))
      · rw [← nameW_eq] at hR
        exact hR
    have sum1 := sum_len (k := 5) (ys := ns.map nameW) (fun y hy => by
      obtain ⟨p, hp, rfl⟩ := List.mem_map.mp hy
      exact nameW_len (ok.pl p hp).1 (ok.pl p hp).2)
    rw [List.length_map] at sum1
    refine ⟨_, _, ns.map nameW, rfl, rfl, .inl (.inl (.inl (by rw [List.map_map]; exact hl))), ?_, ?_⟩
    · rw [List.length_map, sp1_len]
      omega
    refine ⟨⟨_, rfl⟩, ?_⟩
    refine lcP cV (fun p => V.str (cellW p)) rfl (PT.same sm ht2) (Paired.imm (.of sm) hp2) (by omega) (fun b p H3 R sm hq hm hR => ?_) (fun H2 D2 sm2 hD2 hl2 => ?_)
    · obtain ⟨p1, p2, p3, p4⟩ := ck.pl p hm
      have p0 : 0 ≤ p.1 := by omega
      have n1 := num_len p0 p2
      refine ⟨b, _, rfl, hq, rfl, _, _, rfl, _, _, rfl, rfl, rfl, ?_⟩
      refine ⟨_, rfl, .inr ⟨p.1, rfl, num_log p0 p2, _, rfl, sl_le (by rw [emp_app]; exact Nat.le_trans n1 (by decide)), _, rfl, sl_le (by rw [len_app, emp_app, gt1_len]; exact Nat.le_trans (Nat.add_le_add_right n1 1) (by decide)), _, rfl, .inr ⟨p.2, rfl, num_log p3 p4, _, rfl, ?_, ?_⟩⟩⟩
      · have := cellW_len p0 p2 p3 p4
        rw [← cellW_eq] at this
        exact sl_le (Nat.le_trans this (by decide))
      · rw [← cellW_eq] at hR
        exact hR
    have sum2 := sum_len (k := 7) (ys := cs.map cellW) (cs_le ck)
    rw [List.length_map] at sum2
    refine ⟨_, _, cs.map cellW, rfl, rfl, .inl (.inl (.inl (by rw [List.map_map]; exact hl2))), ?_, ?_⟩
    · rw [List.length_map, sp1_len]
      omega
    have L1 := nTxt_len ok
    have L2 := cTxt_len ck
    refine ⟨_, rfl, .inl ⟨_, rfl, sl_le (Nat.le_trans L1 (by decide)), _, rfl, sl_le (by rw [emp_app]; exact Nat.le_trans L1 (by decide)), _, rfl, sl_le (by rw [len_app, emp_app, bar_len]; exact Nat.le_trans (Nat.add_le_add_right L1 3) (by decide)), ?_⟩⟩
    have fin : stTxt ns cs = Str.empty ++ nTxt ns ++ Str.ofString " | " ++ cTxt cs := by rw [emp_app]; rfl
    have kk := k H2 (sm.trans sm2)
    rw [fin] at kk
    have L3 : (Str.empty ++ nTxt ns ++ Str.ofString " | " ++ cTxt cs).length ≤ sizeLine := sl_le (by rw [emp_app, len_app, len_app, bar_len]; omega)
    by_cases hc : cs = []
    · have e : Txt.join (Str.ofString " ") (cs.map cellW) = Str.empty := by rw [hc]; exact glue_nil
      have e2 : cTxt cs = Str.ofString "none" := if_pos hc
      rw [e2] at kk L3
      refine ⟨_, rfl, false, ?_, iteF ?_⟩
      · rw [e]
        exact ⟨Nat.zero_le _, rfl⟩
      · exact .inl ⟨_, rfl, by rw [none_len]; exact sl_le (by decide), _, rfl, L3, kk⟩
    · have e2 : cTxt cs = Txt.join (Str.ofString " ") (cs.map cellW) := if_neg hc
      have e3 := cells_pos hc
      rw [e2] at kk L3 L2
      refine ⟨_, rfl, true, ⟨sl_le (Nat.le_trans L2 (by decide)), ?_⟩, iteT ?_⟩
      · have : ((Txt.join (Str.ofString " ") (cs.map cellW)).length : Int) ≠ 0 := by
          unfold sp1 at e3
          omega
        exact (bne_iff_ne.mpr this).symm
      · exact .inl ⟨_, rfl, sl_le (Nat.le_trans L2 (by decide)), _, rfl, L3, kk⟩
end
end K1
namespace K1
open PySem PySem.Spec L2 Z K7
section
variable {P : Program} {w : World} {K : PySem.W.Frag} {mg : Str → Option Value} {base : Heap} {C CU : Addr}
theorem ok_take (T : Txt K mg C CU) (G__store_text : Pr P w K mg base "_store_text" s_store_text 1 ["names", "cells"] (sp_store_text K)) : PrM P w K mg base C "take" "Store.take" s_take 2 ["self", "names", "cells"] (sp_take K C) := by
  obtain ⟨f, fd, F, gl, bd⟩ := T.d_take
  refine ⟨f, fd, F, gl, bd, F.ok sc_take (fun vs H Q E h => ?_) (fun cdv A outer s H vs Q E hr h => ?_)⟩
  · obtain ⟨x, dx, v, u, ns, cs, rfl, _⟩ := h
    rfl
  · obtain ⟨x, dx, v, u, ns, cs, rfl, hx, hv, hu1, ok, ck, k⟩ := h
    have hu := hu_of hr
    refine ⟨_, (pss_cons (ps_fld (pv 0) (pv 1) rfl)
      (pss_cons (ps_fld (pv 0) (pv 2) rfl)
      (pss_cons (ps_fld (pv 0) (pe_join pe_str (pe_lc (own := [("letter", 3), ("_", 4)]) (g := gTup K 2 (gCons (gName 3) (gCons (gName 4) gNil))) (tt := tYes) rfl sc_take.nd (pi_tup (pv 1)) (blkOk_by (own := [("letter", 3), ("_", 4)]) (N := N_take) (sc := defScope s_take) (by decide +kernel)) (fun _ _ _ _ _ => (pg_tup rfl (pgs_cons (pg_name (i := 3) sc_take.nd rfl (Or.inl rfl)) (pgs_cons (pg_name (i := 4) sc_take.nd rfl (Or.inl rfl)) pgs_nil)))) (fun _ _ _ _ _ => pts_nil) (fun _ _ _ _ _ => (pv 3)))) rfl)
      (pss_cons (ps_fld (pv 0) (pcall G__store_text (hr.mono (by decide)) (pa_cons (pv 1) (pa_cons (pv 2) pa_nil))) rfl)
      (pss_cons (ps_fld (pv 0) (pe_callTy (call_dictT rfl) (by rfl) T.b_dict (by decide +kernel) (pa_cons (pv 1) pa_nil)) rfl)
      (pss_cons (ps_fld (pv 0) (pe_callTy (call_dictT rfl) (by rfl) T.b_dict (by decide +kernel) (pa_cons (pv 2) pa_nil)) rfl)
      (pss_one (ps_fld (pv 0) (pe_dc (own := [("_", 4), ("place", 5)]) (g := gTup K 2 (gCons (gName 4) (gCons (gName 5) gNil))) (tt := tYes) rfl sc_take.nd (pi_tup (pe_op op_catP (pv 1) (pv 2))) (blkOk_by (own := [("_", 4), ("place", 5)]) (N := N_take) (sc := defScope s_take) (by decide +kernel)) (fun _ _ _ _ _ => (pg_tup rfl (pgs_cons (pg_name (i := 4) sc_take.nd rfl (Or.inl rfl)) (pgs_cons (pg_name (i := 5) sc_take.nd rfl (Or.inl rfl)) pgs_nil)))) (fun _ _ _ _ _ => pts_nil) (fun _ _ _ _ _ => (pv 5)) (fun _ _ _ _ _ => pe_bl)) rfl)))))))), ?_⟩
    obtain ⟨a, rs, rfl, ht, hp⟩ := hv
    obtain ⟨b, qs, rfl, ht2, hp2⟩ := hu1
    have o4 := ok.four
    have c4 := ck.few
    refine ⟨_, rfl, _, rfl, x, C, dx, _, rfl, hx, T.cl, T.n_names, of_decide_eq_true rfl, ?_⟩
    refine ⟨_, rfl, _, rfl, x, C, dx, _, rfl, upd_same, T.cl, T.n_cells, of_decide_eq_true rfl, ?_⟩
    generalize e3 : upd (upd H x _) x _ = H3
    have c3 : Chg x H H3 := by
      subst e3
      exact Chg.upd.trans Chg.upd
    have x3 : H3 x = some (.ins C dx [("names", .ref a), ("cells", .ref b)]) := by
      subst e3
      exact upd_same
    clear e3
    have i3 : Imm H H3 := c3.imm hx trivial
    refine ⟨⟨_, rfl⟩, ?_⟩
    refine lcP nV (fun p => V.str (ch p.1)) rfl (PT.imm i3 ht) (Paired.imm i3 hp) (by omega) (fun b p H4 R sm hq hm hR => ?_) (fun H4 D4 s4 hD4 hl4 => ?_)
    · exact ⟨b, _, rfl, hq, rfl, _, _, rfl, _, _, rfl, rfl, rfl, _, rfl, hR⟩
    have l4 : (List.map (fun x => x.length) (ns.map fun p => ch p.1)).sum ≤ 1 * (ns.map fun p => ch p.1).length := sum_len fun y hy => by
      obtain ⟨p, hp, rfl⟩ := List.mem_map.mp hy
      exact Nat.le_refl _
    rw [List.length_map] at l4
    refine ⟨_, _, ns.map fun p => ch p.1, rfl, rfl, .inl (.inl (.inl (by rw [List.map_map]; exact hl4))), ?_, ?_⟩
    · rw [List.length_map]
      have e : (Str.ofString "").length = 0 := by decide +kernel
      rw [e]
      omega
    refine ⟨_, rfl, x, C, dx, _, rfl, s4 _ _ x3, T.cl, T.n_letters, of_decide_eq_true rfl, ?_⟩
    generalize e5 : upd H4 x _ = H5
    have c5 : Chg x H H5 := by
      subst e5
      exact c3.trans ((Chg.of s4).trans Chg.upd)
    have x5 : H5 x = some (.ins C dx [("names", .ref a), ("cells", .ref b), ("letters", .str (lTxt ns))]) := by
      subst e5
      exact upd_same
    clear e5
    have i5 : Imm H H5 := c5.imm hx trivial
    refine ⟨_, rfl, _, rfl, .ref a, .ref b, ns, cs, rfl, ⟨a, rs, rfl, PT.imm i5 ht, Paired.imm i5 hp⟩, ⟨b, qs, rfl, PT.imm i5 ht2, Paired.imm i5 hp2⟩, ok, ck, fun H6 s6 => ?_⟩
    refine ⟨_, rfl, x, C, dx, _, rfl, s6 _ _ x5, T.cl, T.n_text, of_decide_eq_true rfl, ?_⟩
    generalize e7 : upd H6 x _ = H7
    have c7 : Chg x H H7 := by
      subst e7
      exact c5.trans ((Chg.of s6).trans Chg.upd)
    have x7 : H7 x = some (.ins C dx [("names", .ref a), ("cells", .ref b), ("letters", .str (lTxt ns)), ("text", .str (stTxt ns cs))]) := by
      subst e7
      exact upd_same
    clear e7
    have i7 : Imm H H7 := c7.imm hx trivial
    refine ⟨_, rfl, a, rs, kN ns, rfl, PT.imm i7 ht, pair_n (Paired.imm i7 hp), fun pd hpd => ?_⟩
    rw [merge_n ok]
    have n7 : pd ≠ x := fun z => by rw [z, x7] at hpd; cases hpd
    refine ⟨_, rfl, x, C, dx, _, rfl, by rw [upd_ne (Ne.symm n7)]; exact x7, T.cl, T.n_places, of_decide_eq_true rfl, ?_⟩
    generalize e8 : upd (upd H7 pd _) x _ = H8
    have c8 : Chg x H H8 := by
      subst e8
      exact c7.trans ((Chg.of (same_new hpd)).trans Chg.upd)
    have x8 : H8 x = some (.ins C dx [("names", .ref a), ("cells", .ref b), ("letters", .str (lTxt ns)), ("text", .str (stTxt ns cs)), ("places", .ref pd)]) := by
      subst e8
      exact upd_same
    have p8 : H8 pd = some (.dK (kN ns)) := by
      subst e8
      rw [upd_ne n7]
      exact upd_same
    clear e8
    have i8 : Imm H H8 := c8.imm hx trivial
    refine ⟨_, rfl, b, qs, kC cs, rfl, PT.imm i8 ht2, pair_c (Paired.imm i8 hp2), fun ad had => ?_⟩
    rw [merge_c ck]
    have n8 : ad ≠ x := fun z => by rw [z, x8] at had; cases had
    have n9 : ad ≠ pd := fun z => by rw [z, p8] at had; cases had
    refine ⟨_, rfl, x, C, dx, _, rfl, by rw [upd_ne (Ne.symm n8)]; exact x8, T.cl, T.n_arrows, of_decide_eq_true rfl, ?_⟩
    generalize e9 : upd (upd H8 ad _) x _ = H9
    have c9 : Chg x H H9 := by
      subst e9
      exact c8.trans ((Chg.of (same_new had)).trans Chg.upd)
    have x9 : H9 x = some (.ins C dx [("names", .ref a), ("cells", .ref b), ("letters", .str (lTxt ns)), ("text", .str (stTxt ns cs)), ("places", .ref pd), ("arrows", .ref ad)]) := by
      subst e9
      exact upd_same
    have p9 : H9 pd = some (.dK (kN ns)) := by
      subst e9
      rw [upd_ne n7, upd_ne (Ne.symm n9)]
      exact p8
    have a9 : H9 ad = some (.dK (kC cs)) := by
      subst e9
      rw [upd_ne n8]
      exact upd_same
    clear e9
    have i9 : Imm H H9 := c9.imm hx trivial
    have pt := Paired.app (Paired.imm i9 hp) (Paired.imm i9 hp2)
    have ll : (ns.map nV ++ cs.map cV).map (·.2) = (goals ns cs).map V.int := by
      simp only [goals, List.map_append, List.map_map]
      rfl
    have l1 : rs.length = ns.length := by rw [Paired.len hp, List.length_map]
    have l2 : qs.length = cs.length := by rw [Paired.len hp2, List.length_map]
    dsimp only
    unfold sFld
    refine dcP (gs := goals ns cs) (fun R hR => ?_) pt ll (by simp; omega) (fun b p i H' R sm hq hR => ?_) (fun H' D kvs sm hD hk hv => ?_)
    · exact ⟨_, rfl, _, rfl, cat_pt (PT.imm i9 ht) (PT.imm i9 ht2) (by simp; omega) fun t H1 s1 h1 => hR t H1 s1 (by rw [List.map_append]; exact h1)⟩
    · exact ⟨b, _, rfl, hq, rfl, _, _, rfl, _, _, rfl, rfl, rfl, _, rfl, hR⟩
    refine ⟨_, rfl, x, C, dx, _, rfl, sm _ _ x9, T.cl, T.n_led_to, of_decide_eq_true rfl, ?_⟩
    have nD : D ≠ x := fun z => by rw [z, x9] at hD; cases hD
    have nP : pd ≠ x := n7
    generalize eA : upd H' x _ = HA
    have cA : Chg x H HA := by
      subst eA
      exact c9.trans ((Chg.of sm).trans Chg.upd)
    have iA : Imm H HA := cA.imm hx trivial
    refine k HA ⟨.ref a, .ref b, dx, pd, ad, D, kvs, ?_, ⟨a, rs, rfl, PT.imm iA ht, Paired.imm iA hp⟩, ⟨b, qs, rfl, PT.imm iA ht2, Paired.imm iA hp2⟩, ?_, ?_, ?_, hv, ok, ck⟩ cA
    · subst eA
      exact upd_same
    · subst eA
      rw [upd_ne n7]
      exact sm _ _ p9
    · subst eA
      rw [upd_ne n8]
      exact sm _ _ a9
    · subst eA
      rw [upd_ne nD]
      exact hk
end
end K1
namespace K1
open PySem PySem.Spec L2 Z K7
section
variable {P : Program} {w : World} {K : PySem.W.Frag} {mg : Str → Option Value} {base : Heap} {C CU : Addr}
theorem ok_is_letter (T : Txt K mg C CU)  : Pr P w K mg base "is_letter" s_is_letter 1 ["value"] (q_is_letter K) := by
  obtain ⟨f, fd, F, gl, bd⟩ := T.d_is_letter
  refine ⟨f, fd, F, gl, bd, F.ok sc_is_letter (fun vs H Q E h => ?_) (fun cdv A outer s H vs Q E hr h => ?_)⟩
  · obtain ⟨v, rfl, _⟩ := h
    rfl
  · obtain ⟨v, rfl, h⟩ := h
    have hu := hu_of hr
    refine ⟨_, (pss_one (ps_ret (pe_and (pe_callB call_isi (by rfl) T.b_isinstance (by decide +kernel) (pa_cons (pv 0) (pa_cons (pe_bty "str" (by rfl) T.b_str (by decide +kernel)) pa_nil))) (pe_and (pe_cmpR op_eq (pe_callB call_len_str (by rfl) T.b_len (by decide +kernel) (pa_cons (pv 0) pa_nil)) pe_int (nomark _)) (pe_one (pe_cmpR op_in_sign (pv 0) (pe_globS rfl T.c_LETTERS) (by rfl))))))), ?_⟩
    rcases h with ⟨c, rfl, h1, h2, k⟩ | ⟨h, k⟩
    · refine ⟨_, rfl, _, _, _, _, _, rfl, .ty _, .base (.str _), kit_ty (r := true) (by decide +kernel), _, rfl, ?_⟩
      refine iteT ⟨_, rfl, _, rfl, by show 1 ≤ sizeLine; decide, rfl, _, rfl, ?_⟩
      refine iteT ⟨_, rfl, c, _, rfl, rfl, ?_⟩
      have e : decide (c ∈ (Str.ofString "abcdefghijklmnopqrstuvwxyz").cps.toList) = true := letter_in h1 h2
      rw [e]
      exact k
    · rcases h with ⟨z, rfl, hz, hz2⟩ | ⟨c, rfl, hc⟩ | (rfl | ⟨b, rfl⟩ | ⟨i, rfl⟩ | ⟨a, xs, rfl, hs⟩ | ⟨a, xs, rfl, hs⟩ | ⟨a, xs, rfl, hs⟩)
      · refine ⟨_, rfl, _, _, _, _, _, rfl, .ty _, .base (.str _), kit_ty (r := true) (by decide +kernel), _, rfl, ?_⟩
        refine iteT ⟨_, rfl, _, rfl, sl_le (Nat.le_trans hz2 (by decide)), rfl, ?_⟩
        rw [show decide (V.int (z.length : Int) = V.int 1) = false from decide_eq_false fun e => hz (by have := V.int.inj e; omega)]
        exact ⟨_, rfl, iteF k⟩
      · refine ⟨_, rfl, _, _, _, _, _, rfl, .ty _, .base (.str _), kit_ty (r := true) (by decide +kernel), _, rfl, ?_⟩
        refine iteT ⟨_, rfl, _, rfl, by show 1 ≤ sizeLine; decide, rfl, _, rfl, ?_⟩
        refine iteT ⟨_, rfl, c, _, rfl, rfl, ?_⟩
        rw [decide_eq_false hc]
        exact k
      · exact ⟨_, rfl, _, _, _, _, _, rfl, .ty _, .base .non, kit_ty (r := false) (by decide +kernel), _, rfl, iteF k⟩
      · exact ⟨_, rfl, _, _, _, _, _, rfl, .ty _, .base (.bl b), kit_ty (r := false) (by decide +kernel), _, rfl, iteF k⟩
      · exact ⟨_, rfl, _, _, _, _, _, rfl, .ty _, .base (.int i), kit_ty (r := false) (by decide +kernel), _, rfl, iteF k⟩
      · exact ⟨_, rfl, _, _, _, _, _, rfl, .ty _, SqT.ty hs, kit_ty (r := false) (by decide +kernel), _, rfl, iteF k⟩
      · exact ⟨_, rfl, _, _, _, _, _, rfl, .ty _, .base (.lst hs), kit_ty (r := false) (by decide +kernel), _, rfl, iteF k⟩
      · exact ⟨_, rfl, _, _, _, _, _, rfl, .ty _, .base (.dK hs), kit_ty (r := false) (by decide +kernel), _, rfl, iteF k⟩
end
end K1
namespace K1
open PySem PySem.Spec L2 Z K7
section
variable {P : Program} {w : World} {K : PySem.W.Frag} {mg : Str → Option Value} {base : Heap} {C CU : Addr}
theorem ok_are_store_names (T : Txt K mg C CU) (G_is_tuple_of : Pr P w K mg base "is_tuple_of" s_is_tuple_of 1 ["value", "many"] (sp_is_tuple_of K)) (G_is_letter : Pr P w K mg base "is_letter" s_is_letter 1 ["value"] (q_is_letter K)) (G_is_place : Pr P w K mg base "is_place" s_is_place 3 ["value"] sp_is_place) : Pr P w K mg base "_are_store_names" s_are_store_names 4 ["value"] (sp_are_store_names K) := by
  obtain ⟨f, fd, F, gl, bd⟩ := T.d__are_store_names
  refine ⟨f, fd, F, gl, bd, F.ok sc_are_store_names (fun vs H Q E h => ?_) (fun cdv A outer s H vs Q E hr h => ?_)⟩
  · obtain ⟨v, ns, rfl, _⟩ := h
    rfl
  · obtain ⟨v, ns, rfl, ⟨a, rs, rfl, ht, hp⟩, ok, k⟩ := h
    have hu := hu_of hr
    refine ⟨_, (pss_cons (ps_if (PW.pt (pw_or (pt_not (pt_val (pe_callB call_isi (by rfl) T.b_isinstance (by decide +kernel) (pa_cons (pv 0) (pa_cons (pe_bty "tuple" (by rfl) T.b_tuple (by decide +kernel)) pa_nil))))) (pw_or1 (pt_not (pt_chain op_le op_le pe_int (pe_callB call_len_seq (by rfl) T.b_len (by decide +kernel) (pa_cons (pv 0) pa_nil)) (pe_globI rfl T.c_MOST_NAMES)))))) (pss_one (ps_ret pe_bl)) pss_nil)
      (pss_cons (ps_set (i := 1) sc_are_store_names.nd rfl (Or.inl rfl) pe_str)
      (pss_cons (ps_for PassesOwn.never rfl (pi_tup (pv 0)) (pg_name (i := 2) sc_are_store_names.nd rfl (Or.inl rfl))
      (pss_cons (ps_if (PW.pt (pw_or (pt_not (pt_val (pcall G_is_tuple_of (hr.mono (by decide)) (pa_cons (pv 2) (pa_cons pe_int pa_nil))))) (pw_or (pt_not (pt_val (pcall G_is_letter (hr.mono (by decide)) (pa_cons (pe_ix ix_tup (pv 2) pe_int (fun _ _ => rfl)) pa_nil)))) (pw_or (pt_not (pt_val (pcall G_is_place (hr.mono (by decide)) (pa_cons (pe_ix ix_tup (pv 2) pe_int (fun _ _ => rfl)) pa_nil)))) (pw_or1 (pt_cmpR op_le_str (pe_ix ix_tup (pv 2) pe_int (fun _ _ => rfl)) (pv 1) (nomark _))))))) (pss_one (ps_ret pe_bl)) pss_nil)
      (pss_one (ps_set (i := 1) sc_are_store_names.nd rfl (Or.inl rfl) (pe_ix ix_tup (pv 2) pe_int (fun _ _ => rfl))))))
      (pss_one (ps_ret pe_bl))))), ?_⟩
    have hT : SqT K H a (rs.map V.ref) := ht.sq
    have hl : rs.length = ns.length := by rw [Paired.len hp, List.length_map]
    have o1 := ok.one
    have o4 := ok.four
    refine ⟨_, rfl, _, _, _, _, _, rfl, .ty _, SqT.ty hT, kit_ty (r := true) (by decide +kernel), _, rfl, iteF ?_⟩
    refine ⟨_, rfl, _, _, rfl, .inr hT, 1, _, rfl, rfl, true, congrArg V.bl (decide_eq_true (by rw [List.length_map]; omega)), iteT ?_⟩
    refine ⟨_, _, rfl, rfl, true, congrArg V.bl (decide_eq_true (by rw [List.length_map]; omega)), iteF ?_⟩
    refine ⟨_, rfl, _, rfl, ⟨_, hT⟩, ?_⟩
    refine for_pairs (fun i σ H' => H' = H ∧ ∃ b x, σ = [some (.ref a), some (.str b), x] ∧ ∀ p, ns[i]? = some p → decide (b.cps.toList < (ch p.1).cps.toList) = true) ⟨rfl, _, _, rfl, fun p _ => lt_none⟩ ht hp ?_ ?_ ?_
    · rintro i σ H' ⟨rfl, _⟩
      exact Imm.refl _
    · rintro i b p σ H' eb ep hq ⟨rfl, z, x, rfl, hlt⟩
      obtain ⟨q, eq, rfl⟩ := map_at ep
      have hm := List.mem_of_getElem? eq
      obtain ⟨l1, l2⟩ := ok.let_ q hm
      obtain ⟨p1, p2⟩ := ok.pl q hm
      refine ⟨_, rfl, b, _, rfl, hq, _, rfl, iteF ?_⟩
      refine ⟨_, rfl, b, _, 0, _, rfl, rfl, hq, at_first, _, rfl, .inl ⟨q.1, rfl, l1, l2, _, rfl, iteF ?_⟩⟩
      refine ⟨_, rfl, b, _, 1, _, rfl, rfl, hq, at_snd, q.2, rfl, p1, p2, _, rfl, iteF ?_⟩
      refine ⟨_, rfl, b, _, 0, _, rfl, rfl, hq, at_first, _, rfl, _, _, rfl, rfl, false, congrArg V.bl (by rw [hlt q eq]; rfl), iteF ?_⟩
      refine ⟨_, rfl, b, _, 0, _, rfl, rfl, hq, at_first, ?_⟩
      exact ⟨rfl, _, _, rfl, fun p hp => lt_sign (asc_at ok.asc eq hp)⟩
    · rintro σ H' ⟨rfl, _⟩
      exact k
end
end K1
namespace K1
open PySem PySem.Spec L2 Z K7
section
variable {P : Program} {w : World} {K : PySem.W.Frag} {mg : Str → Option Value} {base : Heap} {C CU : Addr}
theorem ok_init (T : Txt K mg C CU) (G__wrong_cell : Pr P w K mg base "_wrong_cell" s_wrong_cell 4 ["cells"] (sp_wrong_cell K)) (G_take : PrM P w K mg base C "take" "Store.take" s_take 2 ["self", "names", "cells"] (sp_take K C)) (G__are_store_names : Pr P w K mg base "_are_store_names" s_are_store_names 4 ["value"] (sp_are_store_names K)) : PrI P w K mg base C "Store.__init__" s_init 5 ["self", "names", "cells"] (sp_init K C) := by
  obtain ⟨f, fd, F, gl, bd⟩ := T.d_init
  refine ⟨f, fd, F, gl, bd, F.ok sc_init (fun vs H Q E h => ?_) (fun cdv A outer s H vs Q E hr h => ?_)⟩
  · obtain ⟨x, dx, v, u, ns, cs, rfl, _⟩ := h
    rfl
  · obtain ⟨x, dx, v, u, ns, cs, rfl, hx, hv, hu1, ok, ck, k⟩ := h
    have hu := hu_of hr
    refine ⟨_, (pss_cons (ps_if (pt_not (pt_val (pcall G__are_store_names (hr.mono (by decide)) (pa_cons (pv 1) pa_nil)))) (pss_one ps_never) pss_nil)
      (pss_cons (ps_if (pt_not (pt_val (pe_callB call_isi (by rfl) T.b_isinstance (by decide +kernel) (pa_cons (pv 2) (pa_cons (pe_bty "tuple" (by rfl) T.b_tuple (by decide +kernel)) pa_nil))))) (pss_one ps_never) pss_nil)
      (pss_cons (ps_set (i := 3) sc_init.nd rfl (Or.inl rfl) (pcall G__wrong_cell (hr.mono (by decide)) (pa_cons (pv 2) pa_nil)))
      (pss_cons (ps_if (pt_cmp (pc_notN (pv 3)) rfl) (pss_one ps_never) pss_nil)
      (pss_one (ps_expr (pmeth (pv 0) T.cl G_take (hr.mono (by decide)) (pa_cons (pv 1) (pa_cons (pv 2) pa_nil))))))))), ?_⟩
    obtain ⟨a, rs, rfl, ht, hp⟩ := hv
    obtain ⟨b, qs, rfl, ht2, hp2⟩ := hu1
    have o4 := ok.four
    have c4 := ck.few
    refine ⟨_, rfl, .ref a, ns, rfl, ⟨a, rs, rfl, ht, hp⟩, ok, _, rfl, iteF ?_⟩
    refine ⟨_, rfl, _, _, _, _, _, rfl, .ty _, SqT.ty ht2.sq, kit_ty (r := true) (by decide +kernel), _, rfl, iteF ?_⟩
    refine ⟨_, rfl, .ref b, cs, rfl, ⟨b, qs, rfl, ht2, hp2⟩, ck, fun H1 s1 => ?_⟩
    refine ⟨_, rfl, false, congrArg V.bl (by simp), iteF ?_⟩
    refine ⟨_, rfl, x, dx, _, rfl, s1 _ _ hx, rfl, _, rfl, _, rfl, x, dx, .ref a, .ref b, ns, cs, rfl, s1 _ _ hx, ⟨a, rs, rfl, PT.imm (.of s1) ht, Paired.imm (.of s1) hp⟩, ⟨b, qs, rfl, PT.imm (.of s1) ht2, Paired.imm (.of s1) hp2⟩, ok, ck, fun H2 st cg => k H2 st (fun c o e n => cg c o (s1 c o e) n)⟩
end
end K1
namespace K1
open PySem PySem.Spec L2 Z K7
section
variable {P : Program} {w : World} {K : PySem.W.Frag} {mg : Str → Option Value} {base : Heap} {C CU : Addr}
theorem ok_law_arrows (T : Txt K mg C CU)  : Pr P w K mg base "_law_arrows" s_law_arrows 1 ["_law_cells"] (sp_law_arrows K) := by
  obtain ⟨f, fd, F, gl, bd⟩ := T.d__law_arrows
  refine ⟨f, fd, F, gl, bd, F.ok sc_law_arrows (fun vs H Q E h => ?_) (fun cdv A outer s H vs Q E hr h => ?_)⟩
  · obtain ⟨u, cs, rfl, _⟩ := h
    rfl
  · obtain ⟨u, cs, rfl, ⟨b, qs, rfl, ht2, hp2⟩, ck, k⟩ := h
    have hu := hu_of hr
    refine ⟨_, (pss_cons (ps_set (i := 1) sc_law_arrows.nd rfl (Or.inl rfl) pe_dnewK)
      (pss_cons (ps_for PassesOwn.never rfl (pi_tup (pv 0)) (pg_tup rfl (pgs_cons (pg_name (i := 2) sc_law_arrows.nd rfl (Or.inl rfl)) (pgs_cons (pg_name (i := 3) sc_law_arrows.nd rfl (Or.inl rfl)) pgs_nil)))
      (pss_one (ps_dput hu (pv 1) (pv 2) (pv 3) rfl)))
      (pss_one (ps_ret (pv 1))))), ?_⟩
    have c4 := ck.few
    intro d hd
    have s0 : Same H (upd H d (.dK [])) := same_new hd
    refine ⟨_, rfl, b, rfl, ⟨_, (PT.same s0 ht2).sq⟩, ?_⟩
    refine for_pairs (H0 := H) (fun i σ H' => Same H H' ∧ H' d = some (.dK (kC (cs.take i))) ∧ ∃ x2 x3, σ = [some (.ref b), some (.ref d), x2, x3]) ⟨s0, upd_same, _, _, rfl⟩ ht2 hp2 (fun i σ H' h => .of h.1) ?_ ?_
    · rintro i b1 p σ H1 eb ep hq ⟨sm, hk, x2, x3, rfl⟩
      obtain ⟨q, eq, rfl⟩ := map_at ep
      have e1 : kC (cs.take (i + 1)) = kC (cs.take i) ++ [(Sum.inl q.1, V.int q.2)] := by
        rw [List.take_add_one, eq]
        unfold kC
        rw [List.map_append]
        rfl
      have nd : ((kC (cs.take (i + 1))).map (·.1)).Nodup := by
        refine (nodup_c ck).sublist ?_
        unfold kC
        exact ((List.take_sublist _ _).map _).map _
      have e2 : valV (kC (cs.take i)) (Sum.inl q.1 : Key) = none := valV_none fun z => by
        rw [e1, List.map_append, List.nodup_append] at nd
        exact nd.2.2 _ z _ (by simp) rfl
      refine ⟨b1, _, rfl, hq, rfl, _, _, rfl, _, _, rfl, rfl, ?_⟩
      refine ⟨_, rfl, _, rfl, _, rfl, d, _, rfl, DPut.k (k := (Sum.inl q.1 : Key)) hk ?_, ?_⟩
      · refine Nat.lt_of_lt_of_le (m := 1000) ?_ (sl_le (by decide))
        unfold kC
        rw [List.length_map, List.length_take]
        omega
      · refine ⟨fun c o e => ?_, by rw [upd_same, putK_new _ e2, e1]; rfl, _, _, rfl⟩
        rw [upd_ne (ne_of_none e hd)]
        exact sm _ _ e
    · rintro σ H1 ⟨sm, hk, x2, x3, rfl⟩
      rw [List.length_map, List.take_length] at hk
      exact ⟨_, rfl, k H1 d sm hd hk⟩
end
end K1
namespace K1
open PySem PySem.Spec L2 Z K7
section
variable {P : Program} {w : World} {K : PySem.W.Frag} {mg : Str → Option Value} {base : Heap} {C CU : Addr}
theorem ok_law_gone_along (T : Txt K mg C CU)  : Pr P w K mg base "_law_gone_along" s_law_gone_along 1 ["_law_arrows_here", "_law_place"] sp_law_gone_along := by
  obtain ⟨f, fd, F, gl, bd⟩ := T.d__law_gone_along
  refine ⟨f, fd, F, gl, bd, F.ok sc_law_gone_along (fun vs H Q E h => ?_) (fun cdv A outer s H vs Q E hr h => ?_)⟩
  · obtain ⟨d, p, cs, rfl, _⟩ := h
    rfl
  · obtain ⟨d, p, cs, rfl, hd, hz, k⟩ := h
    have hu := hu_of hr
    refine ⟨_, (pss_cons (ps_par (i := 2) (j := 3) rfl sc_law_gone_along.nd rfl rfl (by decide) rfl rfl (pa_cons (pe_lst pa_nil) (pa_cons (pv 1) pa_nil)) (by rfl))
      (pss_cons (ps_for PassesOwn.never rfl (pi_range1 rfl T.b_range (pa_cons (pe_op op_add (pe_callB call_lenD (by rfl) T.b_len (by decide +kernel) (pa_cons (pv 0) pa_nil)) pe_int) pa_nil)) (pg_name (i := 4) sc_law_gone_along.nd rfl (Or.inl rfl))
      (pss_cons (ps_if (PW.pt (pw_or (pt_cmp (pc_dnotin hu (pv 3) (pv 0))) (pw_or1 (pt_cmpR op_in_seq (pv 3) (pv 2) (by rfl))))) (pss_one ps_break) pss_nil)
      (pss_cons (ps_expr (pe_bm PySem.F.plainAttrs_list PySem.F.slot_list_append PySem.F.type_list_append mt_append (pv 2) (pa_cons (pv 3) pa_nil)))
      (pss_one (ps_set (i := 3) sc_law_gone_along.nd rfl (Or.inl rfl) (pe_dget hu (pv 0) (pv 3) (fun _ _ => rfl)))))))
      (pss_one (ps_ret (pe_tup (pa_cons (pv 2) (pa_cons (pv 3) pa_nil))))))), ?_⟩
    refine ⟨Nat.zero_le _, fun l hl => ⟨_, rfl, _, _, rfl, ?_⟩⟩
    have s0 : Same H (upd H l (.lst [])) := same_new hl
    refine ⟨_, rfl, d, kC cs, rfl, s0 _ _ hd, _, _, rfl, rfl, _, rfl, ?_, ?_, ?_⟩
    · have := (kC cs).length
      omega
    · unfold kC
      rw [List.length_map]
      omega
    have ln1 : (((kC cs).length : Int) + 1).toNat = cs.length + 1 := by
      unfold kC
      rw [List.length_map]
      omega
    rw [ln1]
    refine for_range (lo := 0) (n := cs.length + 1) (fun i σ H' => Same H H' ∧ ∃ (a : List Int) (q : Int), ∃ x4, σ = [some (.ref d), some (.int p), some (.ref l), some (.int q), x4] ∧ H' l = some (.lst (a.map V.int)) ∧ a.length = i ∧ i ≤ cs.length + 1 ∧ steps cs (cs.length + 1 - i) a q = along cs p) ⟨s0, [], p, _, rfl, upd_same, rfl, Nat.zero_le _, rfl⟩ ?_ ?_
    · rintro i σ H1 hi ⟨s1, a, q, x4, rfl, hk, ha, hin, hst⟩
      have d1 := s1 _ _ hd
      obtain ⟨m, hm⟩ : ∃ m, cs.length + 1 - i = m + 1 := ⟨cs.length - i, by omega⟩
      have hm2 : cs.length + 1 - (i + 1) = m := by omega
      rw [hm] at hst
      refine ⟨_, rfl, _, rfl, d, _, rfl, DGet.k (k := (Sum.inl q : Key)) d1, _, rfl, ?_⟩
      rw [some_c]
      by_cases hc : isC cs q = true
      · rw [hc]
        refine iteF ⟨_, rfl, _, rfl, l, _, rfl, .inl (.inl (.inl hk)), rfl, flat_int _, _, rfl, ?_⟩
        show if inV (.int q) (a.map V.int) = true then _ else _
        rw [inV_int]
        by_cases hs : q ∈ a
        · rw [decide_eq_true hs]
          refine iteT ?_
          rw [steps_end (.inr hs)] at hst
          have e1 : a = (along cs p).1 := congrArg Prod.fst hst
          have e2 : q = (along cs p).2 := congrArg Prod.snd hst
          refine ⟨_, rfl, _, rfl, by show 2 ≤ sizeLine; exact sl_le (by decide), fun t ht => ?_⟩
          have st := same_new (o := .tup [V.ref l, V.int q]) ht
          exact k _ t l (s1.trans st) hl (by rw [upd_same, e2]) (by rw [← e1]; exact st _ _ hk)
        · rw [decide_eq_false hs]
          refine iteF ?_
          rw [steps_go hc hs] at hst
          refine ⟨_, rfl, .inl ⟨rfl, _, .inl (.inl hk)⟩, _, rfl, l, _, _, rfl, rfl, hk, by rw [List.length_map]; exact Nat.lt_of_lt_of_le (show a.length < 1000 by omega) (sl_le (by decide)), ?_⟩
          have nd : d ≠ l := ne_of_none hd hl
          refine ⟨_, rfl, _, rfl, d, _, rfl, by rw [← get_nx hc]; exact DGet.k (k := (Sum.inl q : Key)) (by rw [upd_ne nd]; exact d1), ?_⟩
          refine ⟨fun b o e => by rw [upd_ne (ne_of_none e hl)]; exact s1 _ _ e, a ++ [q], nx cs q, _, rfl, by rw [upd_same, List.map_append]; rfl, by rw [List.length_append, ha]; rfl, by omega, by rw [hm2]; exact hst⟩
      · have hc' : isC cs q = false := by simpa using hc
        rw [hc']
        refine iteT (iteT ?_)
        rw [steps_end (.inl hc')] at hst
        have e1 : a = (along cs p).1 := congrArg Prod.fst hst
        have e2 : q = (along cs p).2 := congrArg Prod.snd hst
        refine ⟨_, rfl, _, rfl, by show 2 ≤ sizeLine; exact sl_le (by decide), fun t ht => ?_⟩
        have st := same_new (o := .tup [V.ref l, V.int q]) ht
        exact k _ t l (s1.trans st) hl (by rw [upd_same, e2]) (by rw [← e1]; exact st _ _ hk)
    · rintro σ H1 ⟨s1, a, q, x4, rfl, hk, ha, hin, hst⟩
      rw [Nat.sub_self] at hst
      have e1 : a = (along cs p).1 := congrArg Prod.fst hst
      have e2 : q = (along cs p).2 := congrArg Prod.snd hst
      refine ⟨_, rfl, _, rfl, by show 2 ≤ sizeLine; exact sl_le (by decide), fun t ht => ?_⟩
      have st := same_new (o := .tup [V.ref l, V.int q]) ht
      exact k _ t l (s1.trans st) hl (by rw [upd_same, e2]) (by rw [← e1]; exact st _ _ hk)
end
end K1
namespace K1
open PySem PySem.Spec L2 Z K7
section
variable {P : Program} {w : World} {K : PySem.W.Frag} {mg : Str → Option Value} {base : Heap} {C CU : Addr}
theorem ok_need_store (T : Txt K mg C CU)  : Pr P w K mg base "need_store" s_need_store 1 ["value"] (sp_need_store K C) := by
  obtain ⟨f, fd, F, gl, bd⟩ := T.d_need_store
  refine ⟨f, fd, F, gl, bd, F.ok sc_need_store (fun vs H Q E h => ?_) (fun cdv A outer s H vs Q E hr h => ?_)⟩
  · obtain ⟨x, ns, cs, rfl, _⟩ := h
    rfl
  · obtain ⟨x, ns, cs, rfl, ⟨v, u, dx, pd, ad, ld, ks, S⟩, k⟩ := h
    have hu := hu_of hr
    refine ⟨_, (pss_one (ps_if (pt_not (pt_val (pe_callB call_isi (by rfl) T.b_isinstance (by decide +kernel) (pa_cons (pv 0) (pa_cons (pe_glob (v := V.ref C) rfl T.mgC rfl) pa_nil))))) (pss_one ps_never) pss_nil)), ?_⟩
    refine ⟨_, rfl, _, _, _, _, true, rfl, .own C, .base (.ins S.ob T.cl T.isC T.isG T.isT T.isM), T.k_self, _, rfl, iteF ?_⟩
    exact k
end
end K1
namespace K1
open PySem PySem.Spec L2 Z K7
section
variable {P : Program} {w : World} {K : PySem.W.Frag} {mg : Str → Option Value} {base : Heap} {C CU : Addr}
theorem ok_at (T : Txt K mg C CU) (G_is_letter : Pr P w K mg base "is_letter" s_is_letter 1 ["value"] (q_is_letter K)) : PrMX P w K mg base C "at" "Store.at" s_at 3 ["self", "letter"] (q_at K C CU) := by
  obtain ⟨f, fd, F, gl, bd⟩ := T.d_at
  refine ⟨f, fd, F, gl, bd, F.okX sc_at (fun vs H Q E h => ?_) (fun cdv A outer s H vs Q E hr h => ?_)⟩
  · obtain ⟨x, v, ns, cs, rfl, _⟩ := h
    rfl
  · obtain ⟨x, v0, ns, cs, rfl, ⟨v, u, dx, pd, ad, ld, ks, S⟩, h⟩ := h
    have hu := hu_of hr
    refine ⟨_, (pss_cons (ps_if (PW.pt (pw_or (pt_not (pt_val (pcall G_is_letter (hr.mono (by decide)) (pa_cons (pv 1) pa_nil)))) (pw_or1 (pt_cmp (pc_dnotin hu (pv 1) (pe_fld (pv 0) rfl)))))) (pss_one (ps_raiseE rfl (takes_of rfl rfl rfl rfl) (ok_err_UnknownName T) (hr.mono (by decide)) (pa_cons (pv 1) pa_nil))) pss_nil)
      (pss_one (ps_ret (pe_dget hu (pe_fld (pv 0) rfl) (pv 1) (fun _ _ => rfl))))), ?_⟩
    rcases h with ⟨p, hm, rfl, k⟩ | ⟨nn, bad⟩
    · obtain ⟨l1, l2⟩ := S.nok.let_ p hm
      have D : DGet H pd (.str (ch p.1)) (some (.int p.2)) := val_n S.nok hm ▸ DGet.k (k := (Sum.inr (ch p.1) : Key)) S.pd_
      refine ⟨_, rfl, _, rfl, .inl ⟨p.1, rfl, l1, l2, _, rfl, iteF ?_⟩⟩
      refine ⟨_, rfl, _, rfl, x, C, dx, _, _, rfl, S.ob, T.cl, T.n_places, rfl, pd, _, rfl, D, _, rfl, iteF ?_⟩
      exact ⟨_, rfl, x, C, dx, _, _, rfl, S.ob, T.cl, T.n_places, rfl, _, rfl, pd, _, rfl, D, k⟩
    · rcases nn with ⟨c, rfl, l1, l2, hc⟩ | nl
      · have D : DGet H pd (.str (ch c)) none := by
          have e : valV (kN ns) (Sum.inr (ch c) : Key) = none := valV_none fun z => by
            unfold kN at z
            rw [List.map_map] at z
            obtain ⟨p, hp, e⟩ := List.mem_map.mp z
            have e2 := ch_inj (a := p.1) (b := c)
            rw [Sum.inr.inj e, beq_self_eq_true] at e2
            exact hc (List.mem_map.mpr ⟨p, hp, of_decide_eq_true e2.symm⟩)
          exact e ▸ DGet.k (k := (Sum.inr (ch c) : Key)) S.pd_
        refine ⟨_, rfl, _, rfl, .inl ⟨c, rfl, l1, l2, _, rfl, iteF ?_⟩⟩
        refine ⟨_, rfl, _, rfl, x, C, dx, _, _, rfl, S.ob, T.cl, T.n_places, rfl, pd, _, rfl, D, _, rfl, iteT ?_⟩
        exact ⟨_, rfl, _, rfl, bad⟩
      · refine ⟨_, rfl, _, rfl, .inr ⟨nl, _, rfl, iteT ?_⟩⟩
        exact ⟨_, rfl, _, rfl, bad⟩
end
end K1
namespace K1
open PySem PySem.Spec L2 Z K7
section
variable {P : Program} {w : World} {K : PySem.W.Frag} {mg : Str → Option Value} {base : Heap} {C CU : Addr}
theorem ok_followed (T : Txt K mg C CU) (G_at : PrMX P w K mg base C "at" "Store.at" s_at 3 ["self", "letter"] (q_at K C CU)) : PrX P w K mg base "_followed" s_followed 4 ["store", "letter"] (q_followed K C CU) := by
  obtain ⟨f, fd, F, gl, bd⟩ := T.d__followed
  refine ⟨f, fd, F, gl, bd, F.okX sc_followed (fun vs H Q E h => ?_) (fun cdv A outer s H vs Q E hr h => ?_)⟩
  · obtain ⟨x, v, ns, cs, rfl, _⟩ := h
    rfl
  · obtain ⟨x, v0, ns, cs, rfl, hS, h⟩ := h
    have hu := hu_of hr
    refine ⟨_, (pss_cons (ps_par (i := 2) (j := 3) rfl sc_followed.nd rfl rfl (by decide) rfl rfl (pa_cons (pe_lst pa_nil) (pa_cons pe_dnewK pa_nil)) (by rfl))
      (pss_cons (ps_set (i := 4) sc_followed.nd rfl (Or.inl rfl) (pmethX E (pv 0) T.cl G_at (hr.mono (by decide)) (passes_call (takes_of rfl rfl rfl rfl) (fun _ _ _ _ h => h)) (pa_cons (pv 1) pa_nil)))
      (pss_cons (ps_while (passes_of rfl) (PW.pt (pw_and (pt_cmp (pc_din hu (pv 4) (pe_fld (pv 0) rfl))) (pw_and1 (pt_cmp (pc_dnotin hu (pv 4) (pv 3)))))) (pss_cons (ps_expr (pe_bm PySem.F.plainAttrs_list PySem.F.slot_list_append PySem.F.type_list_append mt_append (pv 2) (pa_cons (pv 4) pa_nil)))
      (pss_cons (ps_dput hu (pv 3) (pv 4) pe_bl rfl)
      (pss_one (ps_set (i := 4) sc_followed.nd rfl (Or.inl rfl) (pe_dget hu (pe_fld (pv 0) rfl) (pv 4) (fun _ _ => rfl)))))))
      (pss_one (ps_ret (pe_tup (pa_cons (pv 2) (pa_cons (pv 4) pa_nil)))))))), ?_⟩
    rcases h with ⟨p, hm, rfl, k⟩ | ⟨nn, bad⟩
    · refine ⟨Nat.zero_le _, fun l hl => ?_⟩
      have s0 : Same H (upd H l (.lst [])) := same_new hl
      have l0 : upd H l (.lst []) l = some (.lst []) := upd_same
      generalize upd H l (.lst []) = H1 at s0 l0 ⊢
      intro d2 hd2
      refine ⟨_, _, rfl, ?_⟩
      have s1 := s0.trans (same_new (o := .dK []) hd2)
      have l1 := same_new (o := .dK []) hd2 _ _ l0
      have k1 := upd_same (H := H1) (a := d2) (o := .dK [])
      generalize upd H1 d2 (.dK []) = H2 at s1 l1 k1 ⊢
      have hd20 : H d2 = none := none_of s0 hd2
      have nl : l ≠ d2 := ne_of_none l0 hd2
      obtain ⟨dx0, fs0, ob0, f1, _, _⟩ := St.ins hS
      refine ⟨_, rfl, x, dx0, fs0, rfl, s1 _ _ ob0, f1, _, rfl, x, _, ns, cs, rfl, St.same s1 hS, .inl ⟨p, hm, rfl, ?_⟩⟩
      obtain ⟨v, u, dx, pd, ad, ld, ks, S⟩ := hS
      refine while_by (fun σ H' => Same H H' ∧ ∃ (a : List Int) (q : Int) (kvs : List (Key × V)) (m : Nat), σ = [some (.ref x), some (.str (ch p.1)), some (.ref l), some (.ref d2), some (.int q)] ∧ H' l = some (.lst (a.map V.int)) ∧ H' d2 = some (.dK kvs) ∧
        (∀ j : Int, (valV kvs (Sum.inl j : Key)).isSome = decide (j ∈ a)) ∧ kvs.length ≤ a.length ∧ a.Nodup ∧ (∀ r ∈ a, isC cs r = true) ∧ m + a.length = cs.length + 1 ∧ steps cs m a q = along cs p.2)
        (fun _ H' => match H' l with | some (.lst xs) => cs.length + 1 - xs.length | _ => 0) ⟨s1, [], p.2, [], cs.length + 1, rfl, l1, k1, fun j => by simp [valV_nil], Nat.le_refl _, List.nodup_nil, (by simp), rfl, rfl⟩ ?_ ?_
      · rintro σ H3 ⟨s3, a, q, kvs, m, rfl, hk, hd3, hv, hkl, nd, hall, hml, hst⟩
        have o3 := s3 _ _ S.ob
        have a3 := s3 _ _ S.ad_
        have c4 := S.cok.few
        have done : isC cs q = false ∨ q ∈ a → tRet (tTup (tCons (tVar 2) (tCons (tVar 4) tNil))) { nx := fun _ H' => Q .non H', rt := Q } [some (.ref x), some (.str (ch p.1)), some (.ref l), some (.ref d2), some (.int q)] H3 := fun he => by
          rw [steps_end he] at hst
          have e1 : a = (along cs p.2).1 := congrArg Prod.fst hst
          have e2 : q = (along cs p.2).2 := congrArg Prod.snd hst
          refine ⟨_, rfl, _, rfl, by show 2 ≤ sizeLine; exact sl_le (by decide), fun t ht => ?_⟩
          have st := same_new (o := .tup [V.ref l, V.int q]) ht
          exact k _ t l (s3.trans st) hl (by rw [upd_same, e2]) (by rw [← e1]; exact st _ _ hk)
        refine ⟨_, rfl, _, rfl, x, C, dx, _, _, rfl, o3, T.cl, T.n_arrows, rfl, ad, _, rfl, DGet.k (k := (Sum.inl q : Key)) a3, _, rfl, ?_⟩
        rw [some_c]
        by_cases hc : isC cs q = true
        · rw [hc]
          refine iteT ⟨_, rfl, _, rfl, d2, _, rfl, DGet.k (k := (Sum.inl q : Key)) hd3, _, rfl, ?_⟩
          rw [hv]
          by_cases hs : q ∈ a
          · rw [decide_eq_true hs]
            exact iteF (done (.inr hs))
          · rw [decide_eq_false hs]
            refine iteT ?_
            have hlen := seen_len (nodup_snoc nd hs) (fun r hr => by
              rcases List.mem_append.mp hr with z | z
              · exact hall r z
              · rw [List.mem_singleton.mp z]
                exact hc)
            rw [List.length_append] at hlen
            obtain ⟨m', rfl⟩ : ∃ m', m = m' + 1 := ⟨m - 1, by have : a.length + 1 ≤ cs.length := hlen; omega⟩
            rw [steps_go hc hs] at hst
            have la : a.length + 1 ≤ cs.length := hlen
            refine ⟨_, rfl, .inl ⟨rfl, _, .inl (.inl hk)⟩, _, rfl, l, _, _, rfl, rfl, hk, by rw [List.length_map]; exact Nat.lt_of_lt_of_le (show a.length < 1000 by omega) (sl_le (by decide)), ?_⟩
            have e4 : upd H3 l (.lst (a.map V.int ++ [V.int q])) d2 = some (.dK kvs) := by rw [upd_ne (Ne.symm nl)]; exact hd3
            refine ⟨_, rfl, _, rfl, d2, _, rfl, DPut.k (k := (Sum.inl q : Key)) e4 (Nat.lt_of_lt_of_le (show kvs.length < 1000 by omega) (sl_le (by decide))), ?_⟩
            have ne1 : x ≠ l := ne_of_none S.ob hl
            have ne2 : x ≠ d2 := ne_of_none S.ob hd20
            have ne3 : ad ≠ l := ne_of_none S.ad_ hl
            have ne4 : ad ≠ d2 := ne_of_none S.ad_ hd20
            refine ⟨_, rfl, x, C, dx, _, _, rfl, by rw [upd_ne ne2, upd_ne ne1]; exact o3, T.cl, T.n_arrows, rfl, _, rfl, ad, _, rfl, by rw [← get_nx hc]; exact DGet.k (k := (Sum.inl q : Key)) (by rw [upd_ne ne4, upd_ne ne3]; exact a3), ?_⟩
            have l5 : upd (upd H3 l (.lst (a.map V.int ++ [V.int q]))) d2 (.dK (putK kvs (Sum.inl q : Key) (V.bl true))) l = some (.lst ((a ++ [q]).map V.int)) := by
              rw [upd_ne nl, upd_same, List.map_append]
              rfl
            refine ⟨⟨fun b o e => ?_, a ++ [q], nx cs q, _, m', rfl, l5, upd_same, fun j => ?_, ?_, nodup_snoc nd hs, fun r hr => ?_, ?_, hst⟩, ?_⟩
            · rw [upd_ne (ne_of_none e hd20), upd_ne (ne_of_none e hl)]
              exact s3 _ _ e
            · rw [valV_put]
              by_cases ej : j = q
              · subst ej
                rw [if_pos rfl]
                simp
              · rw [if_neg (fun z => ej (Sum.inl.inj z)), hv]
                simp [ej]
            · have := length_putK kvs (Sum.inl q : Key) (V.bl true)
              rw [List.length_append]
              show _ ≤ a.length + 1
              omega
            · rcases List.mem_append.mp hr with z | z
              · exact hall r z
              · rw [List.mem_singleton.mp z]
                exact hc
            · rw [List.length_append]
              show m' + (a.length + 1) = _
              omega
            · rw [l5, hk]
              show cs.length + 1 - ((a ++ [q]).map V.int).length < cs.length + 1 - (a.map V.int).length
              rw [List.length_map, List.length_map, List.length_append]
              show cs.length + 1 - (a.length + 1) < _
              omega
        · have hc' : isC cs q = false := by simpa using hc
          rw [hc']
          exact iteF (iteF (done (.inl hc')))
      · rintro σ H3 Q1 Q2 mo ⟨v1, e1, v2, e2, a1, C1, dx1, fs1, v3, e3, e4, e5, e6, e7, a2, o2, e8, e9, b1, e10, h⟩
        refine ⟨v1, e1, v2, e2, a1, C1, dx1, fs1, v3, e3, e4, e5, e6, e7, a2, o2, e8, e9, b1, e10, ?_⟩
        cases b1 with
        | false => exact mo _ _ h
        | true =>
          obtain ⟨w1, g1, w2, g2, a3, o3, g3, g4, b2, g5, h⟩ := h
          exact ⟨w1, g1, w2, g2, a3, o3, g3, g4, b2, g5, mo _ _ h⟩
    · refine ⟨Nat.zero_le _, fun l hl => ?_⟩
      have s0 : Same H (upd H l (.lst [])) := same_new hl
      have l0 : upd H l (.lst []) l = some (.lst []) := upd_same
      generalize upd H l (.lst []) = H1 at s0 l0 ⊢
      intro d2 hd2
      refine ⟨_, _, rfl, ?_⟩
      have s1 := s0.trans (same_new (o := .dK []) hd2)
      have l1 := same_new (o := .dK []) hd2 _ _ l0
      have k1 := upd_same (H := H1) (a := d2) (o := .dK [])
      generalize upd H1 d2 (.dK []) = H2 at s1 l1 k1 ⊢
      have hd20 : H d2 = none := none_of s0 hd2
      have nl : l ≠ d2 := ne_of_none l0 hd2
      obtain ⟨dx0, fs0, ob0, f1, _, _⟩ := St.ins hS
      exact ⟨_, rfl, x, dx0, fs0, rfl, s1 _ _ ob0, f1, _, rfl, x, _, ns, cs, rfl, St.same s1 hS, .inr ⟨NoName.same s1 nn, Bad.later s1 bad⟩⟩
end
end K1
namespace K1
open PySem PySem.Spec L2 Z K7
section
variable {P : Program} {w : World} {K : PySem.W.Frag} {mg : Str → Option Value} {base : Heap} {C CU : Addr}
theorem ok_first_common (T : Txt K mg C CU) (G_need_store : Pr P w K mg base "need_store" s_need_store 1 ["value"] (sp_need_store K C)) (G__followed : PrX P w K mg base "_followed" s_followed 4 ["store", "letter"] (q_followed K C CU)) : PrX P w K mg base "first_common" s_first_common 5 ["store", "letter", "other"] (q_first_common K C CU) := by
  obtain ⟨f, fd, F, gl, bd⟩ := T.d_first_common
  refine ⟨f, fd, F, gl, bd, F.okX sc_first_common (fun vs H Q E h => ?_) (fun cdv A outer s H vs Q E hr h => ?_)⟩
  · obtain ⟨x, v, u, ns, cs, rfl, _⟩ := h
    rfl
  · obtain ⟨x, v0, u0, ns, cs, rfl, hS, h⟩ := h
    have hu := hu_of hr
    refine ⟨_, (pss_cons (ps_expr (pcall G_need_store (hr.mono (by decide)) (pa_cons (pv 0) pa_nil)))
      (pss_cons (ps_asg (pcallX E G__followed (hr.mono (by decide)) (passes_call (takes_of rfl rfl rfl rfl) (fun _ _ _ _ h => h)) (pa_cons (pv 0) (pa_cons (pv 1) pa_nil))) (pg_tup rfl (pgs_cons (pg_name (i := 3) sc_first_common.nd rfl (Or.inl rfl)) (pgs_cons (pg_name (i := 4) sc_first_common.nd rfl (Or.inl rfl)) pgs_nil))))
      (pss_cons (ps_asg (pcallX E G__followed (hr.mono (by decide)) (passes_call (takes_of rfl rfl rfl rfl) (fun _ _ _ _ h => h)) (pa_cons (pv 0) (pa_cons (pv 2) pa_nil))) (pg_tup rfl (pgs_cons (pg_name (i := 5) sc_first_common.nd rfl (Or.inl rfl)) (pgs_cons (pg_name (i := 4) sc_first_common.nd rfl (Or.inl rfl)) pgs_nil))))
      (pss_cons (ps_setDc (i := 6) (own := [("place", 7)]) (g := gName 7) (tt := tYes) rfl sc_first_common.nd rfl rfl (sw_dict rfl rfl rfl (by decide +kernel)) (pi_list (pv 5)) (blkOk_by (own := [("place", 7)]) (N := N_first_common) (sc := defScope s_first_common) (by decide +kernel)) (fun _ _ _ _ _ => (pg_name (i := 7) sc_first_common.nd rfl (Or.inl rfl))) (fun _ _ _ _ _ => pts_nil) (fun _ _ _ _ _ => (pv 7)) (fun _ _ _ _ _ => pe_bl))
      (pss_cons (ps_for (passes_of rfl) rfl (pi_list (pv 3)) (pg_name (i := 7) sc_first_common.nd rfl (Or.inl rfl))
      (pss_one (ps_if (pt_cmp (pc_din hu (pv 7) (pv 6))) (pss_one (ps_ret (pv 7))) pss_nil)))
      (pss_one (ps_ret pe_non))))))), ?_⟩
    rcases h with ⟨p, hm, rfl, ⟨q, hm2, rfl, k⟩ | ⟨nn, bad⟩⟩ | ⟨nn, bad⟩
    · have c4 : cs.length ≤ 400 := by
        obtain ⟨v, u, dx, pd, ad, ld, ks, S⟩ := hS
        exact S.cok.few
      refine ⟨_, rfl, x, ns, cs, rfl, hS, ?_⟩
      refine ⟨_, rfl, _, rfl, x, _, ns, cs, rfl, hS, .inl ⟨p, hm, rfl, fun H1 t l s1 hl ht hk => ?_⟩⟩
      refine ⟨t, _, rfl, .inl (.inl ht), rfl, _, _, rfl, _, _, rfl, rfl, ?_⟩
      refine ⟨_, rfl, _, rfl, x, _, ns, cs, rfl, St.same s1 hS, .inl ⟨q, hm2, rfl, fun H2 t2 l2 s2 hl2 ht2 hk2 => ?_⟩⟩
      refine ⟨t2, _, rfl, .inl (.inl ht2), rfl, _, _, rfl, _, _, rfl, rfl, ?_⟩
      have la : (along cs q.2).1.length ≤ cs.length := seen_len (along_stop cs q.2).2.1 (along_stop cs q.2).2.2
      dsimp only
      unfold tSeq tAsg
      dsimp only
      refine dcI rfl hk2 (by omega) (fun i H' R sm hR => ?_) (fun H3 D kvs s3 hD hkD hvD => ?_)
      · exact ⟨rfl, _, rfl, hR⟩
      have s03 := (s1.trans s2).trans s3
      have hk3 := s3 _ _ (s2 _ _ hk)
      unfold gName
      dsimp only
      refine forL (l := l) (xs := (along cs p.2).1.map V.int) (fun i σ H' => H' = H3 ∧ (∃ x7, σ = [some (.ref x), some (.str (ch p.1)), some (.str (ch q.1)), some (.ref l), some (.int (along cs q.2).2), some (.ref l2), some (.ref D), x7]) ∧ common cs p.2 q.2 = ((along cs p.2).1.drop i).find? fun z => decide (z ∈ (along cs q.2).1)) rfl ⟨rfl, ⟨_, rfl⟩, rfl⟩ (fun i σ H' _ h => .inl (.inl (by rw [h.1]; exact hk3))) ?_ ?_
      · rintro i y σ H' hy ⟨rfl, ⟨x7, rfl⟩, hf⟩
        obtain ⟨z, hz, rfl⟩ := map_at hy
        obtain ⟨hlt, hz2⟩ := List.getElem?_eq_some_iff.mp hz
        rw [List.drop_eq_getElem_cons hlt, hz2, List.find?_cons] at hf
        refine ⟨_, rfl, _, rfl, D, _, rfl, DGet.k (k := (Sum.inl z : Key)) hkD, _, rfl, ?_⟩
        rw [hvD]
        cases hb : decide (z ∈ (along cs q.2).1) with
        | true =>
          rw [hb] at hf
          have kk := k H' s03
          rw [hf] at kk
          exact iteT ⟨_, rfl, kk⟩
        | false =>
          rw [hb] at hf
          exact iteF ⟨rfl, ⟨_, rfl⟩, hf⟩
      · rintro σ H' ⟨rfl, ⟨x7, rfl⟩, hf⟩
        rw [List.length_map, List.drop_length] at hf
        have kk := k H' s03
        rw [hf] at kk
        exact kk
    · refine ⟨_, rfl, x, ns, cs, rfl, hS, ?_⟩
      refine ⟨_, rfl, _, rfl, x, _, ns, cs, rfl, hS, .inl ⟨p, hm, rfl, fun H1 t l s1 hl ht hk => ?_⟩⟩
      refine ⟨t, _, rfl, .inl (.inl ht), rfl, _, _, rfl, _, _, rfl, rfl, ?_⟩
      exact ⟨_, rfl, _, rfl, x, _, ns, cs, rfl, St.same s1 hS, .inr ⟨NoName.same s1 nn, Bad.later s1 bad⟩⟩
    · refine ⟨_, rfl, x, ns, cs, rfl, hS, ?_⟩
      exact ⟨_, rfl, _, rfl, x, _, ns, cs, rfl, hS, .inr ⟨nn, bad⟩⟩
end
end K1
namespace K1
open PySem PySem.Spec L2 Z K7
section
variable {P : Program} {w : World} {K : PySem.W.Frag} {mg : Str → Option Value} {base : Heap} {C CU : Addr}
theorem ok_law_common_right (T : Txt K mg C CU) (G__law_gone_along : Pr P w K mg base "_law_gone_along" s_law_gone_along 1 ["_law_arrows_here", "_law_place"] sp_law_gone_along) (G_first_common : PrX P w K mg base "first_common" s_first_common 5 ["store", "letter", "other"] (q_first_common K C CU)) : PrG P w K mg base "_law_common_right" s_law_common_right 6 ["_law_made", "_law_names", "_law_arrows_here"] (sp_law_common_right K C) := by
  obtain ⟨f, fd, F, gl, bd⟩ := T.d__law_common_right
  refine ⟨f, fd, F, gl, bd, okG F sc_law_common_right (fun vs H Q E h => ?_) (fun cdv A outer s H vs Q E hr hgd h => ?_)⟩
  · obtain ⟨x, v, d, ns, cs, rfl, _⟩ := h
    rfl
  · obtain ⟨x, v, d, ns, cs, rfl, hS, ⟨a0, rs, rfl, ht, hp⟩, hd, k⟩ := h
    have hu := hu_of hr
    refine ⟨_, (pss_cons (ps_for PassesOwn.never rfl (pi_tup (pv 1)) (pg_tup rfl (pgs_cons (pg_name (i := 3) sc_law_common_right.nd rfl (Or.inl rfl)) (pgs_cons (pg_name (i := 4) sc_law_common_right.nd rfl (Or.inl rfl)) pgs_nil)))
      (pss_one (ps_for PassesOwn.never rfl (pi_tup (pv 1)) (pg_tup rfl (pgs_cons (pg_name (i := 5) sc_law_common_right.nd rfl (Or.inl rfl)) (pgs_cons (pg_name (i := 6) sc_law_common_right.nd rfl (Or.inl rfl)) pgs_nil)))
      (pss_cons (ps_set (i := 7) sc_law_common_right.nd rfl (Or.inr rfl) (pe_ix ix_tup (pcall G__law_gone_along (hr.mono (by decide)) (pa_cons (pv 2) (pa_cons (pv 6) pa_nil))) pe_int (fun _ _ => rfl)))
      (pss_cons (ps_setLc (i := 8) (own := [("_law_cell", 10)]) (g := gName 10) rfl sc_law_common_right.nd rfl rfl (sw_true rfl rfl rfl (by decide +kernel)) (pi_list (pe_ix ix_tup (pcall G__law_gone_along (hr.mono (by decide)) (pa_cons (pv 2) (pa_cons (pv 4) pa_nil))) pe_int (fun _ _ => rfl))) (blkOk_by (own := [("_law_cell", 10)]) (N := N_law_common_right) (sc := defScope s_law_common_right) (by decide +kernel)) (fun _ _ _ _ _ => (pg_name (i := 10) sc_law_common_right.nd rfl (Or.inl rfl))) (fun _ _ _ _ _ => (pts_one (pt_cmpR (op_in_seqK (K := K) rfl) (pv 10) (pv 7) (by rfl)))) (fun _ _ _ _ _ => (pv 10)))
      (pss_cons (ps_set (i := 9) sc_law_common_right.nd rfl (Or.inl rfl) (pe_ifExp (pt_cmpR (op_neD hr.units) (pv 8) (pe_lst pa_nil) (nomark _)) (pe_ix ix_list (pv 8) pe_int (fun _ _ => rfl)) pe_non))
      (pss_one (ps_if (pt_cmpR op_ne (pe_callB (call_repr hgd hr.units) (by rfl) T.b_repr (by decide +kernel) (pa_cons (pe_lst (pa_cons (pcallX E0 G_first_common (hr.mono (by decide)) passL (pa_cons (pv 0) (pa_cons (pv 3) (pa_cons (pv 5) pa_nil)))) (pa_cons (pcallXN0 E0 G_first_common (hr.mono (by decide)) passL kb_first_common (pk_cons (pv 5) (pk_cons (pv 0) (pk_cons (pv 3) pk_nil)))) pa_nil))) pa_nil)) (pe_callB (call_repr hgd hr.units) (by rfl) T.b_repr (by decide +kernel) (pa_cons (pe_lst (pa_cons (pv 9) (pa_cons (pv 9) pa_nil))) pa_nil)) (nomark _)) (pss_one (ps_ret pe_bl)) pss_nil))))))))
      (pss_one (ps_ret pe_bl))), ?_⟩
    obtain ⟨ok, ck⟩ : NOk ns ∧ COk cs := by
      obtain ⟨v, u, dx, pd, ad, ld, ks, S⟩ := hS
      exact ⟨S.nok, S.cok⟩
    have c4 := ck.few
    refine ⟨_, rfl, a0, rfl, ⟨_, ht.sq⟩, ?_⟩
    refine for_pairs (H0 := H) (fun i σ H' => Same H H' ∧ ∃ y3 y4 y5 y6 y7 y8 y9 yA, σ = [some (.ref x), some (.ref a0), some (.ref d), y3, y4, y5, y6, y7, y8, y9, yA]) ⟨fun _ _ h => h, _, _, _, _, _, _, _, _, rfl⟩ ht hp (fun i σ H' h => .of h.1) ?_ ?_
    · rintro i b p0 σ H1 eb ep hq ⟨s1, y3, y4, y5, y6, y7, y8, y9, yA, rfl⟩
      obtain ⟨p, ep2, rfl⟩ := map_at ep
      have hm := List.mem_of_getElem? ep2
      obtain ⟨hp0, hp9⟩ := ok.pl p hm
      refine ⟨b, _, rfl, hq, rfl, _, _, rfl, _, _, rfl, rfl, ?_⟩
      refine ⟨_, rfl, a0, rfl, ⟨_, (PT.same s1 ht).sq⟩, ?_⟩
      refine for_pairs (H0 := H) (fun i σ H' => Same H H' ∧ ∃ y5 y6 y7 y8 y9 yA, σ = [some (.ref x), some (.ref a0), some (.ref d), some (.str (ch p.1)), some (.int p.2), y5, y6, y7, y8, y9, yA]) ⟨s1, _, _, _, _, _, _, rfl⟩ ht hp (fun i σ H' h => .of h.1) ?_ ?_
      · rintro i2 b2 q0 σ H2 eb2 eq2 hq2 ⟨s2, y5, y6, y7, y8, y9, yA, rfl⟩
        obtain ⟨q, eq3, rfl⟩ := map_at eq2
        have hm2 := List.mem_of_getElem? eq3
        refine ⟨b2, _, rfl, hq2, rfl, _, _, rfl, _, _, rfl, rfl, ?_⟩
        refine ⟨_, rfl, _, rfl, d, q.2, cs, rfl, s2 _ _ hd, c4, fun H3 t1 l1 s3 hl1 ht1 hk1 => ⟨t1, _, 0, _, rfl, rfl, .inl (.inl ht1), at_first, ?_⟩⟩
        have s03 := s2.trans s3
        unfold gName tSeq tAsg
        dsimp only
        refine lcI (gs := (along cs p.2).1) (fun z => decide (z ∈ (along cs q.2).1)) (fun R hR => ?_) ?_ (of_decide_eq_true rfl) (fun z H' R sm hR => ?_) (fun H5 D s5 hD hl5 => ?_)
        · exact ⟨_, rfl, _, rfl, d, p.2, cs, rfl, s03 _ _ hd, c4, fun H4 t2 l2 s4 hl2 ht2 hk2 => ⟨t2, _, 0, _, rfl, rfl, .inl (.inl ht2), at_first, hR l2 H4 s4 hk2⟩⟩
        · have := seen_len (along_stop cs p.2).2.1 (along_stop cs p.2).2.2
          omega
        · exact ⟨_, rfl, _, rfl, l1, _, rfl, .inl (.inl (.inl (sm _ _ hk1))), rfl, flat_int _, _, congrArg V.bl (inV_int z _), hR⟩
        have s05 := s03.trans s5
        have hce := common_eq cs p.2 q.2
        generalize ((along cs p.2).1.filter fun z => decide (z ∈ (along cs q.2).1)) = F at hl5 hce
        refine ⟨_, rfl, by show 0 ≤ sizeLine; exact Nat.zero_le _, fun l0 hl0 => ?_⟩
        have s9 := same_new (o := .lst []) hl0
        have e9 : upd H5 l0 (.lst []) l0 = some (.lst []) := upd_same
        have hl9 := s9 _ _ hl5
        have s05 := s05.trans s9
        generalize upd H5 l0 (.lst []) = H9 at s05 e9 hl9 ⊢
        refine ⟨.list (F.map PyData.int), .list ([].map PyData.int), .lst (.inl (.inl hl9)) (dp_ints F), .lst (.inl (.inl e9)) .nil, shape_ints F, shape_ints [], ?_⟩
        cases F with
        | nil =>
          have hcm : cmV (common cs p.2 q.2) = V.non := by rw [hce]; rfl
          refine ⟨false, by simp [PyData.eqv, PyData.eqvAll], iteF ?_⟩
          refine ⟨_, rfl, _, rfl, _, rfl, x, _, _, ns, cs, rfl, St.same s05 hS, .inl ⟨p, hm, rfl, .inl ⟨q, hm2, rfl, fun H6 s6 => ?_⟩⟩⟩
          refine ⟨_, rfl, _, rfl, _, rfl, rfl, x, _, _, ns, cs, rfl, St.same (s05.trans s6) hS, .inl ⟨p, hm, rfl, .inl ⟨q, hm2, rfl, fun H7 s7 => ?_⟩⟩⟩
          refine ⟨by show 2 ≤ sizeLine; exact sl_le (by decide), fun p1 hp1 => ?_⟩
          have s8 := same_new (o := .lst [cmV (common cs p.2 q.2), cmV (common cs p.2 q.2)]) hp1
          obtain ⟨r1, r2, r3, r4, r5⟩ := repr_ok (K := K) (.inl (.inl (upd_same (H := H7) (a := p1) (o := .lst [cmV (common cs p.2 q.2), cmV (common cs p.2 q.2)])))) (.cons (dp_cm _) (.cons (dp_cm _) .nil)) (fit_cm ck hp0 hp9) (by show (5 + 2) * 2 + 3 ≤ 16000000; decide) (by decide)
          refine ⟨p1, _, rfl, r1, r2, r3, r4, r5, ?_⟩
          generalize upd H7 p1 (.lst [cmV (common cs p.2 q.2), cmV (common cs p.2 q.2)]) = H8 at s8 ⊢
          refine ⟨_, rfl, _, rfl, by show 2 ≤ sizeLine; exact sl_le (by decide), fun p2 hp2 => ?_⟩
          obtain ⟨r1, r2, r3, r4, r5⟩ := repr_ok (K := K) (.inl (.inl (upd_same (H := H8) (a := p2) (o := .lst [cmV (common cs p.2 q.2), cmV (common cs p.2 q.2)])))) (.cons (dp_cm _) (.cons (dp_cm _) .nil)) (fit_cm ck hp0 hp9) (by show (5 + 2) * 2 + 3 ≤ 16000000; decide) (by decide)
          have hq5 := hcm
          refine ⟨p2, .list [cmD (common cs p.2 q.2), cmD (common cs p.2 q.2)], rfl, ?_, r2, r3, r4, r5, rfl, false, bl_ne _, iteF ?_⟩
          · exact .lst (.inl (.inl upd_same)) (.cons (by rw [← hcm]; exact dp_cm _) (.cons (by rw [← hcm]; exact dp_cm _) .nil))
          exact ⟨(((s05.trans s6).trans s7).trans s8).trans (same_new hp2), _, _, _, _, _, _, rfl⟩
        | cons z t =>
          have hcm : cmV (common cs p.2 q.2) = V.int z := by rw [hce]; rfl
          refine ⟨true, by simp [PyData.eqv, PyData.eqvAll], iteT ⟨_, rfl, D, _, 0, _, rfl, rfl, .inl (.inl hl9), at_first, ?_⟩⟩
          refine ⟨_, rfl, _, rfl, _, rfl, x, _, _, ns, cs, rfl, St.same s05 hS, .inl ⟨p, hm, rfl, .inl ⟨q, hm2, rfl, fun H6 s6 => ?_⟩⟩⟩
          refine ⟨_, rfl, _, rfl, _, rfl, rfl, x, _, _, ns, cs, rfl, St.same (s05.trans s6) hS, .inl ⟨p, hm, rfl, .inl ⟨q, hm2, rfl, fun H7 s7 => ?_⟩⟩⟩
          refine ⟨by show 2 ≤ sizeLine; exact sl_le (by decide), fun p1 hp1 => ?_⟩
          have s8 := same_new (o := .lst [cmV (common cs p.2 q.2), cmV (common cs p.2 q.2)]) hp1
          obtain ⟨r1, r2, r3, r4, r5⟩ := repr_ok (K := K) (.inl (.inl (upd_same (H := H7) (a := p1) (o := .lst [cmV (common cs p.2 q.2), cmV (common cs p.2 q.2)])))) (.cons (dp_cm _) (.cons (dp_cm _) .nil)) (fit_cm ck hp0 hp9) (by show (5 + 2) * 2 + 3 ≤ 16000000; decide) (by decide)
          refine ⟨p1, _, rfl, r1, r2, r3, r4, r5, ?_⟩
          generalize upd H7 p1 (.lst [cmV (common cs p.2 q.2), cmV (common cs p.2 q.2)]) = H8 at s8 ⊢
          refine ⟨_, rfl, _, rfl, by show 2 ≤ sizeLine; exact sl_le (by decide), fun p2 hp2 => ?_⟩
          obtain ⟨r1, r2, r3, r4, r5⟩ := repr_ok (K := K) (.inl (.inl (upd_same (H := H8) (a := p2) (o := .lst [cmV (common cs p.2 q.2), cmV (common cs p.2 q.2)])))) (.cons (dp_cm _) (.cons (dp_cm _) .nil)) (fit_cm ck hp0 hp9) (by show (5 + 2) * 2 + 3 ≤ 16000000; decide) (by decide)
          have hq5 := hcm
          refine ⟨p2, .list [cmD (common cs p.2 q.2), cmD (common cs p.2 q.2)], rfl, ?_, r2, r3, r4, r5, rfl, false, bl_ne _, iteF ?_⟩
          · exact .lst (.inl (.inl upd_same)) (.cons (by rw [← hcm]; exact dp_cm _) (.cons (by rw [← hcm]; exact dp_cm _) .nil))
          exact ⟨(((s05.trans s6).trans s7).trans s8).trans (same_new hp2), _, _, _, _, _, _, rfl⟩
      · rintro σ H2 ⟨s2, y5, y6, y7, y8, y9, yA, rfl⟩
        exact ⟨s2, _, _, _, _, _, _, _, _, rfl⟩
    · rintro σ H1 ⟨s1, _⟩
      exact k H1 s1
end
end K1
namespace K1
open PySem PySem.Spec L2 Z K7
section
variable {P : Program} {w : World} {K : PySem.W.Frag} {mg : Str → Option Value} {base : Heap} {C CU : Addr}
theorem ok_law_odd (T : Txt K mg C CU) (G__law_one_of : Pr P w K mg base "_law_one_of" s_law_one_of 2 ["_law_jug_here", "_law_some"] (sp_law_one_of K)) : Pr P w K mg base "_law_odd" s_law_odd 3 ["_law_jug_here"] (q_odd K) := by
  obtain ⟨f, fd, F, gl, bd⟩ := T.d__law_odd
  refine ⟨f, fd, F, gl, bd, F.ok sc_law_odd (fun vs H Q E h => ?_) (fun cdv A outer s H vs Q E hr h => ?_)⟩
  · obtain ⟨j, rfl, _⟩ := h
    rfl
  · obtain ⟨j, rfl, hj, k⟩ := h
    have hu := hu_of hr
    refine ⟨_, (pss_one (ps_ret (pcall G__law_one_of (hr.mono (by decide)) (pa_cons (pv 0) (pa_cons (pe_lst (pa_cons pe_non (pa_cons pe_bl (pa_cons pe_bl (pa_cons (pe_un un_neg pe_int) (pa_cons pe_int (pa_cons pe_int (pa_cons pe_int (pa_cons (pe_op op_pow pe_int pe_int) (pa_cons pe_str (pa_cons pe_str (pa_cons pe_str (pa_cons pe_str (pa_cons (pe_tupP pa_nil) (pa_cons (pe_tupP (pa_cons pe_int pa_nil)) (pa_cons (pe_tup (pa_cons pe_int (pa_cons pe_int pa_nil))) (pa_cons (pe_tup (pa_cons pe_str (pa_cons pe_int pa_nil))) (pa_cons (pe_lst pa_nil) (pa_cons (pe_lst (pa_cons pe_int (pa_cons pe_int pa_nil))) (pa_cons (pe_lst (pa_cons (pe_tup (pa_cons pe_int (pa_cons pe_int pa_nil))) pa_nil)) (pa_cons pe_dnewK (pa_cons (pe_disp (pps_cons pe_str pe_int pps_nil) rfl rfl (by simp) (by decide)) (pa_cons (pe_tupP (pa_cons pe_non pa_nil)) (pa_cons (pe_tup (pa_cons (pe_tup (pa_cons pe_int (pa_cons pe_int pa_nil))) (pa_cons pe_int pa_nil))) (pa_cons (pe_tupP (pa_cons (pe_lst pa_nil) pa_nil)) pa_nil))))))))))))))))))))))))) pa_nil))))), ?_⟩
    have zl : ∀ {n : Nat}, n ≤ 30 → n ≤ sizeLine := fun h => Nat.le_trans h (by decide +kernel)
    refine ⟨_, rfl, ?_⟩
    refine ⟨1, rfl, ?_⟩
    refine ⟨10, 31, rfl, rfl, ⟨by decide, by decide, by decide⟩, ?_⟩
    refine ⟨zl (by simp), fun p1 o1 n1 f1 => ?_⟩
    have s1 : Same H (upd H p1 (.frz o1 (.tup []))) := same_new n1
    have e1 : (upd H p1 (.frz o1 (.tup []))) p1 = some (.frz o1 (.tup [])) := upd_same
    generalize hH1 : upd H p1 (.frz o1 (.tup [])) = H1 at s1 e1
    have d1 : p1 ≠ j := JugAt.ne hj n1
    have j1 : JugAt H1 j := jugS s1 hj
    refine ⟨zl (by simp), fun p2 o2 n2 f2 => ?_⟩
    have s2 : Same H1 (upd H1 p2 (.frz o2 (.tup [.int 1]))) := same_new n2
    have e2 : (upd H1 p2 (.frz o2 (.tup [.int 1]))) p2 = some (.frz o2 (.tup [.int 1])) := upd_same
    generalize hH2 : upd H1 p2 (.frz o2 (.tup [.int 1])) = H2 at s2 e2
    replace e1 := s2 _ _ e1
    have d2 : p2 ≠ j := JugAt.ne j1 n2
    have j2 : JugAt H2 j := jugS s2 j1
    refine ⟨zl (by simp), fun p3 n3 => ?_⟩
    have s3 : Same H2 (upd H2 p3 (.tup [.int 1, .int 2])) := same_new n3
    have e3 : (upd H2 p3 (.tup [.int 1, .int 2])) p3 = some (.tup [.int 1, .int 2]) := upd_same
    generalize hH3 : upd H2 p3 (.tup [.int 1, .int 2]) = H3 at s3 e3
    replace e1 := s3 _ _ e1
    replace e2 := s3 _ _ e2
    have d3 : p3 ≠ j := JugAt.ne j2 n3
    have j3 : JugAt H3 j := jugS s3 j2
    refine ⟨zl (by simp), fun p4 n4 => ?_⟩
    have s4 : Same H3 (upd H3 p4 (.tup [.str (Str.ofString "x"), .int 1])) := same_new n4
    have e4 : (upd H3 p4 (.tup [.str (Str.ofString "x"), .int 1])) p4 = some (.tup [.str (Str.ofString "x"), .int 1]) := upd_same
    generalize hH4 : upd H3 p4 (.tup [.str (Str.ofString "x"), .int 1]) = H4 at s4 e4
    replace e1 := s4 _ _ e1
    replace e2 := s4 _ _ e2
    replace e3 := s4 _ _ e3
    have d4 : p4 ≠ j := JugAt.ne j3 n4
    have j4 : JugAt H4 j := jugS s4 j3
    refine ⟨zl (by simp), fun p5 n5 => ?_⟩
    have s5 : Same H4 (upd H4 p5 (.lst [])) := same_new n5
    have e5 : (upd H4 p5 (.lst [])) p5 = some (.lst []) := upd_same
    generalize hH5 : upd H4 p5 (.lst []) = H5 at s5 e5
    replace e1 := s5 _ _ e1
    replace e2 := s5 _ _ e2
    replace e3 := s5 _ _ e3
    replace e4 := s5 _ _ e4
    have d5 : p5 ≠ j := JugAt.ne j4 n5
    have j5 : JugAt H5 j := jugS s5 j4
    refine ⟨zl (by simp), fun p6 n6 => ?_⟩
    have s6 : Same H5 (upd H5 p6 (.lst [.int 1, .int 2])) := same_new n6
    have e6 : (upd H5 p6 (.lst [.int 1, .int 2])) p6 = some (.lst [.int 1, .int 2]) := upd_same
    generalize hH6 : upd H5 p6 (.lst [.int 1, .int 2]) = H6 at s6 e6
    replace e1 := s6 _ _ e1
    replace e2 := s6 _ _ e2
    replace e3 := s6 _ _ e3
    replace e4 := s6 _ _ e4
    replace e5 := s6 _ _ e5
    have d6 : p6 ≠ j := JugAt.ne j5 n6
    have j6 : JugAt H6 j := jugS s6 j5
    refine ⟨zl (by simp), fun p7 n7 => ?_⟩
    have s7 : Same H6 (upd H6 p7 (.tup [.int 1, .int 2])) := same_new n7
    have e7 : (upd H6 p7 (.tup [.int 1, .int 2])) p7 = some (.tup [.int 1, .int 2]) := upd_same
    generalize hH7 : upd H6 p7 (.tup [.int 1, .int 2]) = H7 at s7 e7
    replace e1 := s7 _ _ e1
    replace e2 := s7 _ _ e2
    replace e3 := s7 _ _ e3
    replace e4 := s7 _ _ e4
    replace e5 := s7 _ _ e5
    replace e6 := s7 _ _ e6
    have d7 : p7 ≠ j := JugAt.ne j6 n7
    have j7 : JugAt H7 j := jugS s7 j6
    refine ⟨zl (by simp), fun p8 n8 => ?_⟩
    have s8 : Same H7 (upd H7 p8 (.lst [.ref p7])) := same_new n8
    have e8 : (upd H7 p8 (.lst [.ref p7])) p8 = some (.lst [.ref p7]) := upd_same
    generalize hH8 : upd H7 p8 (.lst [.ref p7]) = H8 at s8 e8
    replace e1 := s8 _ _ e1
    replace e2 := s8 _ _ e2
    replace e3 := s8 _ _ e3
    replace e4 := s8 _ _ e4
    replace e5 := s8 _ _ e5
    replace e6 := s8 _ _ e6
    replace e7 := s8 _ _ e7
    have d8 : p8 ≠ j := JugAt.ne j7 n8
    have j8 : JugAt H8 j := jugS s8 j7
    intro p9 n9
    have s9 : Same H8 (upd H8 p9 (.dK [])) := same_new n9
    have e9 : (upd H8 p9 (.dK [])) p9 = some (.dK []) := upd_same
    generalize hH9 : upd H8 p9 (.dK []) = H9 at s9 e9
    replace e1 := s9 _ _ e1
    replace e2 := s9 _ _ e2
    replace e3 := s9 _ _ e3
    replace e4 := s9 _ _ e4
    replace e5 := s9 _ _ e5
    replace e6 := s9 _ _ e6
    replace e7 := s9 _ _ e7
    replace e8 := s9 _ _ e8
    have d9 : p9 ≠ j := JugAt.ne j8 n9
    have j9 : JugAt H9 j := jugS s9 j8
    intro p10 n10
    refine ⟨upd_same, [(.inr (Str.ofString "x"), .int 1)], rfl, by decide, ?_⟩
    rw [show mergeK [] [((.inr (Str.ofString "x") : Key), V.int 1)] = [(.inr (Str.ofString "x"), .int 1)] from rfl]
    have s10 : Same H9 (upd (upd H9 p10 (.dK [])) p10 (.dK [(.inr (Str.ofString "x"), .int 1)])) := same_new2 n10
    have e10 : (upd (upd H9 p10 (.dK [])) p10 (.dK [(.inr (Str.ofString "x"), .int 1)])) p10 = some (.dK [(.inr (Str.ofString "x"), .int 1)]) := upd_same
    generalize hH10 : upd (upd H9 p10 (.dK [])) p10 (.dK [(.inr (Str.ofString "x"), .int 1)]) = H10 at s10 e10
    replace e1 := s10 _ _ e1
    replace e2 := s10 _ _ e2
    replace e3 := s10 _ _ e3
    replace e4 := s10 _ _ e4
    replace e5 := s10 _ _ e5
    replace e6 := s10 _ _ e6
    replace e7 := s10 _ _ e7
    replace e8 := s10 _ _ e8
    replace e9 := s10 _ _ e9
    have d10 : p10 ≠ j := JugAt.ne j9 n10
    have j10 : JugAt H10 j := jugS s10 j9
    refine ⟨zl (by simp), fun p11 o11 n11 f11 => ?_⟩
    have s11 : Same H10 (upd H10 p11 (.frz o11 (.tup [.non]))) := same_new n11
    have e11 : (upd H10 p11 (.frz o11 (.tup [.non]))) p11 = some (.frz o11 (.tup [.non])) := upd_same
    generalize hH11 : upd H10 p11 (.frz o11 (.tup [.non])) = H11 at s11 e11
    replace e1 := s11 _ _ e1
    replace e2 := s11 _ _ e2
    replace e3 := s11 _ _ e3
    replace e4 := s11 _ _ e4
    replace e5 := s11 _ _ e5
    replace e6 := s11 _ _ e6
    replace e7 := s11 _ _ e7
    replace e8 := s11 _ _ e8
    replace e9 := s11 _ _ e9
    replace e10 := s11 _ _ e10
    have d11 : p11 ≠ j := JugAt.ne j10 n11
    have j11 : JugAt H11 j := jugS s11 j10
    refine ⟨zl (by simp), fun p12 n12 => ?_⟩
    have s12 : Same H11 (upd H11 p12 (.tup [.int 1, .int 2])) := same_new n12
    have e12 : (upd H11 p12 (.tup [.int 1, .int 2])) p12 = some (.tup [.int 1, .int 2]) := upd_same
    generalize hH12 : upd H11 p12 (.tup [.int 1, .int 2]) = H12 at s12 e12
    replace e1 := s12 _ _ e1
    replace e2 := s12 _ _ e2
    replace e3 := s12 _ _ e3
    replace e4 := s12 _ _ e4
    replace e5 := s12 _ _ e5
    replace e6 := s12 _ _ e6
    replace e7 := s12 _ _ e7
    replace e8 := s12 _ _ e8
    replace e9 := s12 _ _ e9
    replace e10 := s12 _ _ e10
    replace e11 := s12 _ _ e11
    have d12 : p12 ≠ j := JugAt.ne j11 n12
    have j12 : JugAt H12 j := jugS s12 j11
    refine ⟨zl (by simp), fun p13 n13 => ?_⟩
    have s13 : Same H12 (upd H12 p13 (.tup [.ref p12, .int 3])) := same_new n13
    have e13 : (upd H12 p13 (.tup [.ref p12, .int 3])) p13 = some (.tup [.ref p12, .int 3]) := upd_same
    generalize hH13 : upd H12 p13 (.tup [.ref p12, .int 3]) = H13 at s13 e13
    replace e1 := s13 _ _ e1
    replace e2 := s13 _ _ e2
    replace e3 := s13 _ _ e3
    replace e4 := s13 _ _ e4
    replace e5 := s13 _ _ e5
    replace e6 := s13 _ _ e6
    replace e7 := s13 _ _ e7
    replace e8 := s13 _ _ e8
    replace e9 := s13 _ _ e9
    replace e10 := s13 _ _ e10
    replace e11 := s13 _ _ e11
    replace e12 := s13 _ _ e12
    have d13 : p13 ≠ j := JugAt.ne j12 n13
    have j13 : JugAt H13 j := jugS s13 j12
    refine ⟨zl (by simp), fun p14 n14 => ?_⟩
    have s14 : Same H13 (upd H13 p14 (.lst [])) := same_new n14
    have e14 : (upd H13 p14 (.lst [])) p14 = some (.lst []) := upd_same
    generalize hH14 : upd H13 p14 (.lst []) = H14 at s14 e14
    replace e1 := s14 _ _ e1
    replace e2 := s14 _ _ e2
    replace e3 := s14 _ _ e3
    replace e4 := s14 _ _ e4
    replace e5 := s14 _ _ e5
    replace e6 := s14 _ _ e6
    replace e7 := s14 _ _ e7
    replace e8 := s14 _ _ e8
    replace e9 := s14 _ _ e9
    replace e10 := s14 _ _ e10
    replace e11 := s14 _ _ e11
    replace e12 := s14 _ _ e12
    replace e13 := s14 _ _ e13
    have d14 : p14 ≠ j := JugAt.ne j13 n14
    have j14 : JugAt H14 j := jugS s14 j13
    refine ⟨zl (by simp), fun p15 o15 n15 f15 => ?_⟩
    have s15 : Same H14 (upd H14 p15 (.frz o15 (.tup [.ref p14]))) := same_new n15
    have e15 : (upd H14 p15 (.frz o15 (.tup [.ref p14]))) p15 = some (.frz o15 (.tup [.ref p14])) := upd_same
    generalize hH15 : upd H14 p15 (.frz o15 (.tup [.ref p14])) = H15 at s15 e15
    replace e1 := s15 _ _ e1
    replace e2 := s15 _ _ e2
    replace e3 := s15 _ _ e3
    replace e4 := s15 _ _ e4
    replace e5 := s15 _ _ e5
    replace e6 := s15 _ _ e6
    replace e7 := s15 _ _ e7
    replace e8 := s15 _ _ e8
    replace e9 := s15 _ _ e9
    replace e10 := s15 _ _ e10
    replace e11 := s15 _ _ e11
    replace e12 := s15 _ _ e12
    replace e13 := s15 _ _ e13
    replace e14 := s15 _ _ e14
    have d15 : p15 ≠ j := JugAt.ne j14 n15
    have j15 : JugAt H15 j := jugS s15 j14
    refine ⟨zl (by simp), fun p16 n16 => ?_⟩
    have s16 : Same H15 (upd H15 p16 (.lst [.non, .bl true, .bl false, .int (-1), .int 0, .int 1, .int 1000, .int (10 ^ 31), .str (Str.ofString ""), .str (Str.ofString "x"), .str (Str.ofString "1"), .str (Str.ofString "END"), .ref p1, .ref p2, .ref p3, .ref p4, .ref p5, .ref p6, .ref p8, .ref p9, .ref p10, .ref p11, .ref p13, .ref p15])) := same_new n16
    have e16 : (upd H15 p16 (.lst [.non, .bl true, .bl false, .int (-1), .int 0, .int 1, .int 1000, .int (10 ^ 31), .str (Str.ofString ""), .str (Str.ofString "x"), .str (Str.ofString "1"), .str (Str.ofString "END"), .ref p1, .ref p2, .ref p3, .ref p4, .ref p5, .ref p6, .ref p8, .ref p9, .ref p10, .ref p11, .ref p13, .ref p15])) p16 = some (.lst [.non, .bl true, .bl false, .int (-1), .int 0, .int 1, .int 1000, .int (10 ^ 31), .str (Str.ofString ""), .str (Str.ofString "x"), .str (Str.ofString "1"), .str (Str.ofString "END"), .ref p1, .ref p2, .ref p3, .ref p4, .ref p5, .ref p6, .ref p8, .ref p9, .ref p10, .ref p11, .ref p13, .ref p15]) := upd_same
    generalize hH16 : upd H15 p16 (.lst [.non, .bl true, .bl false, .int (-1), .int 0, .int 1, .int 1000, .int (10 ^ 31), .str (Str.ofString ""), .str (Str.ofString "x"), .str (Str.ofString "1"), .str (Str.ofString "END"), .ref p1, .ref p2, .ref p3, .ref p4, .ref p5, .ref p6, .ref p8, .ref p9, .ref p10, .ref p11, .ref p13, .ref p15]) = H16 at s16 e16
    replace e1 := s16 _ _ e1
    replace e2 := s16 _ _ e2
    replace e3 := s16 _ _ e3
    replace e4 := s16 _ _ e4
    replace e5 := s16 _ _ e5
    replace e6 := s16 _ _ e6
    replace e7 := s16 _ _ e7
    replace e8 := s16 _ _ e8
    replace e9 := s16 _ _ e9
    replace e10 := s16 _ _ e10
    replace e11 := s16 _ _ e11
    replace e12 := s16 _ _ e12
    replace e13 := s16 _ _ e13
    replace e14 := s16 _ _ e14
    replace e15 := s16 _ _ e15
    have d16 : p16 ≠ j := JugAt.ne j15 n16
    have j16 : JugAt H16 j := jugS s16 j15
    have S : Same H H16 := fun b o e => s16 _ _ (s15 _ _ (s14 _ _ (s13 _ _ (s12 _ _ (s11 _ _ (s10 _ _ (s9 _ _ (s8 _ _ (s7 _ _ (s6 _ _ (s5 _ _ (s4 _ _ (s3 _ _ (s2 _ _ (s1 _ _ (e))))))))))))))))
    subst hH16
    refine ⟨j, p16, [.non, .bl true, .bl false, .int (-1), .int 0, .int 1, .int 1000, .int (10 ^ 31), .str (Str.ofString ""), .str (Str.ofString "x"), .str (Str.ofString "1"), .str (Str.ofString "END"), .ref p1, .ref p2, .ref p3, .ref p4, .ref p5, .ref p6, .ref p8, .ref p9, .ref p10, .ref p11, .ref p13, .ref p15], rfl, j16, d16, .inl (.inl e16), (by simp), by simp, fun H' x cg hj' hx => k H' x ((Chg.of S).trans cg) hj' ?_⟩
    replace e1 := cg _ _ e1 d1
    replace e2 := cg _ _ e2 d2
    replace e3 := cg _ _ e3 d3
    replace e4 := cg _ _ e4 d4
    replace e5 := cg _ _ e5 d5
    replace e6 := cg _ _ e6 d6
    replace e7 := cg _ _ e7 d7
    replace e8 := cg _ _ e8 d8
    replace e9 := cg _ _ e9 d9
    replace e10 := cg _ _ e10 d10
    replace e11 := cg _ _ e11 d11
    replace e12 := cg _ _ e12 d12
    replace e13 := cg _ _ e13 d13
    replace e14 := cg _ _ e14 d14
    replace e15 := cg _ _ e15 d15
    replace e16 := cg _ _ e16 d16
    simp only [List.mem_cons, List.not_mem_nil, or_false] at hx
    rcases hx with rfl | rfl | rfl | rfl | rfl | rfl | rfl | rfl | rfl | rfl | rfl | rfl | rfl | rfl | rfl | rfl | rfl | rfl | rfl | rfl | rfl | rfl | rfl | rfl
    · exact ⟨.none, by decide +kernel, fun H2 ch => ⟨(.inr (.inr (.inr (.inl rfl)))), (.of .non rfl)⟩⟩
    · exact ⟨.bool true, by decide +kernel, fun H2 ch => ⟨(.inr (.inr (.inr (.inr (.inl ⟨_, rfl⟩))))), (.of (.bl _) rfl)⟩⟩
    · exact ⟨.bool false, by decide +kernel, fun H2 ch => ⟨(.inr (.inr (.inr (.inr (.inl ⟨_, rfl⟩))))), (.of (.bl _) rfl)⟩⟩
    · exact ⟨.int (-1), by decide +kernel, fun H2 ch => ⟨(.inr (.inr (.inr (.inr (.inr (.inl ⟨_, rfl⟩)))))), (.of (.int _) rfl)⟩⟩
    · exact ⟨.int 0, by decide +kernel, fun H2 ch => ⟨(.inr (.inr (.inr (.inr (.inr (.inl ⟨_, rfl⟩)))))), (.of (.int _) rfl)⟩⟩
    · exact ⟨.int 1, by decide +kernel, fun H2 ch => ⟨(.inr (.inr (.inr (.inr (.inr (.inl ⟨_, rfl⟩)))))), (.of (.int _) rfl)⟩⟩
    · exact ⟨.int 1000, by decide +kernel, fun H2 ch => ⟨(.inr (.inr (.inr (.inr (.inr (.inl ⟨_, rfl⟩)))))), (.of (.int _) rfl)⟩⟩
    · exact ⟨.int (10 ^ 31), by decide +kernel, fun H2 ch => ⟨(.inr (.inr (.inr (.inr (.inr (.inl ⟨_, rfl⟩)))))), (.of (.int _) rfl)⟩⟩
    · exact ⟨.str (Str.ofString ""), by decide +kernel, fun H2 ch => ⟨(.inr (.inl ⟨_, rfl, by decide, by decide⟩)), (.of (.str _) rfl)⟩⟩
    · exact ⟨.str (Str.ofString "x"), by decide +kernel, fun H2 ch => ⟨(.inl rfl), (.of (.str _) rfl)⟩⟩
    · exact ⟨.str (Str.ofString "1"), by decide +kernel, fun H2 ch => ⟨(.inr (.inr (.inl ⟨49, rfl, by decide⟩))), (.of (.str _) rfl)⟩⟩
    · exact ⟨.str (Str.ofString "END"), by decide +kernel, fun H2 ch => ⟨(.inr (.inl ⟨_, rfl, by decide, by decide⟩)), (.of (.str _) rfl)⟩⟩
    · exact ⟨.tuple [], by decide +kernel, fun H2 ch => ⟨(.inr (.inr (.inr (.inr (.inr (.inr (.inl ⟨_, _, rfl, (PT.sq ⟨_, (ch _ _ e1 d1 (fun _ z => by cases z)), f1⟩)⟩))))))), (.of (.tup (PT.sq ⟨_, (ch _ _ e1 d1 (fun _ z => by cases z)), f1⟩) .nil) rfl)⟩⟩
    · exact ⟨.tuple [.int 1], by decide +kernel, fun H2 ch => ⟨(.inr (.inr (.inr (.inr (.inr (.inr (.inl ⟨_, _, rfl, (PT.sq ⟨_, (ch _ _ e2 d2 (fun _ z => by cases z)), f2⟩)⟩))))))), (.of (.tup (PT.sq ⟨_, (ch _ _ e2 d2 (fun _ z => by cases z)), f2⟩) (.cons (.int _) .nil)) rfl)⟩⟩
    · exact ⟨.tuple [.int 1, .int 2], by decide +kernel, fun H2 ch => ⟨(.inr (.inr (.inr (.inr (.inr (.inr (.inl ⟨_, _, rfl, (.inl (.inl (ch _ _ e3 d3 (fun _ z => by cases z))))⟩))))))), (.of (.tup (.inl (.inl (ch _ _ e3 d3 (fun _ z => by cases z)))) (.cons (.int _) (.cons (.int _) .nil))) rfl)⟩⟩
    · exact ⟨.tuple [.str (Str.ofString "x"), .int 1], by decide +kernel, fun H2 ch => ⟨(.inr (.inr (.inr (.inr (.inr (.inr (.inl ⟨_, _, rfl, (.inl (.inl (ch _ _ e4 d4 (fun _ z => by cases z))))⟩))))))), (.of (.tup (.inl (.inl (ch _ _ e4 d4 (fun _ z => by cases z)))) (.cons (.str _) (.cons (.int _) .nil))) rfl)⟩⟩
    · exact ⟨.list [], by decide +kernel, fun H2 ch => ⟨(.inr (.inr (.inr (.inr (.inr (.inr (.inr (.inl ⟨_, _, rfl, (ch _ _ e5 d5 (fun _ z => by cases z))⟩)))))))), (.of (.lst (.inl (.inl (ch _ _ e5 d5 (fun _ z => by cases z)))) .nil) rfl)⟩⟩
    · exact ⟨.list [.int 1, .int 2], by decide +kernel, fun H2 ch => ⟨(.inr (.inr (.inr (.inr (.inr (.inr (.inr (.inl ⟨_, _, rfl, (ch _ _ e6 d6 (fun _ z => by cases z))⟩)))))))), (.of (.lst (.inl (.inl (ch _ _ e6 d6 (fun _ z => by cases z)))) (.cons (.int _) (.cons (.int _) .nil))) rfl)⟩⟩
    · exact ⟨.list [.tuple [.int 1, .int 2]], by decide +kernel, fun H2 ch => ⟨(.inr (.inr (.inr (.inr (.inr (.inr (.inr (.inl ⟨_, _, rfl, (ch _ _ e8 d8 (fun _ z => by cases z))⟩)))))))), (.of (.lst (.inl (.inl (ch _ _ e8 d8 (fun _ z => by cases z)))) (.cons (.tup (.inl (.inl (ch _ _ e7 d7 (fun _ z => by cases z)))) (.cons (.int _) (.cons (.int _) .nil))) .nil)) rfl)⟩⟩
    · exact ⟨.dict [], by decide +kernel, fun H2 ch => ⟨(.inr (.inr (.inr (.inr (.inr (.inr (.inr (.inr ⟨_, _, rfl, (ch _ _ e9 d9 (fun _ z => by cases z))⟩)))))))), (.emp (ch _ _ e9 d9 (fun _ z => by cases z)))⟩⟩
    · exact ⟨.dict [(kD (.inr (Str.ofString "x")), .int 1)], by decide +kernel, fun H2 ch => ⟨(.inr (.inr (.inr (.inr (.inr (.inr (.inr (.inr ⟨_, _, rfl, (ch _ _ e10 d10 (fun _ z => by cases z))⟩)))))))), (.one (ch _ _ e10 d10 (fun _ z => by cases z)))⟩⟩
    · exact ⟨.tuple [.none], by decide +kernel, fun H2 ch => ⟨(.inr (.inr (.inr (.inr (.inr (.inr (.inl ⟨_, _, rfl, (PT.sq ⟨_, (ch _ _ e11 d11 (fun _ z => by cases z)), f11⟩)⟩))))))), (.of (.tup (PT.sq ⟨_, (ch _ _ e11 d11 (fun _ z => by cases z)), f11⟩) (.cons .non .nil)) rfl)⟩⟩
    · exact ⟨.tuple [.tuple [.int 1, .int 2], .int 3], by decide +kernel, fun H2 ch => ⟨(.inr (.inr (.inr (.inr (.inr (.inr (.inl ⟨_, _, rfl, (.inl (.inl (ch _ _ e13 d13 (fun _ z => by cases z))))⟩))))))), (.of (.tup (.inl (.inl (ch _ _ e13 d13 (fun _ z => by cases z)))) (.cons (.tup (.inl (.inl (ch _ _ e12 d12 (fun _ z => by cases z)))) (.cons (.int _) (.cons (.int _) .nil))) (.cons (.int _) .nil))) rfl)⟩⟩
    · exact ⟨.tuple [.list []], by decide +kernel, fun H2 ch => ⟨(.inr (.inr (.inr (.inr (.inr (.inr (.inl ⟨_, _, rfl, (PT.sq ⟨_, (ch _ _ e15 d15 (fun _ z => by cases z)), f15⟩)⟩))))))), (.of (.tup (PT.sq ⟨_, (ch _ _ e15 d15 (fun _ z => by cases z)), f15⟩) (.cons (.lst (.inl (.inl (ch _ _ e14 d14 (fun _ z => by cases z)))) .nil) .nil)) rfl)⟩⟩
end
end K1
namespace K1
open PySem PySem.Spec L2 Z K7
section
variable {P : Program} {w : World} {K : PySem.W.Frag} {mg : Str → Option Value} {base : Heap} {C CU : Addr}
theorem ok_way (T : Txt K mg C CU) (G_need_store : Pr P w K mg base "need_store" s_need_store 1 ["value"] (sp_need_store K C)) (G__followed : PrX P w K mg base "_followed" s_followed 4 ["store", "letter"] (q_followed K C CU)) : PrX P w K mg base "way" s_way 5 ["store", "letter"] (q_way K C CU) := by
  obtain ⟨f, fd, F, gl, bd⟩ := T.d_way
  refine ⟨f, fd, F, gl, bd, F.okX sc_way (fun vs H Q E h => ?_) (fun cdv A outer s H vs Q E hr h => ?_)⟩
  · obtain ⟨x, v, ns, cs, rfl, _⟩ := h
    rfl
  · obtain ⟨x, v0, ns, cs, rfl, hS, h⟩ := h
    have hu := hu_of hr
    refine ⟨_, (pss_cons (ps_expr (pcall G_need_store (hr.mono (by decide)) (pa_cons (pv 0) pa_nil)))
      (pss_cons (ps_asg (pcallX E G__followed (hr.mono (by decide)) (passes_call (takes_of rfl rfl rfl rfl) (fun _ _ _ _ h => h)) (pa_cons (pv 0) (pa_cons (pv 1) pa_nil))) (pg_tup rfl (pgs_cons (pg_name (i := 2) sc_way.nd rfl (Or.inl rfl)) (pgs_cons (pg_name (i := 3) sc_way.nd rfl (Or.inl rfl)) pgs_nil))))
      (pss_one (ps_ret (pe_callTy call_tupP (by rfl) T.b_tuple (by decide +kernel) (pa_cons (pv 2) pa_nil)))))), ?_⟩
    rcases h with ⟨p, hm, rfl, k⟩ | ⟨nn, bad⟩
    · refine ⟨_, rfl, x, ns, cs, rfl, hS, ?_⟩
      refine ⟨_, rfl, _, rfl, x, _, ns, cs, rfl, hS, .inl ⟨p, hm, rfl, fun H1 t l s1 hl ht hk => ?_⟩⟩
      refine ⟨t, _, rfl, .inl (.inl ht), rfl, _, _, rfl, _, _, rfl, rfl, ?_⟩
      refine ⟨_, rfl, l, _, rfl, .inl (.inl hk), fun q o hq ho => ?_⟩
      exact k _ q (s1.trans (same_new hq)) (PT.new ho)
    · refine ⟨_, rfl, x, ns, cs, rfl, hS, ?_⟩
      exact ⟨_, rfl, _, rfl, x, _, ns, cs, rfl, hS, .inr ⟨nn, bad⟩⟩
end
end K1
namespace K1
open PySem PySem.Spec L2 Z K7
section
variable {P : Program} {w : World} {K : PySem.W.Frag} {mg : Str → Option Value} {base : Heap} {C CU : Addr}
theorem ok_way_end (T : Txt K mg C CU) (G_need_store : Pr P w K mg base "need_store" s_need_store 1 ["value"] (sp_need_store K C)) (G__followed : PrX P w K mg base "_followed" s_followed 4 ["store", "letter"] (q_followed K C CU)) : PrX P w K mg base "way_end" s_way_end 5 ["store", "letter"] (q_way_end K C CU) := by
  obtain ⟨f, fd, F, gl, bd⟩ := T.d_way_end
  refine ⟨f, fd, F, gl, bd, F.okX sc_way_end (fun vs H Q E h => ?_) (fun cdv A outer s H vs Q E hr h => ?_)⟩
  · obtain ⟨x, v, ns, cs, rfl, _⟩ := h
    rfl
  · obtain ⟨x, v0, ns, cs, rfl, hS, h⟩ := h
    have hu := hu_of hr
    refine ⟨_, (pss_cons (ps_expr (pcall G_need_store (hr.mono (by decide)) (pa_cons (pv 0) pa_nil)))
      (pss_cons (ps_asg (pcallX E G__followed (hr.mono (by decide)) (passes_call (takes_of rfl rfl rfl rfl) (fun _ _ _ _ h => h)) (pa_cons (pv 0) (pa_cons (pv 1) pa_nil))) (pg_tup rfl (pgs_cons (pg_name (i := 2) sc_way_end.nd rfl (Or.inl rfl)) (pgs_cons (pg_name (i := 3) sc_way_end.nd rfl (Or.inl rfl)) pgs_nil))))
      (pss_one (ps_ret (pv 3))))), ?_⟩
    rcases h with ⟨p, hm, rfl, k⟩ | ⟨nn, bad⟩
    · refine ⟨_, rfl, x, ns, cs, rfl, hS, ?_⟩
      refine ⟨_, rfl, _, rfl, x, _, ns, cs, rfl, hS, .inl ⟨p, hm, rfl, fun H1 t l s1 hl ht hk => ?_⟩⟩
      refine ⟨t, _, rfl, .inl (.inl ht), rfl, _, _, rfl, _, _, rfl, rfl, ?_⟩
      exact ⟨_, rfl, k _ s1⟩
    · refine ⟨_, rfl, x, ns, cs, rfl, hS, ?_⟩
      exact ⟨_, rfl, _, rfl, x, _, ns, cs, rfl, hS, .inr ⟨nn, bad⟩⟩
end
end K1
namespace K1
open PySem PySem.Spec L2 Z K7
section
variable {P : Program} {w : World} {K : PySem.W.Frag} {mg : Str → Option Value} {base : Heap} {C CU : Addr}
theorem ok_tail_and_ring (T : Txt K mg C CU) (G_need_store : Pr P w K mg base "need_store" s_need_store 1 ["value"] (sp_need_store K C)) (G__followed : PrX P w K mg base "_followed" s_followed 4 ["store", "letter"] (q_followed K C CU)) : PrX P w K mg base "tail_and_ring" s_tail_and_ring 5 ["store", "letter"] (q_tail K C CU) := by
  obtain ⟨f, fd, F, gl, bd⟩ := T.d_tail_and_ring
  refine ⟨f, fd, F, gl, bd, F.okX sc_tail_and_ring (fun vs H Q E h => ?_) (fun cdv A outer s H vs Q E hr h => ?_)⟩
  · obtain ⟨x, v, ns, cs, rfl, _⟩ := h
    rfl
  · obtain ⟨x, v0, ns, cs, rfl, hS, h⟩ := h
    have hu := hu_of hr
    refine ⟨_, (pss_cons (ps_expr (pcall G_need_store (hr.mono (by decide)) (pa_cons (pv 0) pa_nil)))
      (pss_cons (ps_asg (pcallX E G__followed (hr.mono (by decide)) (passes_call (takes_of rfl rfl rfl rfl) (fun _ _ _ _ h => h)) (pa_cons (pv 0) (pa_cons (pv 1) pa_nil))) (pg_tup rfl (pgs_cons (pg_name (i := 2) sc_tail_and_ring.nd rfl (Or.inl rfl)) (pgs_cons (pg_name (i := 3) sc_tail_and_ring.nd rfl (Or.inl rfl)) pgs_nil))))
      (pss_cons (ps_if (pt_cmp (pc_dnotin hu (pv 3) (pe_fld (pv 0) rfl))) (pss_one (ps_ret pe_non)) pss_nil)
      (pss_cons (ps_set (i := 4) sc_tail_and_ring.nd rfl (Or.inl rfl) (pe_bm PySem.F.plainAttrs_list PySem.F.slot_list_index PySem.F.type_list_index mt_index (pv 2) (pa_cons (pv 3) pa_nil)))
      (pss_one (ps_ret (pe_tup (pa_cons (pv 4) (pa_cons (pe_op op_sub (pe_callB call_len_seq (by rfl) T.b_len (by decide +kernel) (pa_cons (pv 2) pa_nil)) (pv 4)) pa_nil))))))))), ?_⟩
    rcases h with ⟨p, hm, rfl, k⟩ | ⟨nn, bad⟩
    · refine ⟨_, rfl, x, ns, cs, rfl, hS, ?_⟩
      refine ⟨_, rfl, _, rfl, x, _, ns, cs, rfl, hS, .inl ⟨p, hm, rfl, fun H1 t l s1 hl ht hk => ?_⟩⟩
      refine ⟨t, _, rfl, .inl (.inl ht), rfl, _, _, rfl, _, _, rfl, rfl, ?_⟩
      obtain ⟨v, u, dx, pd, ad, ld, ks, S⟩ := hS
      refine ⟨_, rfl, _, rfl, x, C, dx, _, _, rfl, s1 _ _ S.ob, T.cl, T.n_arrows, rfl, ad, _, rfl, DGet.k (k := (Sum.inl (along cs p.2).2 : Key)) (s1 _ _ S.ad_), _, rfl, ?_⟩
      rw [some_c]
      by_cases hc : isC cs (along cs p.2).2 = true
      · rw [hc]
        refine iteF ?_
        have hin : (along cs p.2).2 ∈ (along cs p.2).1 := by
          rcases (along_stop cs p.2).1 with z | z
          · rw [hc] at z
            cases z
          · exact z
        obtain ⟨i1, i2, i3⟩ := index_ok hin
        refine ⟨_, rfl, .inl ⟨rfl, _, .inl (.inl hk)⟩, _, rfl, l, _, _, _, _, rfl, rfl, .inl (.inl hk), rfl, flat_int _, i1, i2, i3, ?_⟩
        refine ⟨_, rfl, _, rfl, l, _, rfl, .inl (.inl (.inl hk)), _, rfl, _, _, rfl, rfl, by show 2 ≤ sizeLine; exact sl_le (by decide), fun t2 ht2 => ?_⟩
        have s2 := same_new (o := .tup [V.int (idx (along cs p.2).1 (along cs p.2).2 : Nat), V.int ((((along cs p.2).1.map V.int).length : Int) - (idx (along cs p.2).1 (along cs p.2).2 : Nat))]) ht2
        refine (k _ (s1.trans s2)).2 _ _ ?_ t2 (none_of s1 ht2) (by rw [upd_same, List.length_map])
        unfold partsV
        rw [if_pos hc]
      · have hc' : isC cs (along cs p.2).2 = false := by simpa using hc
        rw [hc']
        refine iteT ((k H1 s1).1 ?_)
        unfold partsV
        rw [if_neg hc]
    · refine ⟨_, rfl, x, ns, cs, rfl, hS, ?_⟩
      exact ⟨_, rfl, _, rfl, x, _, ns, cs, rfl, hS, .inr ⟨nn, bad⟩⟩
end
end K1
namespace K1
open PySem PySem.Spec L2 Z K7 LamX
theorem any_eqv {K : PySem.W.Frag} {H : Hp} {v : V} {d : PyData} (ws : List Str) (h : Dp K H v d) : (ws.any fun z => PyData.eqv (.str z) d) = ws.any fun z => decide (v = .str z) := by
  congr 1
  funext z
  cases h <;> simp [PyData.eqv]
  rename_i x
  by_cases e : z = x
  · simp [e]
  · simp [e, Ne.symm e]
theorem ok_ch : ∀ c : Nat, 97 ≤ c → c ≤ 122 → PyData.strOk (ch c) = true := by
  intro c h1 h2
  have : ∀ k : Fin 26, PyData.strOk (ch (97 + k.val)) = true := by decide +kernel
  have := this ⟨c - 97, by omega⟩
  rwa [show 97 + (c - 97) = c from by omega] at this
theorem in_odd {K : PySem.W.Frag} {H : Hp} {L : Addr} {v : V} {d : PyData} {ns : List (Nat × Int)} {R : VK} (ok : ∀ p ∈ ns, 97 ≤ p.1 ∧ p.1 ≤ 122) (hl : H L = some (.lst (ns.map fun p => V.str (ch p.1)))) (sh : Sh K H v d) (okd : OddOk d = true)
    (k : R (.bl (ns.any fun p => decide (v = .str (ch p.1)))) H) : rInT K v (.ref L) H R := by
  have e : (ns.map fun p => V.str (ch p.1)) = (ns.map fun p => ch p.1).map V.str := by rw [List.map_map]; rfl
  refine ⟨L, ns.map fun p => ch p.1, rfl, .inl (.inl (by rw [← e]; exact hl)), fun z hz => ?_, ?_⟩
  · obtain ⟨p, hp, rfl⟩ := List.mem_map.mp hz
    exact ok_ch _ (ok p hp).1 (ok p hp).2
  · have dictF : ∀ a : Addr, v = .ref a → (ns.any fun p => decide (v = .str (ch p.1))) = false := fun a e => by
      rw [e]
      simp
    unfold OddOk at okd
    simp only [Bool.and_eq_true, Bool.or_eq_true, decide_eq_true_eq] at okd
    cases sh with
    | of h nd =>
      refine .inl ⟨d, h, ?_, ?_⟩
      · rcases okd.2 with z | z
        · rw [nd] at z; cases z
        · exact z
      · rw [any_eqv _ h, List.any_map]
        exact k
    | emp h =>
      rw [dictF _ rfl] at k
      exact .inr ⟨_, _, rfl, h, k⟩
    | one h =>
      rw [dictF _ rfl] at k
      exact .inr ⟨_, _, rfl, h, k⟩
/-- the call let out that the name is none: what is told -/
theorem bad_tells {K : PySem.W.Frag} {CU : Addr} {v : V} {H : Hp} {d : PyData} {Q : VK} (hd : ∀ H', Same H H' → Sh K H' v d) (okd : OddOk d = true)
    (k : ∀ H' p, Same H H' → H' p = none → Q (.ref p) (upd H' p (.lst [.str (Str.ofString "name"), .str d.shown]))) :
    Bad CU "given" v H (fun cls dd H' => cls = .ref CU ∧ ∃ d2 v2, dd = some d2 ∧ H' d2 = some (.xd [(Str.ofString "given", v2)]) ∧ Tells K "name" v2 H' Q) := fun dd H' s n e => by
  unfold OddOk at okd
  simp only [Bool.and_eq_true, decide_eq_true_eq] at okd
  exact ⟨rfl, dd, v, rfl, e, Tells.intro (hd H' s) okd.1.1.1.2 okd.1.1.2 okd.1.2 fun p hp => k H' p s hp⟩
theorem tabs_chgL {H H' : Hp} {j P : Addr} {q : Str} {l : List V} (c : Chg j H H') (hj : H j = some (.lst l)) (t : TabS H P q) : TabS H' P q := by
  obtain ⟨ps, h1, h2, h3⟩ := t
  have n1 : P ≠ j := fun z => by
    rw [z, hj] at h1
    cases h1
  refine ⟨ps, c _ _ h1 n1, h2, fun pos cv hc => ?_⟩
  obtain ⟨a, e1, e2⟩ := h3 pos cv hc
  exact ⟨a, e1, c _ _ e2 fun z => by
    rw [z, hj] at e2
    cases e2⟩
/-- what stands while the calls are told -/
structure TW (K : PySem.W.Frag) (C : Addr) (H1 : Hp) (x : Addr) (ns : List (Nat × Int)) (cs : List (Int × Int)) (j Pt pd L pL : Addr) (D lets : List V) (es : List Addr) (H : Hp) : Prop where
  ch : ChT j H1 H
  jug : JugAt H j
  st : St K C H x ns cs
  tab : TabS H Pt QL
  due : H pd = some (.lst D)
  ll : H L = some (.lst lets)
  l : H pL = some (.lst (es.map V.ref))
  es : ∀ e ∈ es, H e = some (.lst D) ∧ e ≠ pL
  nj : pL ≠ j
  npd : pd ≠ pL
  nL : L ≠ pL
  new : ∀ o, H1 pL = some o → ¬ ∀ ps, o ≠ .tbl ps
theorem TW.step {K : PySem.W.Frag} {C x j Pt pd L pL p : Addr} {H1 H H7 H8 : Hp} {ns : List (Nat × Int)} {cs : List (Int × Int)} {D lets : List V} {es : List Addr} (t : TW K C H1 x ns cs j Pt pd L pL D lets es H) (x7 : ExtN H H7) (t7 : TabS H7 Pt QL) (s8 : Same H7 H8) (n8 : H8 p = none) :
    TW K C H1 x ns cs j Pt pd L pL D lets (es ++ [p]) (upd (upd H8 p (.lst D)) pL (.lst (es.map V.ref ++ [V.ref p]))) := by
  have xl : ∀ {b : Addr} {l : List V}, H b = some (.lst l) → H8 b = some (.lst l) := fun h => s8 _ _ (x7 _ _ h fun _ z => by cases z)
  have np : p ≠ pL := ne_of_none (xl t.l) n8 |>.symm
  have s9 := same_new (o := .lst D) n8
  have l9 := s9 _ _ (xl t.l)
  have c10 : Chg pL (upd H8 p (.lst D)) (upd (upd H8 p (.lst D)) pL (.lst (es.map V.ref ++ [V.ref p]))) := Chg.upd
  have j9 := jugS s9 (jugS s8 (jugN x7 t.jug))
  refine ⟨?_, jug_upd t.nj j9, St.chg c10 l9 (St.same s9 (St.same s8 (St.ext x7 t.st))), tabs_chgL c10 l9 ((t7.ext s8).ext s9), c10 _ _ (s9 _ _ (xl t.due)) t.npd, c10 _ _ (s9 _ _ (xl t.ll)) t.nL, by rw [upd_same, List.map_append]; rfl, fun e he => ?_, t.nj, t.npd, t.nL, t.new⟩
  · intro b o e n tb
    have hb : b ≠ pL := fun z => t.new o (z ▸ e) tb
    exact c10 _ _ (s9 _ _ (s8 _ _ (x7 _ _ (t.ch b o e n tb) tb))) hb
  · rcases List.mem_append.mp he with he | he
    · obtain ⟨h1, h2⟩ := t.es e he
      exact ⟨c10 _ _ (s9 _ _ (xl h1)) h2, h2⟩
    · cases List.mem_singleton.mp he
      exact ⟨c10 _ _ upd_same np, np⟩
theorem dp_same {K : PySem.W.Frag} {H : Hp} {a b : Str} : ∀ es : List Addr, (∀ e ∈ es, H e = some (.lst [.str a, .str b])) → DpAll K H (es.map V.ref) (es.map fun _ => PyData.list [.str a, .str b])
  | [], _ => .nil
  | e :: r, h => .cons (.lst (.inl (.inl (h e List.mem_cons_self))) (.cons (.str a) (.cons (.str b) .nil))) (dp_same r fun x hx => h x (List.mem_cons_of_mem _ hx))
theorem shaped_two {a b : Str} (ha : PyData.strOk a = true) (hb : PyData.strOk b = true) : SeqAt.shaped (.list [.str a, .str b]) = true := by
  simp [SeqAt.shaped, PyData.canLay0, PyData.canLayAll0, PyData.depth, PyData.depthAll, ha, hb]
theorem shaped_rep {a b : Str} (ha : PyData.strOk a = true) (hb : PyData.strOk b = true) : SeqAt.shaped (.list (List.replicate 6 (.list [.str a, .str b]))) = true := by
  simp [SeqAt.shaped, PyData.canLay0, PyData.canLayAll0, PyData.depth, PyData.depthAll, ha, hb, List.replicate]
theorem eqv_wt (a b : Str) : PyData.eqv (.list [.str a, .str b]) (.list [.str a, .str b]) = true := by
  simp [PyData.eqv, PyData.eqvAll]
theorem eqv_rep (a b : Str) : PyData.eqv (.list (List.replicate 6 (.list [.str a, .str b]))) (.list (List.replicate 6 (.list [.str a, .str b]))) = true := by
  simp [PyData.eqv, PyData.eqvAll, List.replicate]
theorem odd_ch : ∀ c : Nat, 97 ≤ c → c ≤ 122 → OddOk (.str (ch c)) = true := by
  intro c h1 h2
  have : ∀ k : Fin 26, OddOk (.str (ch (97 + k.val))) = true := by decide +kernel
  have := this ⟨c - 97, by omega⟩
  rwa [show 97 + (c - 97) = c from by omega] at this
section
variable {P : Program} {w : World} {K : PySem.W.Frag} {mg : Str → Option Value} {base : Heap} {C CU c Pt : Addr}
theorem ok_law_refusals_right (T : Txt K mg C CU) (G__law_odd : Pr P w K mg base "_law_odd" s_law_odd 3 ["_law_jug_here"] (q_odd K)) (G__law_one_of : Pr P w K mg base "_law_one_of" s_law_one_of 2 ["_law_jug_here", "_law_some"] q_one_of_s) (G_way : PrX P w K mg base "way" s_way 5 ["store", "letter"] (q_way K C CU)) (G_way_end : PrX P w K mg base "way_end" s_way_end 5 ["store", "letter"] (q_way_end K C CU)) (G_tail_and_ring : PrX P w K mg base "tail_and_ring" s_tail_and_ring 5 ["store", "letter"] (q_tail K C CU)) (G_first_common : PrX P w K mg base "first_common" s_first_common 5 ["store", "letter", "other"] (q_first_common K C CU)) {f : Addr} {fd : FuncData} (F : Fun K "_law_refusals_right" "_law_refusals_right" s_law_refusals_right f fd) (hc : fd.code = .ref c) (TB : TabB base mg c Pt) : FnG P w K mg base 12 f fd ["_law_jug_here", "_law_made", "_law_names"] (q_refusals K C Pt QL) := by
  refine okGC F hc sc_law_refusals_right (fun vs H Q E h => ?_) (fun A outer s H vs Q E hr hgd h => ?_)
  · obtain ⟨j, x, v, ns, cs, rfl, _⟩ := h
    rfl
  · obtain ⟨j, x, v, ns, cs, rfl, hj, hS, hv, hT, k⟩ := h
    have hu := hu_of hr
    refine ⟨_, (pss_cons (ps_asg (pe_tup (pa_cons (pcall G__law_odd (hr.mono (by decide)) (pa_cons (pv 0) pa_nil)) (pa_cons (pcall G__law_one_of (hr.mono (by decide)) (pa_cons (pv 0) (pa_cons pe_str pa_nil))) (pa_cons (pe_lc (own := [("_law_each", 9)]) (g := gName 9) (tt := tYes) rfl sc_law_refusals_right.nd (pi_tup (pv 2)) (blkOk_by (own := [("_law_each", 9)]) (N := N_law_refusals_right) (sc := defScope s_law_refusals_right) (by decide +kernel)) (fun _ _ _ _ _ => (pg_name (i := 9) sc_law_refusals_right.nd rfl (Or.inl rfl))) (fun _ _ _ _ _ => pts_nil) (fun _ _ _ _ _ => (pe_ix (ix_tupK (K := K) rfl) (pv 9) pe_int (fun _ _ => rfl)))) pa_nil)))) (pg_tup rfl (pgs_cons (pg_name (i := 3) sc_law_refusals_right.nd rfl (Or.inr rfl)) (pgs_cons (pg_name (i := 4) sc_law_refusals_right.nd rfl (Or.inr rfl)) (pgs_cons (pg_name (i := 5) sc_law_refusals_right.nd rfl (Or.inl rfl)) pgs_nil)))))
      (pss_cons (ps_if (pt_cmpR (op_inTK (K := K) rfl (by have h := hr.un; show (Around.deeper A _).units + 65 < cLine; omega)) (pv 3) (pv 5) (by rfl)) (pss_one (ps_ret pe_bl)) pss_nil)
      (pss_cons (ps_asg (pe_tup (pa_cons (pe_lst (pa_cons pe_str (pa_cons (pe_callB (call_show hgd hr.units) (by rfl) T.b_repr (by decide +kernel) (pa_cons (pv 3) pa_nil)) pa_nil))) (pa_cons (pe_ix ix_list (pv 5) pe_int (fun _ _ => rfl)) pa_nil))) (pg_tup rfl (pgs_cons (pg_name (i := 6) sc_law_refusals_right.nd rfl (Or.inl rfl)) (pgs_cons (pg_name (i := 7) sc_law_refusals_right.nd rfl (Or.inr rfl)) pgs_nil))))
      (pss_cons (ps_set (i := 8) sc_law_refusals_right.nd rfl (Or.inl rfl) (pe_lst (pa_cons (tell (k := 9) T TB rfl rfl hgd (by have h := hr.un; show (Around.deeper A _).units + 80 < cLine; omega) (hr.mono (by decide)) (fun A2 o2 s2 H2 E2 f2 c2 hr2 => (pcallX E2 G_way (hr2.mono (by decide)) (passes_call (takes_of rfl rfl rfl rfl) (fun _ _ _ _ h => h)) (pa_cons (pv 1) (pa_cons (pv 3) pa_nil)))) (LamX.lamS_by (sc := defScope s_law_refusals_right) (by decide +kernel))) pa_nil)))
      (pss_cons (ps_expr (pe_bm PySem.F.plainAttrs_list PySem.F.slot_list_append PySem.F.type_list_append mt_append (pv 8) (pa_cons (tell (k := 9) T TB rfl rfl hgd (by have h := hr.un; show (Around.deeper A _).units + 80 < cLine; omega) (hr.mono (by decide)) (fun A2 o2 s2 H2 E2 f2 c2 hr2 => (pcallX E2 G_way_end (hr2.mono (by decide)) (passes_call (takes_of rfl rfl rfl rfl) (fun _ _ _ _ h => h)) (pa_cons (pv 1) (pa_cons (pv 3) pa_nil)))) (LamX.lamS_by (sc := defScope s_law_refusals_right) (by decide +kernel))) pa_nil)))
      (pss_cons (ps_expr (pe_bm PySem.F.plainAttrs_list PySem.F.slot_list_append PySem.F.type_list_append mt_append (pv 8) (pa_cons (tell (k := 9) T TB rfl rfl hgd (by have h := hr.un; show (Around.deeper A _).units + 80 < cLine; omega) (hr.mono (by decide)) (fun A2 o2 s2 H2 E2 f2 c2 hr2 => (pcallX E2 G_tail_and_ring (hr2.mono (by decide)) (passes_call (takes_of rfl rfl rfl rfl) (fun _ _ _ _ h => h)) (pa_cons (pv 1) (pa_cons (pv 3) pa_nil)))) (LamX.lamS_by (sc := defScope s_law_refusals_right) (by decide +kernel))) pa_nil)))
      (pss_cons (ps_expr (pe_bm PySem.F.plainAttrs_list PySem.F.slot_list_append PySem.F.type_list_append mt_append (pv 8) (pa_cons (tell (k := 9) T TB rfl rfl hgd (by have h := hr.un; show (Around.deeper A _).units + 80 < cLine; omega) (hr.mono (by decide)) (fun A2 o2 s2 H2 E2 f2 c2 hr2 => (pcallX E2 G_first_common (hr2.mono (by decide)) (passes_call (takes_of rfl rfl rfl rfl) (fun _ _ _ _ h => h)) (pa_cons (pv 1) (pa_cons (pv 7) (pa_cons (pv 3) pa_nil))))) (LamX.lamS_by (sc := defScope s_law_refusals_right) (by decide +kernel))) pa_nil)))
      (pss_cons (ps_expr (pe_bm PySem.F.plainAttrs_list PySem.F.slot_list_append PySem.F.type_list_append mt_append (pv 8) (pa_cons (tell (k := 9) T TB rfl rfl hgd (by have h := hr.un; show (Around.deeper A _).units + 80 < cLine; omega) (hr.mono (by decide)) (fun A2 o2 s2 H2 E2 f2 c2 hr2 => (pcallX E2 G_first_common (hr2.mono (by decide)) (passes_call (takes_of rfl rfl rfl rfl) (fun _ _ _ _ h => h)) (pa_cons (pv 1) (pa_cons (pv 3) (pa_cons (pv 7) pa_nil))))) (LamX.lamS_by (sc := defScope s_law_refusals_right) (by decide +kernel))) pa_nil)))
      (pss_cons (ps_expr (pe_bm PySem.F.plainAttrs_list PySem.F.slot_list_append PySem.F.type_list_append mt_append (pv 8) (pa_cons (tell (k := 9) T TB rfl rfl hgd (by have h := hr.un; show (Around.deeper A _).units + 80 < cLine; omega) (hr.mono (by decide)) (fun A2 o2 s2 H2 E2 f2 c2 hr2 => (pcallX E2 G_first_common (hr2.mono (by decide)) (passes_call (takes_of rfl rfl rfl rfl) (fun _ _ _ _ h => h)) (pa_cons (pv 1) (pa_cons (pv 3) (pa_cons (pv 4) pa_nil))))) (LamX.lamS_by (sc := defScope s_law_refusals_right) (by decide +kernel))) pa_nil)))
      (pss_cons (ps_if (pt_cmpR (op_neD hr.units) (pv 8) (pe_op op_rep (pe_lst (pa_cons (pv 6) pa_nil)) pe_int) (nomark _)) (pss_one (ps_ret pe_bl)) pss_nil)
      (pss_one (ps_ret (pe_or (pe_cmpR (op_inTK (K := K) rfl (by have h := hr.un; show (Around.deeper A _).units + 65 < cLine; omega)) (pv 4) (pv 5) (by rfl)) (pe_one (pe_cmpR (op_eqD hr.units) (tell (k := 9) T TB rfl rfl hgd (by have h := hr.un; show (Around.deeper A _).units + 80 < cLine; omega) (hr.mono (by decide)) (fun A2 o2 s2 H2 E2 f2 c2 hr2 => (pcallX E2 G_first_common (hr2.mono (by decide)) (passes_call (takes_of rfl rfl rfl rfl) (fun _ _ _ _ h => h)) (pa_cons (pv 1) (pa_cons (pv 4) (pa_cons (pv 3) pa_nil))))) (LamX.lamS_by (sc := defScope s_law_refusals_right) (by decide +kernel))) (pe_lst (pa_cons pe_str (pa_cons (pe_callB (call_show hgd hr.units) (by rfl) T.b_repr (by decide +kernel) (pa_cons (pv 4) pa_nil)) pa_nil))) (nomark _)))))))))))))))), ?_⟩
    obtain ⟨a0, rs, rfl, ht, hp⟩ := hv
    obtain ⟨ok, ck⟩ : NOk ns ∧ COk cs := by
      obtain ⟨v, u, dx, pd, ad, ld, ks, S⟩ := hS
      exact ⟨S.nok, S.cok⟩
    have l4 := ok.four
    refine ⟨_, rfl, j, rfl, hj, fun H1 t1 cg1 hj1 hd => ?_⟩
    obtain ⟨d, okd, hd⟩ := hd
    refine ⟨_, rfl, j, rfl, hj1, fun H2 c2 cg2 hj2 c97 c122 => ?_⟩
    have cg12 := cg1.trans cg2
    have i2 : Imm H H2 := chg_imm cg12 hj
    refine lcP nV (fun p => V.str (ch p.1)) rfl (PT.imm i2 ht) (Paired.imm i2 hp) (by omega) (fun b p H4 R sm hq hm hR => ?_) (fun H3 L s3 hL hl3 => ?_)
    · exact ⟨rfl, _, rfl, b, _, 0, _, rfl, rfl, hq, at_first, hR⟩
    refine ⟨by show 3 ≤ sizeLine; exact (by decide +kernel), fun p3 n3 => ?_⟩
    refine ⟨p3, _, rfl, .inl (.inl upd_same), rfl, _, _, rfl, _, _, rfl, _, _, rfl, rfl, ?_⟩
    have s4 := same_new (o := .tup [t1, V.str (ch c2), V.ref L]) n3
    generalize upd H3 p3 (.tup [t1, V.str (ch c2), V.ref L]) = H4 at s4
    have s24 := s3.trans s4
    have hl4 := s4 _ _ hl3
    have j4 : JugAt H4 j := jugS s24 hj2
    have ch4 : ChT j H1 H4 := (ChT.of cg2).trans (ChT.of (Chg.of s24))
    have hSj : St K C H4 x ns cs := St.same s24 (St.cj cg12 hj hS)
    have hT4 : TabS H4 Pt QL := (tabs_chg cg12 hj hT).ext s24
    have ch04 : ChT j H H4 := (ChT.of cg1).trans ch4
    refine ⟨_, rfl, _, rfl, in_odd ok.let_ hl4 (hd H4 ch4).2 okd ?_⟩
    refine ⟨_, rfl, ?_⟩
    cases hb : ns.any (fun p => decide (t1 = .str (ch p.1))) with
    | true => exact k H4 ch04 j4 hT4
    | false =>
      have nn : ∀ H', ChT j H1 H' → NoName K H' t1 ns := fun H' c => by
        rcases (hd H' c).1 with e | e
        · refine .inl ⟨120, e, by decide, by decide, fun hm => ?_⟩
          obtain ⟨p, hp, e2⟩ := List.mem_map.mp hm
          have := List.any_eq_false.mp hb p hp
          rw [e, e2] at this
          simp at this
        · exact .inr e
      have okd2 := okd
      unfold OddOk at okd2
      simp only [Bool.and_eq_true, decide_eq_true_eq] at okd2
      obtain ⟨q0, r0, e0⟩ : ∃ q r, ns = q :: r := by
        cases ns with
        | nil => exact absurd ok.one (by simp)
        | cons q r => exact ⟨q, r, rfl⟩
      have hq0 : q0 ∈ ns := by rw [e0]; exact List.mem_cons_self
      have hl5 : H4 L = some (.lst (V.str (ch q0.1) :: r0.map fun p => V.str (ch p.1))) := by rw [hl4, e0]; rfl
      refine ⟨_, rfl, t1, d, rfl, (hd H4 ch4).2, okd2.1.1.1.2, okd2.1.1.2, okd2.1.2, by show 2 ≤ sizeLine; exact (by decide +kernel), fun pd nd => ?_⟩
      have s5 := same_new (o := .lst [.str (Str.ofString "name"), .str d.shown]) nd
      have ed : (upd H4 pd (.lst [.str (Str.ofString "name"), .str d.shown])) pd = some (.lst [.str (Str.ofString "name"), .str d.shown]) := upd_same
      generalize upd H4 pd (.lst [.str (Str.ofString "name"), .str d.shown]) = H5 at s5 ed
      refine ⟨_, rfl, L, _, 0, _, rfl, rfl, .inl (.inl (s5 _ _ hl5)), at_first, by show 2 ≤ sizeLine; exact (by decide +kernel), fun p6 n6 => ?_⟩
      refine ⟨p6, _, rfl, .inl (.inl upd_same), rfl, _, _, rfl, _, _, rfl, rfl, ?_⟩
      have s6 := same_new (o := .tup [V.ref pd, .str (ch q0.1)]) n6
      generalize upd H5 p6 (.tup [V.ref pd, .str (ch q0.1)]) = H6 at s6
      have ed6 := s6 _ _ ed
      have s46 : Same H4 H6 := s5.trans s6
      have j6 : JugAt H6 j := jugS s46 j4
      have hS6 : St K C H6 x ns cs := St.same s46 hSj
      have hT6 : TabS H6 Pt QL := hT4.ext s46
      have ch6 : ChT j H1 H6 := ch4.trans (ChT.of (Chg.of s46))
      have T1 : ∀ {Hx : Hp}, TabS Hx Pt QL → Tabs [(Pt, QL)] Hx := fun h p hp => by
        rw [List.mem_singleton.mp hp]
        exact h
      have T2 : ∀ {Hx : Hp}, Tabs [(Pt, QL)] Hx → TabS Hx Pt QL := fun h => h (Pt, QL) List.mem_cons_self
      refine ⟨T1 hT6, fun H7 x7 t7 => ?_⟩
      have hS7 := St.ext x7 hS6
      have ch7 := ch6.trans (ChT.ext x7)
      refine ⟨_, rfl, _, rfl, x, t1, ns, cs, rfl, hS7, .inr ⟨nn H7 ch7, bad_tells (fun H' s => (hd H' (ch7.trans (ChT.of (Chg.of s)))).2) okd fun H8 p8 s8 n8 => ?_⟩⟩
      refine ⟨by show 1 ≤ sizeLine; exact (by decide +kernel), fun pL nL => ?_⟩
      have s9 := same_new (o := .lst [.str (Str.ofString "name"), .str d.shown]) n8
      have s9L := same_new (o := .lst [V.ref p8]) nL
      have tw1 : TW K C H1 x ns cs j Pt pd L pL [.str (Str.ofString "name"), .str d.shown] (V.str (ch q0.1) :: r0.map fun p => V.str (ch p.1)) [p8] (upd (upd H8 p8 (.lst [.str (Str.ofString "name"), .str d.shown])) pL (.lst [V.ref p8])) := by
        have n9 : H8 pL = none := by
          cases e : H8 pL with
          | none => rfl
          | some o => rw [s9 _ _ e] at nL; cases nL
        have ch8 : ChT j H1 H8 := ch7.trans (ChT.of (Chg.of s8))
        have old : ∀ {b : Addr} {l : List V}, H6 b = some (.lst l) → H8 b = some (.lst l) := fun h => s8 _ _ (x7 _ _ h fun _ z => by cases z)
        have j8 := jugS s8 (jugN x7 j6)
        refine ⟨ch8.trans (ChT.of (Chg.of (s9.trans s9L))), jugS s9L (jugS s9 j8), St.same s9L (St.same s9 (St.same s8 hS7)), (((T2 t7).ext s8).ext s9).ext s9L, s9L _ _ (s9 _ _ (old ed6)), s9L _ _ (s9 _ _ (old (s6 _ _ (s5 _ _ hl5)))), upd_same, fun e he => ?_, j8.ne n9, ne_of_none (old ed6) n9, ne_of_none (old (s6 _ _ (s5 _ _ hl5))) n9, ?_⟩
        · cases List.mem_singleton.mp he
          exact ⟨s9L _ _ upd_same, ne_of_none upd_same nL⟩
        · intro o e nt
          have := ch8 pL o e (j8.ne n9) nt
          rw [n9] at this
          cases this
      generalize (upd (upd H8 p8 (.lst [.str (Str.ofString "name"), .str d.shown])) pL (.lst [V.ref p8])) = H10 at tw1
      have go : ∀ {Hy : Hp} {es : List Addr}, TW K C H1 x ns cs j Pt pd L pL [.str (Str.ofString "name"), .str d.shown] (V.str (ch q0.1) :: r0.map fun p => V.str (ch p.1)) es Hy → es.length ≤ 10 → ∀ {Hz : Hp}, ExtN Hy Hz → Tabs [(Pt, QL)] Hz → ∀ {G : VK},
          (∀ H8 p, Same Hz H8 → H8 p = none → (upd H8 p (.lst [.str (Str.ofString "name"), .str d.shown])) pL = some (.lst (es.map V.ref)) → (es.map V.ref).length < sizeLine → TW K C H1 x ns cs j Pt pd L pL [.str (Str.ofString "name"), .str d.shown] (V.str (ch q0.1) :: r0.map fun p => V.str (ch p.1)) (es ++ [p]) (upd (upd H8 p (.lst [.str (Str.ofString "name"), .str d.shown])) pL (.lst (es.map V.ref ++ [V.ref p]))) → G (.ref p) (upd H8 p (.lst [.str (Str.ofString "name"), .str d.shown]))) →
          St K C Hz x ns cs ∧ NoName K Hz t1 ns ∧ Bad CU "given" t1 Hz (fun cls dd H' => cls = .ref CU ∧ ∃ d2 v2, dd = some d2 ∧ H' d2 = some (.xd [(Str.ofString "given", v2)]) ∧ Tells K "name" v2 H' G) := by
        intro Hy es tw he Hz xz tz G kG
        have chz := tw.ch.trans (ChT.ext xz)
        refine ⟨St.ext xz tw.st, nn Hz chz, bad_tells (fun H' s => (hd H' (chz.trans (ChT.of (Chg.of s)))).2) okd fun H8 p s8 n8 => ?_⟩
        have l8 : H8 pL = some (.lst (es.map V.ref)) := s8 _ _ (xz _ _ tw.l fun _ z => by cases z)
        refine kG H8 p s8 n8 ?_ ?_ (tw.step xz (T2 tz) s8 n8)
        · rw [upd_ne (ne_of_none l8 n8)]
          exact l8
        · rw [List.length_map]
          exact Nat.lt_of_le_of_lt he (by decide +kernel)
      refine ⟨_, rfl, .inl ⟨rfl, _, .inl (.inl tw1.l)⟩, T1 tw1.tab, fun Hy20 x20 t20 => ?_⟩
      have gw20 := go (G := fun _ _ => True) tw1 (by simp) x20 t20 (fun _ _ _ _ _ _ _ => trivial)
      refine ⟨_, rfl, _, rfl, x, t1, ns, cs, rfl, gw20.1, .inr ⟨gw20.2.1, ?_⟩⟩
      refine (go tw1 (by simp) x20 t20 (fun Hq20 q20 sq20 nq20 lq20 zq20 tw20 => ⟨pL, _, _, rfl, rfl, lq20, zq20, ?_⟩)).2.2
      generalize upd (upd Hq20 q20 _) pL _ = Hw20 at tw20 ⊢
      refine ⟨_, rfl, .inl ⟨rfl, _, .inl (.inl tw20.l)⟩, T1 tw20.tab, fun Hy21 x21 t21 => ?_⟩
      have gw21 := go (G := fun _ _ => True) tw20 (by simp) x21 t21 (fun _ _ _ _ _ _ _ => trivial)
      refine ⟨_, rfl, _, rfl, x, t1, ns, cs, rfl, gw21.1, .inr ⟨gw21.2.1, ?_⟩⟩
      refine (go tw20 (by simp) x21 t21 (fun Hq21 q21 sq21 nq21 lq21 zq21 tw21 => ⟨pL, _, _, rfl, rfl, lq21, zq21, ?_⟩)).2.2
      generalize upd (upd Hq21 q21 _) pL _ = Hw21 at tw21 ⊢
      refine ⟨_, rfl, .inl ⟨rfl, _, .inl (.inl tw21.l)⟩, T1 tw21.tab, fun Hy22 x22 t22 => ?_⟩
      have gw22 := go (G := fun _ _ => True) tw21 (by simp) x22 t22 (fun _ _ _ _ _ _ _ => trivial)
      refine ⟨_, rfl, _, rfl, _, rfl, x, _, t1, ns, cs, rfl, gw22.1, .inl ⟨q0, hq0, rfl, .inr ⟨gw22.2.1, ?_⟩⟩⟩
      refine (go tw21 (by simp) x22 t22 (fun Hq22 q22 sq22 nq22 lq22 zq22 tw22 => ⟨pL, _, _, rfl, rfl, lq22, zq22, ?_⟩)).2.2
      generalize upd (upd Hq22 q22 _) pL _ = Hw22 at tw22 ⊢
      refine ⟨_, rfl, .inl ⟨rfl, _, .inl (.inl tw22.l)⟩, T1 tw22.tab, fun Hy23 x23 t23 => ?_⟩
      have gw23 := go (G := fun _ _ => True) tw22 (by simp) x23 t23 (fun _ _ _ _ _ _ _ => trivial)
      refine ⟨_, rfl, _, rfl, _, rfl, x, t1, _, ns, cs, rfl, gw23.1, .inr ⟨gw23.2.1, ?_⟩⟩
      refine (go tw22 (by simp) x23 t23 (fun Hq23 q23 sq23 nq23 lq23 zq23 tw23 => ⟨pL, _, _, rfl, rfl, lq23, zq23, ?_⟩)).2.2
      generalize upd (upd Hq23 q23 _) pL _ = Hw23 at tw23 ⊢
      refine ⟨_, rfl, .inl ⟨rfl, _, .inl (.inl tw23.l)⟩, T1 tw23.tab, fun Hy24 x24 t24 => ?_⟩
      have gw24 := go (G := fun _ _ => True) tw23 (by simp) x24 t24 (fun _ _ _ _ _ _ _ => trivial)
      refine ⟨_, rfl, _, rfl, _, rfl, x, t1, _, ns, cs, rfl, gw24.1, .inr ⟨gw24.2.1, ?_⟩⟩
      refine (go tw23 (by simp) x24 t24 (fun Hq24 q24 sq24 nq24 lq24 zq24 tw24 => ⟨pL, _, _, rfl, rfl, lq24, zq24, ?_⟩)).2.2
      generalize upd (upd Hq24 q24 _) pL _ = Hw24 at tw24 ⊢
      have okN : PyData.strOk (Str.ofString "name") = true := by decide +kernel
      refine ⟨_, rfl, _, rfl, by show 1 ≤ sizeLine; exact (by decide +kernel), fun pr nr => ⟨pr, 6, _, rfl, rfl, upd_same, by decide, by decide, by show 6 ≤ sizeLine; exact (by decide +kernel), fun p2 n2 => ?_⟩⟩
      have sA := (same_new (o := .lst [V.ref pd]) nr).trans (same_new (o := .lst (List.replicate (Int.toNat 6) [V.ref pd]).flatten) n2)
      have eR : (upd (upd Hw24 pr (.lst [V.ref pd])) p2 (.lst (List.replicate (Int.toNat 6) [V.ref pd]).flatten)) p2 = some (.lst (List.replicate (Int.toNat 6) [V.ref pd]).flatten) := upd_same
      generalize (upd (upd Hw24 pr (.lst [V.ref pd])) p2 (.lst (List.replicate (Int.toNat 6) [V.ref pd]).flatten)) = HR at sA eR ⊢
      refine ⟨.list (List.replicate 6 (.list [.str (Str.ofString "name"), .str d.shown])), .list (List.replicate 6 (.list [.str (Str.ofString "name"), .str d.shown])), .lst (.inl (.inl (sA _ _ tw24.l))) (dp_same _ fun e he => sA _ _ (tw24.es e he).1), .lst (.inl (.inl eR)) (dp_same [pd, pd, pd, pd, pd, pd] fun e he => ?_), shaped_rep okN okd2.1.1.1.1, shaped_rep okN okd2.1.1.1.1, ?_⟩
      · have : e = pd := by simpa using he
        rw [this]
        exact sA _ _ tw24.due
      rw [eqv_rep]
      refine ⟨_, rfl, ?_⟩
      show (if (!true) = true then _ else _)
      rw [if_neg (by decide)]
      have llR : HR L = some (.lst (ns.map fun p => V.str (ch p.1))) := by
        have := sA _ _ tw24.ll
        rw [this, e0]
        rfl
      have okm := odd_ch c2 c97 c122
      have chR : ChT j H HR := ((ChT.of cg1).trans tw24.ch).trans (ChT.of (Chg.of sA))
      have jR := jugS sA tw24.jug
      have tR := tw24.tab.ext sA
      refine ⟨_, rfl, _, rfl, in_odd ok.let_ llR (.of (.str (ch c2)) rfl) okm ?_⟩
      refine ⟨_, rfl, ?_⟩
      cases hm : ns.any (fun p => decide (V.str (ch c2) = .str (ch p.1))) with
      | true =>
        rw [if_pos rfl]
        exact k HR chR jR tR
      | false =>
        rw [if_neg (by decide)]
        refine ⟨T1 tR, fun HX xX tX => ?_⟩
        have nm : NoName K HX (.str (ch c2)) ns := by
          refine .inl ⟨c2, rfl, c97, c122, fun hmm => ?_⟩
          obtain ⟨p, hp, e2⟩ := List.mem_map.mp hmm
          have := List.any_eq_false.mp hm p hp
          rw [e2] at this
          simp at this
        refine ⟨_, rfl, _, rfl, _, rfl, x, _, t1, ns, cs, rfl, St.ext xX (St.same sA tw24.st), .inr ⟨nm, ?_⟩⟩
        refine bad_tells (d := .str (ch c2)) (fun H' s => .of (.str _) rfl) okm fun H8 p8 s8 n8 => ?_
        have okm2 := okm
        unfold OddOk at okm2
        simp only [Bool.and_eq_true, decide_eq_true_eq] at okm2
        refine ⟨_, rfl, .str (ch c2), .str (ch c2), rfl, .of (.str _) rfl, okm2.1.1.1.2, okm2.1.1.2, okm2.1.2, by show 2 ≤ sizeLine; exact (by decide +kernel), fun p9 n9 => ?_⟩
        have s9 := same_new (o := .lst [.str (Str.ofString "name"), .str (PyData.str (ch c2)).shown]) n9
        refine ⟨.list [.str (Str.ofString "name"), .str (PyData.str (ch c2)).shown], .list [.str (Str.ofString "name"), .str (PyData.str (ch c2)).shown], .lst (.inl (.inl (s9 _ _ upd_same))) (.cons (.str _) (.cons (.str _) .nil)), .lst (.inl (.inl upd_same)) (.cons (.str _) (.cons (.str _) .nil)), shaped_two okN okm2.1.1.1.1, shaped_two okN okm2.1.1.1.1, ?_⟩
        rw [eqv_wt]
        have s10 := (s8.trans (same_new (o := .lst [.str (Str.ofString "name"), .str (PyData.str (ch c2)).shown]) n8)).trans s9
        exact k _ (chR.trans ((ChT.ext xX).trans (ChT.of (Chg.of s10)))) (jugS s10 (jugN xX jR)) ((T2 tX).ext s10)
end
end K1
namespace K1
open PySem PySem.Spec L2 Z K7
section
variable {P : Program} {w : World} {K : PySem.W.Frag} {mg : Str → Option Value} {base : Heap} {C CU : Addr}
theorem ok_law_knots (T : Txt K mg C CU) (G__law_gone_along : Pr P w K mg base "_law_gone_along" s_law_gone_along 1 ["_law_arrows_here", "_law_place"] sp_law_gone_along) : Pr P w K mg base "_law_knots" s_law_knots 2 ["_law_names", "_law_arrows_here"] (sp_law_knots K) := by
  obtain ⟨f, fd, F, gl, bd⟩ := T.d__law_knots
  refine ⟨f, fd, F, gl, bd, F.ok sc_law_knots (fun vs H Q E h => ?_) (fun cdv A outer s H vs Q E hr h => ?_)⟩
  · obtain ⟨v, d, ns, cs, rfl, _⟩ := h
    rfl
  · obtain ⟨v, d, ns, cs, rfl, ⟨a0, rs, rfl, ht, hp⟩, hd, ok, c4, k⟩ := h
    have hu := hu_of hr
    refine ⟨_, (pss_cons (ps_asg (pe_tup (pa_cons (pe_lst pa_nil) (pa_cons pe_dnewK (pa_cons (pe_lst pa_nil) pa_nil)))) (pg_tup rfl (pgs_cons (pg_name (i := 2) sc_law_knots.nd rfl (Or.inr rfl)) (pgs_cons (pg_name (i := 3) sc_law_knots.nd rfl (Or.inl rfl)) (pgs_cons (pg_name (i := 4) sc_law_knots.nd rfl (Or.inl rfl)) pgs_nil)))))
      (pss_cons (ps_for PassesOwn.never rfl (pi_tup (pv 0)) (pg_tup rfl (pgs_cons (pg_name (i := 5) sc_law_knots.nd rfl (Or.inl rfl)) (pgs_cons (pg_name (i := 6) sc_law_knots.nd rfl (Or.inl rfl)) pgs_nil)))
      (pss_one (ps_set (i := 2) sc_law_knots.nd rfl (Or.inr rfl) (pe_op op_cat (pv 2) (pe_lc (own := [("_law_cell", 7)]) (g := gName 7) rfl sc_law_knots.nd (pi_list (pe_ix ix_tup (pcall G__law_gone_along (hr.mono (by decide)) (pa_cons (pv 1) (pa_cons (pv 6) pa_nil))) pe_int (fun _ _ => rfl))) (blkOk_by (own := [("_law_cell", 7)]) (N := N_law_knots) (sc := defScope s_law_knots) (by decide +kernel)) (fun _ _ _ _ _ => (pg_name (i := 7) sc_law_knots.nd rfl (Or.inl rfl))) (fun _ _ _ _ _ => (pts_one (pt_cmpR (op_notIn_seqK (K := K) rfl) (pv 7) (pv 2) (by rfl)))) (fun _ _ _ _ _ => (pv 7)))))))
      (pss_cons (ps_for PassesOwn.never rfl (pi_list (pv 2)) (pg_name (i := 7) sc_law_knots.nd rfl (Or.inl rfl))
      (pss_one (ps_dput hu (pv 3) (pe_dget hu (pv 1) (pv 7) (fun _ _ => rfl)) (pe_op op_add (pe_dget2 hu (pv 3) (pe_dget hu (pv 1) (pv 7) (fun _ _ => rfl)) pe_int ⟨rfl, rfl, rfl, rfl⟩) pe_int) rfl)))
      (pss_cons (ps_setLc (i := 8) (own := [("_law_letter", 5), ("_law_place", 6)]) (g := gTup K 2 (gCons (gName 5) (gCons (gName 6) gNil))) (tt := tYes) rfl sc_law_knots.nd rfl rfl (sw_true rfl rfl rfl (by decide +kernel)) (pi_tup (pv 0)) (blkOk_by (own := [("_law_letter", 5), ("_law_place", 6)]) (N := N_law_knots) (sc := defScope s_law_knots) (by decide +kernel)) (fun _ _ _ _ _ => (pg_tup rfl (pgs_cons (pg_name (i := 5) sc_law_knots.nd rfl (Or.inl rfl)) (pgs_cons (pg_name (i := 6) sc_law_knots.nd rfl (Or.inl rfl)) pgs_nil)))) (fun _ _ _ _ _ => pts_nil) (fun _ _ _ _ _ => (pv 6)))
      (pss_cons (ps_for PassesOwn.never rfl (pi_tup (pv 0)) (pg_tup rfl (pgs_cons (pg_name (i := 5) sc_law_knots.nd rfl (Or.inl rfl)) (pgs_cons (pg_name (i := 6) sc_law_knots.nd rfl (Or.inl rfl)) pgs_nil)))
      (pss_cons (ps_asg (pcall G__law_gone_along (hr.mono (by decide)) (pa_cons (pv 1) (pa_cons (pv 6) pa_nil))) (pg_tup rfl (pgs_cons (pg_name (i := 9) sc_law_knots.nd rfl (Or.inl rfl)) (pgs_cons (pg_name (i := 10) sc_law_knots.nd rfl (Or.inl rfl)) pgs_nil))))
      (pss_one (ps_for PassesOwn.never rfl (pi_list (pe_op op_cat (pv 9) (pe_lst (pa_cons (pv 10) pa_nil)))) (pg_name (i := 11) sc_law_knots.nd rfl (Or.inl rfl))
      (pss_one (ps_if (PW.pt (pw_and (pt_cmpR (op_notIn_seqK (K := K) rfl) (pv 11) (pv 4) (by rfl)) (pw_and1 (PW.pt (pw_or (pt_cmp (pc_dnotin hu (pv 11) (pv 1))) (pw_or (pt_cmpR op_in_seq (pv 11) (pv 8) (by rfl)) (pw_or1 (pt_cmpR op_gt (pe_dget2 hu (pv 3) (pv 11) pe_int ⟨rfl, rfl, rfl, rfl⟩) pe_int (nomark _))))))))) (pss_one (ps_expr (pe_bm PySem.F.plainAttrs_list PySem.F.slot_list_append PySem.F.type_list_append mt_append (pv 4) (pa_cons (pv 11) pa_nil)))) pss_nil))))))
      (pss_one (ps_ret (pe_tup (pa_cons (pv 4) (pa_cons (pv 2) pa_nil)))))))))), ?_⟩
    refine ⟨Nat.zero_le _, fun lc0 hc0 => ?_⟩
    have s1 := same_new (o := .lst []) hc0
    have e1 : upd H lc0 (.lst []) lc0 = some (.lst []) := upd_same
    generalize upd H lc0 (.lst []) = H1 at s1 e1 ⊢
    intro di hdi1
    have hdi := none_of s1 hdi1
    have s2 := s1.trans (same_new (o := .dK []) hdi1)
    have c2 := same_new (o := .dK []) hdi1 _ _ e1
    have e2 : upd H1 di (.dK []) di = some (.dK []) := upd_same
    generalize upd H1 di (.dK []) = H2 at s2 c2 e2 ⊢
    refine ⟨Nat.zero_le _, fun lf hlf2 => ?_⟩
    have hlf := none_of s2 hlf2
    have fi : lf ≠ di := fun z => by
      rw [z, e2] at hlf2
      cases hlf2
    have lcf0 : lc0 ≠ lf := ne_of_none c2 hlf2
    have s3 := s2.trans (same_new (o := .lst []) hlf2)
    have c3 := same_new (o := .lst []) hlf2 _ _ c2
    have i3 := same_new (o := .lst []) hlf2 _ _ e2
    have e3 : upd H2 lf (.lst []) lf = some (.lst []) := upd_same
    generalize upd H2 lf (.lst []) = H3 at s3 c3 i3 e3 ⊢
    refine ⟨by show 3 ≤ sizeLine; exact sl_le (by decide), fun t0 ht0 => ?_⟩
    have s4 := same_new (o := .tup [V.ref lc0, V.ref di, V.ref lf]) ht0
    refine ⟨t0, _, rfl, .inl (.inl upd_same), rfl, _, _, rfl, _, _, rfl, _, _, rfl, rfl, ?_⟩
    have s04 := s3.trans s4
    have c4' := s4 _ _ c3
    have i4 := s4 _ _ i3
    have f4 := s4 _ _ e3
    generalize upd H3 t0 (.tup [V.ref lc0, V.ref di, V.ref lf]) = H4 at s04 c4' i4 f4 ⊢
    clear s4
    have o4 := ok.four
    refine ⟨_, rfl, a0, rfl, ⟨_, (PT.same s04 ht).sq⟩, ?_⟩
    refine for_pairs (H0 := H) (fun i σ H' => Same H H' ∧ H' di = some (.dK []) ∧ H' lf = some (.lst []) ∧ ∃ (lc : Addr) (a : List Int), (∃ y5 y6 y7 y8 y9 yA yB, σ = [some (.ref a0), some (.ref d), some (.ref lc), some (.ref di), some (.ref lf), y5, y6, y7, y8, y9, yA, yB]) ∧ H' lc = some (.lst (a.map V.int)) ∧ H lc = none ∧ lc ≠ lf ∧ a.Nodup ∧ (∀ r ∈ a, isC cs r = true) ∧
      (∀ r ∈ a, nx cs r ∈ a ∨ isC cs (nx cs r) = false) ∧ come cs ns = (ns.drop i).foldl (fun a p => (steps cs (cs.length + 1) a p.2).1) a)
      ⟨s04, i4, f4, lc0, [], ⟨_, _, _, _, _, _, _, rfl⟩, c4', hc0, lcf0, List.nodup_nil, (by simp), (by simp), rfl⟩ ht hp (fun i σ H' h => .of h.1) ?_ ?_
    · rintro i b p0 σ H5 eb ep hq ⟨s5, i5, f5, lc, a, ⟨y5, y6, y7, y8, y9, yA, yB, rfl⟩, hk, hlcn, lfc, nd, hall, hcl, hcome⟩
      obtain ⟨p, ep2, rfl⟩ := map_at ep
      obtain ⟨hlt, hz2⟩ := List.getElem?_eq_some_iff.mp ep2
      rw [List.drop_eq_getElem_cons hlt, hz2, List.foldl_cons] at hcome
      obtain ⟨u1, u2, u3, u4⟩ := come_step p.2 nd hall hcl
      refine ⟨b, _, rfl, hq, rfl, _, _, rfl, _, _, rfl, rfl, ?_⟩
      refine ⟨_, rfl, ?_⟩
      dsimp only
      refine lcI (gs := (along cs p.2).1) (fun z => !decide (z ∈ a)) (fun R hR => ?_) ?_ (of_decide_eq_true rfl) (fun z H' R sm hR => ?_) (fun H6 D s6 hD hl6 => ?_)
      · exact ⟨_, rfl, _, rfl, d, p.2, cs, rfl, s5 _ _ hd, c4, fun H7 t2 l2 s7 hl2 ht2 hk2 => ⟨t2, _, 0, _, rfl, rfl, .inl (.inl ht2), at_first, hR l2 H7 s7 hk2⟩⟩
      · have := seen_len (along_stop cs p.2).2.1 (along_stop cs p.2).2.2
        omega
      · exact ⟨_, rfl, _, rfl, lc, _, rfl, .inl (.inl (.inl (sm _ _ hk))), rfl, flat_int _, _, congrArg (fun b => V.bl (!b)) (inV_int z _), hR⟩
      have l1 := seen_len nd hall
      have l2 := seen_len u2 u3
      rw [u1, List.length_append] at l2
      refine ⟨lc, D, _, _, rfl, rfl, s6 _ _ hk, hl6, by rw [List.length_map, List.length_map]; exact sl_le (by omega), fun l hl => ?_⟩
      have s8 := s6.trans (same_new (o := .lst (a.map V.int ++ ((along cs p.2).1.filter fun z => !decide (z ∈ a)).map V.int)) hl)
      refine ⟨s5.trans s8, s8 _ _ i5, s8 _ _ f5, l, _, ⟨_, _, _, _, _, _, _, rfl⟩, by rw [upd_same, ← List.map_append, ← u1], none_of s5 (none_of s6 hl), Ne.symm (ne_of_none (s6 _ _ f5) hl), u2, u3, u4, hcome⟩
    rintro σ H5 ⟨s5, i5, f5, lc, a, ⟨y5, y6, y7, y8, y9, yA, yB, rfl⟩, hk, hlcn, lfc, nd, hall, hcl, hcome⟩
    rw [List.length_map, List.drop_length, List.foldl_nil] at hcome
    rw [← hcome] at hk
    have lcl := come_len cs ns
    have lci : lc ≠ di := fun z => by
      rw [z, i5] at hk
      cases hk
    dsimp only
    unfold tSeq
    dsimp only
    have cok := come_ok cs ns [] List.nodup_nil (by simp)
    refine forL (l := lc) (xs := (come cs ns).map V.int) (fun i σ H' => Same H H' ∧ H' lc = some (.lst ((come cs ns).map V.int)) ∧ H' lf = some (.lst []) ∧ (∃ kvs : List (Key × V), H' di = some (.dK kvs) ∧ kvs.length ≤ i ∧ ∀ k v, valV kvs k = some v → ∃ n : Int, v = .int n) ∧
      ∃ y5 y6 y7 y8 y9 yA yB, σ = [some (.ref a0), some (.ref d), some (.ref lc), some (.ref di), some (.ref lf), y5, y6, y7, y8, y9, yA, yB]) rfl ⟨s5, hk, f5, ⟨[], i5, Nat.le_refl _, by simp [valV_nil]⟩, _, _, _, _, _, _, _, rfl⟩ (fun i σ H' _ h => .inl (.inl h.2.1)) ?_ ?_
    · rintro i y σ H6 hy ⟨s6, k6, f6, ⟨kvs, hkv, hkl, hint⟩, y5, y6, y7, y8, y9, yA, yB, rfl⟩
      have hlt := (List.getElem?_eq_some_iff.mp hy).1
      rw [List.length_map] at hlt
      obtain ⟨z, rfl, hzz⟩ := ints_mem (List.mem_of_getElem? hy)
      have d6 := s6 _ _ hd
      have hz : isC cs z = true := cok.2 z hzz
      refine ⟨_, rfl, di, rfl, .inl ⟨_, .inl hkv⟩, _, rfl, _, rfl, d, _, rfl, (by show DGet H6 d (V.int z) (some (V.int (nx cs z))); rw [← get_nx hz]; exact DGet.k (k := (Sum.inl z : Key)) d6), _, DGet.k (k := (Sum.inl (nx cs z) : Key)) hkv, ?_⟩
      obtain ⟨n, hn⟩ : ∃ n : Int, (valV kvs (Sum.inl (nx cs z) : Key)).getD (.int 0) = .int n := by
        cases e : valV kvs (Sum.inl (nx cs z) : Key) with
        | none => exact ⟨0, rfl⟩
        | some v =>
          obtain ⟨m, rfl⟩ := hint _ _ e
          exact ⟨m, rfl⟩
      rw [hn]
      refine ⟨_, _, rfl, rfl, _, rfl, _, rfl, _, rfl, d, _, rfl, (by show DGet H6 d (V.int z) (some (V.int (nx cs z))); rw [← get_nx hz]; exact DGet.k (k := (Sum.inl z : Key)) d6), di, _, rfl, DPut.k (k := (Sum.inl (nx cs z) : Key)) hkv (Nat.lt_of_lt_of_le (show kvs.length < 1000 by omega) (sl_le (by decide))), ?_⟩
      refine ⟨fun b o e => by rw [upd_ne (ne_of_none e hdi)]; exact s6 _ _ e, by rw [upd_ne lci]; exact k6, by rw [upd_ne fi]; exact f6, ⟨_, upd_same, Nat.le_trans (length_putK _ _ _) (by omega), fun k v e => ?_⟩, _, _, _, _, _, _, _, rfl⟩
      rw [valV_put] at e
      split at e
      · exact ⟨_, (Option.some.inj e).symm⟩
      · exact hint _ _ e
    rintro σ H6 ⟨s6, k6, f6, ⟨kvs, hkv, hkl, hint⟩, y5, y6, y7, y8, y9, yA, yB, rfl⟩
    dsimp only
    unfold tAsg
    dsimp only
    refine lcP nV (fun p => V.int p.2) rfl (PT.same s6 ht) (Paired.imm (.of s6) hp) (by omega) (fun b p H7 R sm hq hm hR => ?_) (fun H7 E7 s7 hE hl7 => ?_)
    · exact ⟨b, _, rfl, hq, rfl, _, _, rfl, _, _, rfl, rfl, rfl, _, rfl, hR⟩
    have hd1 : (ns.map fun p => V.int p.2) = (ns.map (·.2)).map V.int := by
      rw [List.map_map]
      rfl
    rw [hd1] at hl7
    have s07 := s6.trans s7
    have fE : E7 ≠ lf := fun z => by
      rw [z, f6] at hE
      cases hE
    have i7 := s7 _ _ hkv
    have k7 := s7 _ _ k6
    have f7 := s7 _ _ f6
    unfold gName
    dsimp only
    refine forP (a := a0) (H0 := H) (fun i σ H' => Same H H' ∧ H' lc = some (.lst ((come cs ns).map V.int)) ∧ H' di = some (.dK kvs) ∧ H' E7 = some (.lst ((ns.map (·.2)).map V.int)) ∧ (∃ fs : List Int, H' lf = some (.lst (fs.map V.int)) ∧ fs.length ≤ 500 * i) ∧ i ≤ ns.length ∧
      ∃ y5 y6 y7 y9 yA yB, σ = [some (.ref a0), some (.ref d), some (.ref lc), some (.ref di), some (.ref lf), y5, y6, y7, some (.ref E7), y9, yA, yB]) rfl ⟨s07, k7, i7, hl7, ⟨[], f7, Nat.zero_le _⟩, Nat.zero_le _, _, _, _, _, _, _, rfl⟩ ht hp (fun i σ H' h => .of h.1) ?_ ?_
    · rintro i b p0 σ H8 eb ep hq ⟨s8, k8, i8, e8, ⟨fs0, f8, g8⟩, hin, y5, y6, y7, y9, yA, yB, rfl⟩
      obtain ⟨p, ep2, rfl⟩ := map_at ep
      have hilt := (List.getElem?_eq_some_iff.mp ep2).1
      refine ⟨b, _, rfl, hq, rfl, _, _, rfl, _, _, rfl, rfl, ?_⟩
      refine ⟨_, rfl, _, rfl, d, p.2, cs, rfl, s8 _ _ hd, c4, fun H9 t9 l9 s9 hl9 ht9 hk9 => ?_⟩
      refine ⟨t9, _, rfl, .inl (.inl ht9), rfl, _, _, rfl, _, _, rfl, rfl, ?_⟩
      have al := seen_len (along_stop cs p.2).2.1 (along_stop cs p.2).2.2
      have gg : (along cs p.2).1.map V.int ++ [V.int (along cs p.2).2] = ((along cs p.2).1 ++ [(along cs p.2).2]).map V.int := by simp
      have lall : (((along cs p.2).1 ++ [(along cs p.2).2]).map V.int).length = (along cs p.2).1.length + 1 := by rw [List.length_map, List.length_append]; rfl
      dsimp only
      refine forE (fun lx HB => Same H9 HB ∧ HB lx = some (.lst (((along cs p.2).1 ++ [(along cs p.2).2]).map V.int)) ∧ lx ≠ lf) (fun R hR => ?_) (fun lx HB pre => ?_)
      · refine ⟨_, rfl, _, rfl, by show 1 ≤ sizeLine; exact sl_le (by decide), fun l1 hl1 => ?_⟩
        have kA := same_new (o := .lst [V.int (along cs p.2).2]) hl1 _ _ hk9
        refine ⟨l9, l1, _, _, rfl, rfl, kA, upd_same, by rw [List.length_map]; exact sl_le (by show _ + 1 ≤ _; omega), fun lx hlx => ?_⟩
        have fA := same_new (o := .lst [V.int (along cs p.2).2]) hl1 _ _ (s9 _ _ f8)
        exact hR lx _ ⟨(same_new (o := .lst [V.int (along cs p.2).2]) hl1).trans (same_new hlx), by rw [upd_same, gg], Ne.symm (ne_of_none fA hlx)⟩
      obtain ⟨sB0, xB, fX⟩ := pre
      have sB := s9.trans sB0
      refine ⟨((along cs p.2).1 ++ [(along cs p.2).2]).map V.int, (fun m σ H' => Same H H' ∧ H' lc = some (.lst ((come cs ns).map V.int)) ∧ H' di = some (.dK kvs) ∧ H' E7 = some (.lst ((ns.map (·.2)).map V.int)) ∧ H' lx = some (.lst (((along cs p.2).1 ++ [(along cs p.2).2]).map V.int)) ∧ ∃ fs : List Int, H' lf = some (.lst (fs.map V.int)) ∧ fs.length ≤ 500 * i + m ∧
        ∃ yB, σ = [some (.ref a0), some (.ref d), some (.ref lc), some (.ref di), some (.ref lf), some (nV p).1, some (nV p).2, y7, some (.ref E7), some (.ref l9), some (.int (along cs p.2).2), yB]), ⟨s8.trans sB, sB _ _ k8, sB _ _ i8, sB _ _ e8, xB, fs0, sB _ _ f8, by omega, _, rfl⟩, (fun m σ H' _ h => .inl (.inl h.2.2.2.2.1)), ?_, ?_⟩
      · rintro m y σ HC hy ⟨sC, kC', dC, eC, xC, fs, hfs, hfl, yC, rfl⟩
        obtain ⟨z, rfl, hzz⟩ := ints_mem (List.mem_of_getElem? hy)
        have hmlt := (List.getElem?_eq_some_iff.mp hy).1
        rw [lall] at hmlt
        refine ⟨_, rfl, _, rfl, lf, _, rfl, .inl (.inl (.inl hfs)), rfl, flat_int _, _, congrArg (fun b => V.bl (!b)) (inV_int z _), ?_⟩
        generalize (!decide (z ∈ fs)) = w1
        cases w1
        · refine iteF (iteF ?_)
          exact ⟨sC, kC', dC, eC, xC, fs, hfs, by omega, _, rfl⟩
        refine iteT ⟨_, rfl, _, rfl, d, _, rfl, DGet.k (k := (Sum.inl z : Key)) (sC _ _ hd), _, rfl, ?_⟩
        generalize (!(valV (kC cs) (Sum.inl z : Key)).isSome) = w2
        cases w2
        · refine iteF ⟨_, rfl, _, rfl, E7, _, rfl, .inl (.inl (.inl eC)), rfl, flat_int _, _, congrArg V.bl (inV_int z _), ?_⟩
          generalize decide (z ∈ ns.map (·.2)) = w3
          cases w3
          · obtain ⟨n, hn⟩ : ∃ n : Int, (valV kvs (Sum.inl z : Key)).getD (.int 0) = .int n := by
              cases e : valV kvs (Sum.inl z : Key) with
              | none => exact ⟨0, rfl⟩
              | some v =>
                obtain ⟨m, rfl⟩ := hint _ _ e
                exact ⟨m, rfl⟩
            refine iteF ⟨_, rfl, di, rfl, .inl ⟨_, .inl dC⟩, _, rfl, _, DGet.k (k := (Sum.inl z : Key)) dC, ?_⟩
            rw [hn]
            refine ⟨_, _, rfl, rfl, _, rfl, ?_⟩
            generalize decide (1 < n) = w4
            cases w4
            · refine iteF ?_
              exact ⟨sC, kC', dC, eC, xC, fs, hfs, by omega, _, rfl⟩
            · refine iteT ?_
              refine ⟨_, rfl, .inl ⟨rfl, _, .inl (.inl hfs)⟩, _, rfl, lf, _, _, rfl, rfl, hfs, by rw [List.length_map]; exact Nat.lt_of_lt_of_le (show fs.length < 10000 by omega) (sl_le (by decide)), ?_⟩
              exact ⟨fun b o e => by rw [upd_ne (ne_of_none e hlf)]; exact sC _ _ e, by rw [upd_ne lfc]; exact kC', by rw [upd_ne (Ne.symm fi)]; exact dC, by rw [upd_ne fE]; exact eC, by rw [upd_ne fX]; exact xC, fs ++ [z], by rw [upd_same, List.map_append]; rfl, by rw [List.length_append]; show fs.length + 1 ≤ 500 * i + (m + 1); omega, _, rfl⟩
          · refine iteT (iteT ?_)
            refine ⟨_, rfl, .inl ⟨rfl, _, .inl (.inl hfs)⟩, _, rfl, lf, _, _, rfl, rfl, hfs, by rw [List.length_map]; exact Nat.lt_of_lt_of_le (show fs.length < 10000 by omega) (sl_le (by decide)), ?_⟩
            exact ⟨fun b o e => by rw [upd_ne (ne_of_none e hlf)]; exact sC _ _ e, by rw [upd_ne lfc]; exact kC', by rw [upd_ne (Ne.symm fi)]; exact dC, by rw [upd_ne fE]; exact eC, by rw [upd_ne fX]; exact xC, fs ++ [z], by rw [upd_same, List.map_append]; rfl, by rw [List.length_append]; show fs.length + 1 ≤ 500 * i + (m + 1); omega, _, rfl⟩
        · refine iteT (iteT ?_)
          refine ⟨_, rfl, .inl ⟨rfl, _, .inl (.inl hfs)⟩, _, rfl, lf, _, _, rfl, rfl, hfs, by rw [List.length_map]; exact Nat.lt_of_lt_of_le (show fs.length < 10000 by omega) (sl_le (by decide)), ?_⟩
          exact ⟨fun b o e => by rw [upd_ne (ne_of_none e hlf)]; exact sC _ _ e, by rw [upd_ne lfc]; exact kC', by rw [upd_ne (Ne.symm fi)]; exact dC, by rw [upd_ne fE]; exact eC, by rw [upd_ne fX]; exact xC, fs ++ [z], by rw [upd_same, List.map_append]; rfl, by rw [List.length_append]; show fs.length + 1 ≤ 500 * i + (m + 1); omega, _, rfl⟩
      · rintro σ HC ⟨sC, kC', dC, eC, xC, fs, hfs, hfl, yC, rfl⟩
        rw [lall] at hfl
        exact ⟨sC, kC', dC, eC, ⟨fs, hfs, by omega⟩, hilt, _, _, _, _, _, _, rfl⟩
    rintro σ H8 ⟨s8, k8, i8, e8, ⟨fs0, f8, g8⟩, hin, y5, y6, y7, y9, yA, yB, rfl⟩
    refine ⟨_, rfl, _, rfl, by show 2 ≤ sizeLine; exact sl_le (by decide), fun t ht9 => ?_⟩
    have s9 := same_new (o := .tup [V.ref lf, V.ref lc]) ht9
    exact k _ t lf lc (s8.trans s9) upd_same (s9 _ _ k8)
end
end K1
namespace K1
open PySem PySem.Spec L2 Z K7
section
variable {P : Program} {w : World} {K : PySem.W.Frag} {mg : Str → Option Value} {base : Heap} {C CU : Addr}
theorem ok_law_way_right (T : Txt K mg C CU) (G__law_gone_along : Pr P w K mg base "_law_gone_along" s_law_gone_along 1 ["_law_arrows_here", "_law_place"] sp_law_gone_along) (G_way : PrX P w K mg base "way" s_way 5 ["store", "letter"] (q_way K C CU)) (G_way_end : PrX P w K mg base "way_end" s_way_end 5 ["store", "letter"] (q_way_end K C CU)) (G_tail_and_ring : PrX P w K mg base "tail_and_ring" s_tail_and_ring 5 ["store", "letter"] (q_tail K C CU)) : PrG P w K mg base "_law_way_right" s_law_way_right 6 ["_law_made", "_law_names", "_law_arrows_here", "_law_k"] (sp_law_way_right K C) := by
  obtain ⟨f, fd, F, gl, bd⟩ := T.d__law_way_right
  refine ⟨f, fd, F, gl, bd, okG F sc_law_way_right (fun vs H Q E h => ?_) (fun cdv A outer s H vs Q E hr hgd h => ?_)⟩
  · obtain ⟨x, v, d, ns, cs, i, rfl, _⟩ := h
    rfl
  · obtain ⟨x, v, d, ns, cs, i, rfl, hS, ⟨a0, rs, rfl, ht, hp⟩, hd, hi, k⟩ := h
    have hu := hu_of hr
    refine ⟨_, (pss_cons (ps_asg (pe_ix ix_tup (pv 1) (pv 3) (fun _ _ => rfl)) (pg_tup rfl (pgs_cons (pg_name (i := 4) sc_law_way_right.nd rfl (Or.inl rfl)) (pgs_cons (pg_name (i := 5) sc_law_way_right.nd rfl (Or.inl rfl)) pgs_nil))))
      (pss_cons (ps_asg (pcall G__law_gone_along (hr.mono (by decide)) (pa_cons (pv 2) (pa_cons (pv 5) pa_nil))) (pg_tup rfl (pgs_cons (pg_name (i := 6) sc_law_way_right.nd rfl (Or.inl rfl)) (pgs_cons (pg_name (i := 7) sc_law_way_right.nd rfl (Or.inl rfl)) pgs_nil))))
      (pss_cons (ps_set (i := 8) sc_law_way_right.nd rfl (Or.inl rfl) (pe_ifExp (pt_cmpR op_in_seq (pv 7) (pv 6) (by rfl)) (pe_tup (pa_cons (pe_bm PySem.F.plainAttrs_list PySem.F.slot_list_index PySem.F.type_list_index mt_index (pv 6) (pa_cons (pv 7) pa_nil)) (pa_cons (pe_op op_sub (pe_callB call_len_seq (by rfl) T.b_len (by decide +kernel) (pa_cons (pv 6) pa_nil)) (pe_bm PySem.F.plainAttrs_list PySem.F.slot_list_index PySem.F.type_list_index mt_index (pv 6) (pa_cons (pv 7) pa_nil))) pa_nil))) pe_non))
      (pss_cons (ps_set (i := 9) sc_law_way_right.nd rfl (Or.inl rfl) (pe_lst (pa_cons (pcallX E0 G_way (hr.mono (by decide)) passL (pa_cons (pv 0) (pa_cons (pv 4) pa_nil))) (pa_cons (pcallX E0 G_way_end (hr.mono (by decide)) passL (pa_cons (pv 0) (pa_cons (pv 4) pa_nil))) (pa_cons (pcallX E0 G_tail_and_ring (hr.mono (by decide)) passL (pa_cons (pv 0) (pa_cons (pv 4) pa_nil))) pa_nil)))))
      (pss_cons (ps_if (pt_cmpR op_ne (pe_callB (call_repr hgd hr.units) (by rfl) T.b_repr (by decide +kernel) (pa_cons (pv 9) pa_nil)) (pe_callB (call_repr hgd hr.units) (by rfl) T.b_repr (by decide +kernel) (pa_cons (pe_lst (pa_cons (pe_callTy call_tupP (by rfl) T.b_tuple (by decide +kernel) (pa_cons (pv 6) pa_nil)) (pa_cons (pv 7) (pa_cons (pv 8) pa_nil)))) pa_nil)) (nomark _)) (pss_one (ps_ret pe_bl)) pss_nil)
      (pss_cons (ps_set (i := 10) sc_law_way_right.nd rfl (Or.inl rfl) (pe_lst (pa_cons (pcallXN0 E0 G_way (hr.mono (by decide)) passL kb_way (pk_cons (pv 4) (pk_cons (pv 0) pk_nil))) (pa_cons (pcallXN0 E0 G_way_end (hr.mono (by decide)) passL kb_way_end (pk_cons (pv 4) (pk_cons (pv 0) pk_nil))) (pa_cons (pcallXN0 E0 G_tail_and_ring (hr.mono (by decide)) passL kb_tail_and_ring (pk_cons (pv 0) (pk_cons (pv 4) pk_nil))) pa_nil)))))
      (pss_one (ps_ret (pe_cmpR op_eq (pe_callB (call_repr hgd hr.units) (by rfl) T.b_repr (by decide +kernel) (pa_cons (pv 10) pa_nil)) (pe_callB (call_repr hgd hr.units) (by rfl) T.b_repr (by decide +kernel) (pa_cons (pv 9) pa_nil)) (nomark _)))))))))), ?_⟩
    have ok : NOk ns ∧ COk cs := by
      obtain ⟨v, u, dx, pd, ad, ld, ks, S⟩ := hS
      exact ⟨S.nok, S.cok⟩
    obtain ⟨ok, ck⟩ := ok
    have c4 := ck.few
    have hm : ns[i] ∈ ns := List.getElem_mem hi
    obtain ⟨hp0, hp9⟩ := ok.pl _ hm
    have hl : rs.length = ns.length := by rw [Paired.len hp, List.length_map]
    have hb : rs[i]? = some (rs[i]'(by omega)) := List.getElem?_eq_getElem _
    obtain ⟨q, e2, hq⟩ := Paired.at hp hb
    have e3 : (ns.map nV)[i]? = some (nV ns[i]) := by rw [List.getElem?_map, List.getElem?_eq_getElem hi]; rfl
    rw [e3] at e2
    cases e2
    refine ⟨_, rfl, _, rfl, a0, _, (i : Int), _, rfl, rfl, ht.sq, at_nat (by rw [List.getElem?_map, hb]; rfl), ?_⟩
    refine ⟨_, _, rfl, hq, rfl, _, _, rfl, _, _, rfl, rfl, ?_⟩
    refine ⟨_, rfl, _, rfl, d, ns[i].2, cs, rfl, hd, c4, fun H1 t0 l s1 hln ht0 hk1 => ?_⟩
    refine ⟨t0, _, rfl, .inl (.inl ht0), rfl, _, _, rfl, _, _, rfl, rfl, ?_⟩
    refine ⟨_, rfl, _, rfl, l, _, rfl, .inl (.inl (.inl hk1)), rfl, flat_int _, _, rfl, ?_⟩
    show if inV (.int (along cs ns[i].2).2) ((along cs ns[i].2).1.map V.int) = true then _ else _
    rw [inV_int]
    have ast := along_stop cs ns[i].2
    by_cases hc : isC cs (along cs ns[i].2).2 = true
    · have hin : (along cs ns[i].2).2 ∈ (along cs ns[i].2).1 := by
        rcases ast.1 with z | z
        · rw [hc] at z
          cases z
        · exact z
      rw [decide_eq_true hin]
      obtain ⟨i1, i2, i3⟩ := index_ok hin
      have hpv : partsV cs ns[i].2 = some (((idx (along cs ns[i].2).1 (along cs ns[i].2).2 : Nat) : Int), ((along cs ns[i].2).1.length : Int) - (idx (along cs ns[i].2).1 (along cs ns[i].2).2 : Nat)) := by
        unfold partsV
        rw [if_pos hc]
      refine iteT ⟨_, rfl, .inl ⟨rfl, _, .inl (.inl hk1)⟩, _, rfl, l, _, _, _, _, rfl, rfl, .inl (.inl hk1), rfl, flat_int _, i1, i2, i3, ?_⟩
      refine ⟨_, rfl, l, _, rfl, .inl (.inl (.inl hk1)), _, rfl, .inl ⟨rfl, _, .inl (.inl hk1)⟩, _, rfl, l, _, _, _, _, rfl, rfl, .inl (.inl hk1), rfl, flat_int _, i1, i2, i3, _, _, rfl, rfl, by show 2 ≤ sizeLine; exact sl_le (by decide), fun w0 hw0 => ?_⟩
      rw [List.length_map]
      have s2 := s1.trans (same_new (o := .tup [V.int (idx (along cs ns[i].2).1 (along cs ns[i].2).2 : Nat), V.int (((along cs ns[i].2).1.length : Int) - (idx (along cs ns[i].2).1 (along cs ns[i].2).2 : Nat))]) hw0)
      have hk2 := same_new (o := .tup [V.int (idx (along cs ns[i].2).1 (along cs ns[i].2).2 : Nat), V.int (((along cs ns[i].2).1.length : Int) - (idx (along cs ns[i].2).1 (along cs ns[i].2).2 : Nat))]) hw0 _ _ hk1
      have ew0 : upd H1 w0 (.tup [V.int (idx (along cs ns[i].2).1 (along cs ns[i].2).2 : Nat), V.int (((along cs ns[i].2).1.length : Int) - (idx (along cs ns[i].2).1 (along cs ns[i].2).2 : Nat))]) w0 = some _ := upd_same
      generalize upd H1 w0 (.tup [V.int (idx (along cs ns[i].2).1 (along cs ns[i].2).2 : Nat), V.int (((along cs ns[i].2).1.length : Int) - (idx (along cs ns[i].2).1 (along cs ns[i].2).2 : Nat))]) = H2 at s2 hk2 ew0 ⊢
      refine ⟨_, rfl, _, rfl, x, _, ns, cs, rfl, St.same s2 hS, .inl ⟨ns[i], hm, rfl, fun H3 t1 s3 pt1 => ?_⟩⟩
      refine ⟨_, rfl, _, rfl, x, _, ns, cs, rfl, St.same (s2.trans s3) hS, .inl ⟨ns[i], hm, rfl, fun H4 s4 => ?_⟩⟩
      refine ⟨_, rfl, _, rfl, x, _, ns, cs, rfl, St.same ((s2.trans s3).trans s4) hS, .inl ⟨ns[i], hm, rfl, fun H5 sH5 => ⟨fun z => (by rw [hpv] at z; cases z), fun i1 j1 hij w1 hw1 ew1 => ?_⟩⟩⟩
      rw [hpv] at hij
      cases hij
      refine ⟨by show 3 ≤ sizeLine; exact sl_le (by decide), fun p1 hp1 => ?_⟩
      have s25 := ((s2.trans s3).trans s4).trans sH5
      have s6 := same_new (o := .lst [V.ref t1, V.int (along cs ns[i].2).2, V.ref w1]) hp1
      have e6 : upd H5 p1 (.lst [V.ref t1, V.int (along cs ns[i].2).2, V.ref w1]) p1 = some (.lst [V.ref t1, V.int (along cs ns[i].2).2, V.ref w1]) := upd_same
      generalize upd H5 p1 (.lst [V.ref t1, V.int (along cs ns[i].2).2, V.ref w1]) = H6 at s6 e6 ⊢
      have pt6 := PT.same ((s4.trans sH5).trans s6) pt1
      obtain ⟨r1, r2, r3, r4, r5⟩ := repr_ok (K := K) (.inl (.inl e6)) (dp_way pt6 (dp_parts hpv (s6 _ _ ew1))) (fit_way ck hp0 hp9) (by show (2803 + 2) * 3 + 3 ≤ 16000000; decide) (by decide)
      refine ⟨_, rfl, p1, _, rfl, r1, r2, r3, r4, r5, ?_⟩
      have s26 := s25.trans s6
      have hk6 := (((s3.trans s4).trans sH5).trans s6) _ _ hk2
      refine ⟨_, rfl, l, _, rfl, .inl (.inl hk6), fun t2 o2 ht2 ho2 => ?_⟩
      have s7 := same_new (o := .frz o2 (.tup ((along cs ns[i].2).1.map V.int))) ht2
      have pt7 : PT (upd H6 t2 (.frz o2 (.tup ((along cs ns[i].2).1.map V.int)))) t2 ((along cs ns[i].2).1.map V.int) := PT.new ho2
      generalize upd H6 t2 (.frz o2 (.tup ((along cs ns[i].2).1.map V.int))) = H7 at s7 pt7 ⊢
      refine ⟨_, rfl, _, rfl, by show 3 ≤ sizeLine; exact sl_le (by decide), fun p2 hp2 => ?_⟩
      have s8 := same_new (o := .lst [V.ref t2, V.int (along cs ns[i].2).2, V.ref w0]) hp2
      have e8 : upd H7 p2 (.lst [V.ref t2, V.int (along cs ns[i].2).2, V.ref w0]) p2 = some (.lst [V.ref t2, V.int (along cs ns[i].2).2, V.ref w0]) := upd_same
      generalize upd H7 p2 (.lst [V.ref t2, V.int (along cs ns[i].2).2, V.ref w0]) = H8 at s8 e8 ⊢
      obtain ⟨r1, r2, r3, r4, r5⟩ := repr_ok (K := K) (.inl (.inl e8)) (dp_way (PT.same s8 pt7) (dp_parts hpv (s8 _ _ (s7 _ _ (s6 _ _ (sH5 _ _ (s4 _ _ (s3 _ _ ew0)))))))) (fit_way ck hp0 hp9) (by show (2803 + 2) * 3 + 3 ≤ 16000000; decide) (by decide)
      refine ⟨p2, _, rfl, r1, r2, r3, r4, r5, rfl, false, bl_ne _, iteF ?_⟩
      have s28 := (s26.trans s7).trans s8
      refine ⟨_, rfl, _, rfl, rfl, x, _, ns, cs, rfl, St.same s28 hS, .inl ⟨ns[i], hm, rfl, fun H9 t3 s9 pt3 => ?_⟩⟩
      refine ⟨_, rfl, _, rfl, rfl, x, _, ns, cs, rfl, St.same (s28.trans s9) hS, .inl ⟨ns[i], hm, rfl, fun HA sA => ?_⟩⟩
      refine ⟨_, rfl, _, rfl, rfl, x, _, ns, cs, rfl, St.same ((s28.trans s9).trans sA) hS, .inl ⟨ns[i], hm, rfl, fun HB sHB => ⟨fun z => (by rw [hpv] at z; cases z), fun i1 j1 hij w2 hw2 ew2 => ?_⟩⟩⟩
      rw [hpv] at hij
      cases hij
      refine ⟨by show 3 ≤ sizeLine; exact sl_le (by decide), fun p3 hp3 => ?_⟩
      have s2B := ((s28.trans s9).trans sA).trans sHB
      have sC := same_new (o := .lst [V.ref t3, V.int (along cs ns[i].2).2, V.ref w2]) hp3
      have eC : upd HB p3 (.lst [V.ref t3, V.int (along cs ns[i].2).2, V.ref w2]) p3 = some (.lst [V.ref t3, V.int (along cs ns[i].2).2, V.ref w2]) := upd_same
      generalize upd HB p3 (.lst [V.ref t3, V.int (along cs ns[i].2).2, V.ref w2]) = HC at sC eC ⊢
      obtain ⟨r1, r2, r3, r4, r5⟩ := repr_ok (K := K) (.inl (.inl eC)) (dp_way (PT.same ((sA.trans sHB).trans sC) pt3) (dp_parts hpv (sC _ _ ew2))) (fit_way ck hp0 hp9) (by show (2803 + 2) * 3 + 3 ≤ 16000000; decide) (by decide)
      refine ⟨_, rfl, p3, _, rfl, r1, r2, r3, r4, r5, ?_⟩
      have s6C := ((((s7.trans s8).trans s9).trans sA).trans sHB).trans sC
      obtain ⟨r1, r2, r3, r4, r5⟩ := repr_ok (K := K) (.inl (.inl (s6C _ _ e6))) (dp_way (PT.same s6C pt6) (dp_parts hpv (s6C _ _ (s6 _ _ ew1)))) (fit_way ck hp0 hp9) (by show (2803 + 2) * 3 + 3 ≤ 16000000; decide) (by decide)
      refine ⟨_, rfl, p1, _, rfl, r1, r2, r3, r4, r5, rfl, ?_⟩
      rw [decide_eq_true rfl]
      exact k _ (s2B.trans sC)
    · have hin : (along cs ns[i].2).2 ∉ (along cs ns[i].2).1 := fun z => hc (ast.2.2 _ z)
      rw [decide_eq_false hin]
      have hpv : partsV cs ns[i].2 = none := by
        unfold partsV
        rw [if_neg hc]
      refine iteF ?_
      have s2 := s1
      have hk2 := hk1
      refine ⟨_, rfl, _, rfl, x, _, ns, cs, rfl, St.same s2 hS, .inl ⟨ns[i], hm, rfl, fun H3 t1 s3 pt1 => ?_⟩⟩
      refine ⟨_, rfl, _, rfl, x, _, ns, cs, rfl, St.same (s2.trans s3) hS, .inl ⟨ns[i], hm, rfl, fun H4 s4 => ?_⟩⟩
      refine ⟨_, rfl, _, rfl, x, _, ns, cs, rfl, St.same ((s2.trans s3).trans s4) hS, .inl ⟨ns[i], hm, rfl, fun H5 sH5 => ⟨fun _ => ?_, fun i1 j1 hij => by rw [hpv] at hij; cases hij⟩⟩⟩
      refine ⟨by show 3 ≤ sizeLine; exact sl_le (by decide), fun p1 hp1 => ?_⟩
      have s25 := ((s2.trans s3).trans s4).trans sH5
      have s6 := same_new (o := .lst [V.ref t1, V.int (along cs ns[i].2).2, V.non]) hp1
      have e6 : upd H5 p1 (.lst [V.ref t1, V.int (along cs ns[i].2).2, V.non]) p1 = some (.lst [V.ref t1, V.int (along cs ns[i].2).2, V.non]) := upd_same
      generalize upd H5 p1 (.lst [V.ref t1, V.int (along cs ns[i].2).2, V.non]) = H6 at s6 e6 ⊢
      have pt6 := PT.same ((s4.trans sH5).trans s6) pt1
      obtain ⟨r1, r2, r3, r4, r5⟩ := repr_ok (K := K) (.inl (.inl e6)) (dp_way pt6 (dp_parts0 hpv)) (fit_way ck hp0 hp9) (by show (2803 + 2) * 3 + 3 ≤ 16000000; decide) (by decide)
      refine ⟨_, rfl, p1, _, rfl, r1, r2, r3, r4, r5, ?_⟩
      have s26 := s25.trans s6
      have hk6 := (((s3.trans s4).trans sH5).trans s6) _ _ hk2
      refine ⟨_, rfl, l, _, rfl, .inl (.inl hk6), fun t2 o2 ht2 ho2 => ?_⟩
      have s7 := same_new (o := .frz o2 (.tup ((along cs ns[i].2).1.map V.int))) ht2
      have pt7 : PT (upd H6 t2 (.frz o2 (.tup ((along cs ns[i].2).1.map V.int)))) t2 ((along cs ns[i].2).1.map V.int) := PT.new ho2
      generalize upd H6 t2 (.frz o2 (.tup ((along cs ns[i].2).1.map V.int))) = H7 at s7 pt7 ⊢
      refine ⟨_, rfl, _, rfl, by show 3 ≤ sizeLine; exact sl_le (by decide), fun p2 hp2 => ?_⟩
      have s8 := same_new (o := .lst [V.ref t2, V.int (along cs ns[i].2).2, V.non]) hp2
      have e8 : upd H7 p2 (.lst [V.ref t2, V.int (along cs ns[i].2).2, V.non]) p2 = some (.lst [V.ref t2, V.int (along cs ns[i].2).2, V.non]) := upd_same
      generalize upd H7 p2 (.lst [V.ref t2, V.int (along cs ns[i].2).2, V.non]) = H8 at s8 e8 ⊢
      obtain ⟨r1, r2, r3, r4, r5⟩ := repr_ok (K := K) (.inl (.inl e8)) (dp_way (PT.same s8 pt7) (dp_parts0 hpv)) (fit_way ck hp0 hp9) (by show (2803 + 2) * 3 + 3 ≤ 16000000; decide) (by decide)
      refine ⟨p2, _, rfl, r1, r2, r3, r4, r5, rfl, false, bl_ne _, iteF ?_⟩
      have s28 := (s26.trans s7).trans s8
      refine ⟨_, rfl, _, rfl, rfl, x, _, ns, cs, rfl, St.same s28 hS, .inl ⟨ns[i], hm, rfl, fun H9 t3 s9 pt3 => ?_⟩⟩
      refine ⟨_, rfl, _, rfl, rfl, x, _, ns, cs, rfl, St.same (s28.trans s9) hS, .inl ⟨ns[i], hm, rfl, fun HA sA => ?_⟩⟩
      refine ⟨_, rfl, _, rfl, rfl, x, _, ns, cs, rfl, St.same ((s28.trans s9).trans sA) hS, .inl ⟨ns[i], hm, rfl, fun HB sHB => ⟨fun _ => ?_, fun i1 j1 hij => by rw [hpv] at hij; cases hij⟩⟩⟩
      refine ⟨by show 3 ≤ sizeLine; exact sl_le (by decide), fun p3 hp3 => ?_⟩
      have s2B := ((s28.trans s9).trans sA).trans sHB
      have sC := same_new (o := .lst [V.ref t3, V.int (along cs ns[i].2).2, V.non]) hp3
      have eC : upd HB p3 (.lst [V.ref t3, V.int (along cs ns[i].2).2, V.non]) p3 = some (.lst [V.ref t3, V.int (along cs ns[i].2).2, V.non]) := upd_same
      generalize upd HB p3 (.lst [V.ref t3, V.int (along cs ns[i].2).2, V.non]) = HC at sC eC ⊢
      obtain ⟨r1, r2, r3, r4, r5⟩ := repr_ok (K := K) (.inl (.inl eC)) (dp_way (PT.same ((sA.trans sHB).trans sC) pt3) (dp_parts0 hpv)) (fit_way ck hp0 hp9) (by show (2803 + 2) * 3 + 3 ≤ 16000000; decide) (by decide)
      refine ⟨_, rfl, p3, _, rfl, r1, r2, r3, r4, r5, ?_⟩
      have s6C := ((((s7.trans s8).trans s9).trans sA).trans sHB).trans sC
      obtain ⟨r1, r2, r3, r4, r5⟩ := repr_ok (K := K) (.inl (.inl (s6C _ _ e6))) (dp_way (PT.same s6C pt6) (dp_parts0 hpv)) (fit_way ck hp0 hp9) (by show (2803 + 2) * 3 + 3 ≤ 16000000; decide) (by decide)
      refine ⟨_, rfl, p1, _, rfl, r1, r2, r3, r4, r5, rfl, ?_⟩
      rw [decide_eq_true rfl]
      exact k _ (s2B.trans sC)
end
end K1
namespace K1
open PySem PySem.Spec L2 Z K7
section
variable {P : Program} {w : World} {K : PySem.W.Frag} {mg : Str → Option Value} {base : Heap} {C CU : Addr}
theorem ok_reached_from (T : Txt K mg C CU)  : Pr P w K mg base "reached_from" s_reached_from 1 ["names", "arrows"] (q_reached_from K) := by
  obtain ⟨f, fd, F, gl, bd⟩ := T.d_reached_from
  refine ⟨f, fd, F, gl, bd, F.ok sc_reached_from (fun vs H Q E h => ?_) (fun cdv A outer s H vs Q E hr h => ?_)⟩
  · obtain ⟨v, ad, ns, cs, rfl, _⟩ := h
    rfl
  · obtain ⟨v, ad, ns, cs, rfl, ⟨a0, rs, rfl, ht, hp⟩, had, ok, ck, k⟩ := h
    have hu := hu_of hr
    refine ⟨_, (pss_cons (ps_set (i := 2) sc_reached_from.nd rfl (Or.inl rfl) pe_dnewK)
      (pss_cons (ps_for PassesOwn.never rfl (pi_tup (pv 0)) (pg_tup rfl (pgs_cons (pg_name (i := 3) sc_reached_from.nd rfl (Or.inl rfl)) (pgs_cons (pg_name (i := 4) sc_reached_from.nd rfl (Or.inl rfl)) pgs_nil)))
      (pss_cons (ps_set (i := 5) sc_reached_from.nd rfl (Or.inl rfl) (pv 4))
      (pss_one (ps_while PassesOwn.never (PW.pt (pw_and (pt_cmp (pc_din hu (pv 5) (pv 1))) (pw_and1 (pt_cmp (pc_dnotin hu (pv 5) (pv 2)))))) (pss_cons (ps_dput hu (pv 2) (pv 5) pe_bl rfl)
      (pss_one (ps_set (i := 5) sc_reached_from.nd rfl (Or.inl rfl) (pe_dget hu (pv 1) (pv 5) (fun _ _ => rfl)))))))))
      (pss_one (ps_ret (pv 2))))), ?_⟩
    have c4 := ck.few
    intro d hd
    have s0 : Same H (upd H d (.dK [])) := same_new hd
    have d0 : upd H d (.dK []) d = some (.dK (kT [])) := upd_same
    generalize upd H d (.dK []) = H1 at s0 d0 ⊢
    have nx2 : ad ≠ d := ne_of_none had hd
    refine ⟨_, rfl, a0, rfl, ⟨_, (PT.same s0 ht).sq⟩, ?_⟩
    refine for_pairs (H0 := H) (fun i σ H' => Same H H' ∧ (∃ x2 x3 x4, σ = [some (.ref a0), some (.ref ad), some (.ref d), x2, x3, x4]) ∧ ∃ a : List Int, H' d = some (.dK (kT a)) ∧ a.Nodup ∧ (∀ r ∈ a, isC cs r = true) ∧ come cs ns = (ns.drop i).foldl (fun a p => (steps cs (cs.length + 1) a p.2).1) a)
      ⟨s0, ⟨_, _, _, rfl⟩, [], d0, List.nodup_nil, (by simp), rfl⟩ ht hp (fun i σ H' h => .of h.1) ?_ ?_
    · rintro i b p σ H2 eb ep hq ⟨s2, ⟨x2, x3, x4, rfl⟩, a, hk, nd, hall, hcome⟩
      obtain ⟨q, eq, rfl⟩ := map_at ep
      obtain ⟨hlt, hz2⟩ := List.getElem?_eq_some_iff.mp eq
      rw [List.drop_eq_getElem_cons hlt, hz2, List.foldl_cons] at hcome
      refine ⟨b, _, rfl, hq, rfl, _, _, rfl, _, _, rfl, rfl, ?_⟩
      refine ⟨_, rfl, ?_⟩
      refine while_by (fun σ H' => Same H H' ∧ ∃ (b : List Int) (z : Int) (m : Nat) (y2 y3 : Option V), σ = [some (.ref a0), some (.ref ad), some (.ref d), y2, y3, some (.int z)] ∧ H' d = some (.dK (kT b)) ∧ b.Nodup ∧ (∀ r ∈ b, isC cs r = true) ∧ cs.length < m + b.length ∧ steps cs m b z = steps cs (cs.length + 1) a q.2)
        (fun _ H' => match H' d with | some (.dK kvs) => cs.length + 1 - kvs.length | _ => 0) ⟨s2, a, q.2, cs.length + 1, _, _, rfl, hk, nd, hall, by omega, rfl⟩ ?_ ?_
      · rintro σ H3 ⟨s3, b, z, m, y2, y3, rfl, hb, ndb, hallb, hm, hst⟩
        have a3 := s3 _ _ had
        refine ⟨_, rfl, _, rfl, ad, _, rfl, DGet.k (k := (Sum.inl z : Key)) a3, _, rfl, ?_⟩
        rw [some_c]
        by_cases hc : isC cs z = true
        · rw [hc]
          refine iteT ⟨_, rfl, _, rfl, d, _, rfl, DGet.k (k := (Sum.inl z : Key)) hb, _, rfl, ?_⟩
          rw [val_T]
          by_cases hs : z ∈ b
          · rw [decide_eq_true hs]
            rw [steps_end (.inr hs)] at hst
            exact iteF ⟨s3, ⟨_, _, _, rfl⟩, b, hb, ndb, hallb, by rw [hcome, ← hst]⟩
          · rw [decide_eq_false hs]
            refine iteT ?_
            have hall2 : ∀ r ∈ b ++ [z], isC cs r = true := fun r hr => by
              rcases List.mem_append.mp hr with w | w
              · exact hallb r w
              · rw [List.mem_singleton.mp w]
                exact hc
            have hlen := seen_len (nodup_snoc ndb hs) hall2
            rw [List.length_append] at hlen
            have la : b.length + 1 ≤ cs.length := hlen
            obtain ⟨m', rfl⟩ : ∃ m', m = m' + 1 := ⟨m - 1, by omega⟩
            rw [steps_go hc hs] at hst
            have lk : (kT b).length = b.length := List.length_map ..
            refine ⟨_, rfl, _, rfl, d, _, rfl, DPut.k (k := (Sum.inl z : Key)) hb (Nat.lt_of_lt_of_le (show (kT b).length < 1000 by omega) (sl_le (by decide))), ?_⟩
            rw [put_T hs]
            refine ⟨_, rfl, _, rfl, ad, _, rfl, by rw [← get_nx hc]; exact DGet.k (k := (Sum.inl z : Key)) (by rw [upd_ne nx2]; exact a3), ?_⟩
            refine ⟨⟨fun c o e => ?_, b ++ [z], nx cs z, m', _, _, rfl, upd_same, nodup_snoc ndb hs, hall2, by rw [List.length_append]; show cs.length < m' + (b.length + 1); omega, hst⟩, ?_⟩
            · rw [upd_ne (ne_of_none e hd)]
              exact s3 _ _ e
            · rw [upd_same, hb]
              show cs.length + 1 - (kT (b ++ [z])).length < cs.length + 1 - (kT b).length
              have lk2 : (kT (b ++ [z])).length = b.length + 1 := by
                unfold kT
                rw [List.length_map, List.length_append]
                rfl
              omega
        · have hc' : isC cs z = false := by simpa using hc
          rw [hc']
          rw [steps_end (.inl hc')] at hst
          exact iteF (iteF ⟨s3, ⟨_, _, _, rfl⟩, b, hb, ndb, hallb, by rw [hcome, ← hst]⟩)
      · rintro σ H3 Q1 Q2 mo ⟨v1, e1, v2, e2, a2, o2, e8, e9, b1, e10, h⟩
        refine ⟨v1, e1, v2, e2, a2, o2, e8, e9, b1, e10, ?_⟩
        cases b1 with
        | false => exact mo _ _ h
        | true =>
          obtain ⟨w1, g1, w2, g2, a3, o3, g3, g4, b2, g5, h⟩ := h
          exact ⟨w1, g1, w2, g2, a3, o3, g3, g4, b2, g5, mo _ _ h⟩
    · rintro σ H2 ⟨s2, ⟨x2, x3, x4, rfl⟩, a, hk, nd, hall, hcome⟩
      rw [List.length_map, List.drop_length, List.foldl_nil] at hcome
      exact ⟨_, rfl, k H2 d s2 hd (by rw [hcome]; exact hk)⟩
end
end K1
namespace K1
open PySem PySem.Spec L2 Z K7
section
variable {P : Program} {w : World} {K : PySem.W.Frag} {mg : Str → Option Value} {base : Heap} {C CU : Addr}
theorem ok_reached_cells (T : Txt K mg C CU) (G_reached_from : Pr P w K mg base "reached_from" s_reached_from 1 ["names", "arrows"] (q_reached_from K)) : Pr P w K mg base "reached_cells" s_reached_cells 2 ["store"] (sp_reached_cells K C) := by
  obtain ⟨f, fd, F, gl, bd⟩ := T.d_reached_cells
  refine ⟨f, fd, F, gl, bd, F.ok sc_reached_cells (fun vs H Q E h => ?_) (fun cdv A outer s H vs Q E hr h => ?_)⟩
  · obtain ⟨x, ns, cs, rfl, _⟩ := h
    rfl
  · obtain ⟨x, ns, cs, rfl, ⟨v, u, dx, pd, ad, ld, ks, S⟩, k⟩ := h
    have hu := hu_of hr
    refine ⟨_, (pss_one (ps_ret (pcall G_reached_from (hr.mono (by decide)) (pa_cons (pe_fld (pv 0) rfl) (pa_cons (pe_fld (pv 0) rfl) pa_nil))))), ?_⟩
    exact ⟨_, rfl, x, C, dx, _, _, rfl, S.ob, T.cl, T.n_names, rfl, _, rfl, x, C, dx, _, _, rfl, S.ob, T.cl, T.n_arrows, rfl, v, ad, ns, cs, rfl, S.nm, S.ad_, S.nok, S.cok, k⟩
end
end K1
namespace K1
open PySem PySem.Spec L2 Z K7
section
variable {P : Program} {w : World} {K : PySem.W.Frag} {mg : Str → Option Value} {base : Heap} {C CU : Addr}
theorem ok_reached (T : Txt K mg C CU) (G_need_store : Pr P w K mg base "need_store" s_need_store 1 ["value"] (sp_need_store K C)) (G_reached_cells : Pr P w K mg base "reached_cells" s_reached_cells 2 ["store"] (sp_reached_cells K C)) : Pr P w K mg base "reached" s_reached 3 ["store"] (sp_reached K C) := by
  obtain ⟨f, fd, F, gl, bd⟩ := T.d_reached
  refine ⟨f, fd, F, gl, bd, F.ok sc_reached (fun vs H Q E h => ?_) (fun cdv A outer s H vs Q E hr h => ?_)⟩
  · obtain ⟨x, ns, cs, rfl, _⟩ := h
    rfl
  · obtain ⟨x, ns, cs, rfl, hS, h64, k⟩ := h
    have hu := hu_of hr
    refine ⟨_, (pss_cons (ps_expr (pcall G_need_store (hr.mono (by decide)) (pa_cons (pv 0) pa_nil)))
      (pss_one (ps_ret (pe_callTy call_tupP (by rfl) T.b_tuple (by decide +kernel) (pa_cons (pe_callB (call_sortedDI rfl) (by rfl) T.b_sorted (by decide +kernel) (pa_cons (pcall G_reached_cells (hr.mono (by decide)) (pa_cons (pv 0) pa_nil)) pa_nil)) pa_nil))))), ?_⟩
    refine ⟨_, rfl, x, ns, cs, rfl, hS, ?_⟩
    have cl := come_len cs ns
    refine ⟨_, rfl, x, ns, cs, rfl, hS, fun H1 d s1 hd hk => ?_⟩
    refine ⟨d, kT (come cs ns), come cs ns, rfl, .inl hk, ?_, by omega, fun ys p perm asc hp => ?_⟩
    · unfold kT
      rw [List.map_map]
      rfl
    have s2 := s1.trans (same_new (o := .lst (ys.map V.int)) hp)
    refine ⟨p, _, rfl, .inl (.inl upd_same), fun q o hq ho => ?_⟩
    exact k _ q ys (s2.trans (same_new hq)) perm asc (PT.new ho)
end
end K1
namespace K1
open PySem PySem.Spec L2 Z K7
section
variable {P : Program} {w : World} {K : PySem.W.Frag} {mg : Str → Option Value} {base : Heap} {C CU : Addr}
theorem ok_lost (T : Txt K mg C CU) (G_need_store : Pr P w K mg base "need_store" s_need_store 1 ["value"] (sp_need_store K C)) (G_reached_cells : Pr P w K mg base "reached_cells" s_reached_cells 2 ["store"] (sp_reached_cells K C)) : Pr P w K mg base "lost" s_lost 3 ["store"] (sp_lost K C) := by
  obtain ⟨f, fd, F, gl, bd⟩ := T.d_lost
  refine ⟨f, fd, F, gl, bd, F.ok sc_lost (fun vs H Q E h => ?_) (fun cdv A outer s H vs Q E hr h => ?_)⟩
  · obtain ⟨x, ns, cs, rfl, _⟩ := h
    rfl
  · obtain ⟨x, ns, cs, rfl, hS, k⟩ := h
    have hu := hu_of hr
    refine ⟨_, (pss_cons (ps_expr (pcall G_need_store (hr.mono (by decide)) (pa_cons (pv 0) pa_nil)))
      (pss_cons (ps_set (i := 1) sc_lost.nd rfl (Or.inr rfl) (pcall G_reached_cells (hr.mono (by decide)) (pa_cons (pv 0) pa_nil)))
      (pss_one (ps_ret (pe_callTy call_tupP (by rfl) T.b_tuple (by decide +kernel) (pa_cons (pe_lc (own := [("place", 2), ("_", 3)]) (g := gTup K 2 (gCons (gName 2) (gCons (gName 3) gNil))) rfl sc_lost.nd (pi_tup (pe_fld (pv 0) rfl)) (blkOk_by (own := [("place", 2), ("_", 3)]) (N := N_lost) (sc := defScope s_lost) (by decide +kernel)) (fun _ _ _ _ _ => (pg_tup rfl (pgs_cons (pg_name (i := 2) sc_lost.nd rfl (Or.inl rfl)) (pgs_cons (pg_name (i := 3) sc_lost.nd rfl (Or.inl rfl)) pgs_nil)))) (fun _ _ _ _ _ => (pts_one (pt_cmp (pc_dnotin hu (pv 2) (pv 1))))) (fun _ _ _ _ _ => (pv 2))) pa_nil)))))), ?_⟩
    refine ⟨_, rfl, x, ns, cs, rfl, hS, ?_⟩
    refine ⟨_, rfl, x, ns, cs, rfl, hS, fun H1 d s1 hd hk => ?_⟩
    obtain ⟨v, u, dx, pd, ad, ld, ks, S⟩ := hS
    obtain ⟨a0, rs, hv0, ht, hp⟩ := S.ce
    subst hv0
    have c4 := S.cok.few
    unfold gName tRet tCB tCons
    dsimp only
    refine lcPc cV (fun p => V.int p.1) (fun p => !decide (p.1 ∈ come cs ns)) (fun R hR => ⟨_, rfl, x, C, dx, _, _, rfl, s1 _ _ S.ob, T.cl, T.n_cells, rfl, hR⟩) (PT.same s1 ht) (Paired.imm (.of s1) hp) (by omega) (fun b p H' R R2 sm hq hm h1 h2 => ?_) ?_ ?_ (fun H' D sm hD hl => ?_)
    · refine ⟨b, _, rfl, hq, rfl, _, _, rfl, _, _, rfl, rfl, rfl, _, rfl, _, rfl, d, _, rfl, DGet.k (k := (Sum.inl p.1 : Key)) (sm _ _ hk), _, rfl, rfl, ?_⟩
      rw [val_T]
      cases hb : decide (p.1 ∈ come cs ns) with
      | true => exact iteF (h2 (by rw [hb]; rfl))
      | false => exact iteT ⟨_, rfl, h1 (by rw [hb]; rfl)⟩
    · rintro b σ H' Q1 Q2 m ⟨a, xs, e1, e2, e3, v1, r1, e4, v2, r2, e5, e6, q⟩
      exact ⟨a, xs, e1, e2, e3, v1, r1, e4, v2, r2, e5, e6, m _ _ q⟩
    · rintro σ H' Q1 Q2 m ⟨v1, e1, v2, e2, a, o, e3, e4, k2, e5, q⟩
      exact ⟨v1, e1, v2, e2, a, o, e3, e4, k2, e5, m _ _ q⟩
    refine ⟨D, _, rfl, .inl (.inl hl), fun q o hq ho => ?_⟩
    refine k _ q ((s1.trans sm).trans (same_new hq)) ?_
    have e : (((cs.map (·.1)).filter fun z => !decide (z ∈ come cs ns)).map V.int) = (cs.filter fun p => !decide (p.1 ∈ come cs ns)).map fun p => V.int p.1 := by
      rw [List.filter_map, List.map_map]
      rfl
    rw [e]
    exact PT.new ho
end
end K1
namespace K1
open PySem PySem.Spec L2 Z K7
section
variable {P : Program} {w : World} {K : PySem.W.Frag} {mg : Str → Option Value} {base : Heap} {C CU : Addr}
theorem ok_eq (T : Txt K mg C CU)  : PrE P w K mg base C "Store.__eq__" s_eq 1 (sp_eq K C) := by
  obtain ⟨f, fd, F, O⟩ := T.d_eq
  refine ⟨f, fd, F, O, F.ok sc_eq (fun vs H Q E h => ?_) (fun cdv A outer s H vs Q E hr h => ?_)⟩
  · obtain ⟨x, y, ns, cs, rfl, _⟩ := h
    rfl
  · obtain ⟨x, y, ns, cs, rfl, ⟨v, u, dx, pd, ad, ld, ks, S⟩, h⟩ := h
    have hu := hu_of hr
    refine ⟨_, (pss_one (ps_ret (pe_and (pe_callB call_isi (by rfl) T.b_isinstance (by decide +kernel) (pa_cons (pv 1) (pa_cons (pe_glob (v := V.ref C) rfl T.mgC rfl) pa_nil))) (pe_and (pe_cmpR (op_eqD hr.units) (pe_fld (pv 0) rfl) (pe_fld (pv 1) rfl) (nomark _)) (pe_one (pe_cmpR (op_eqD hr.units) (pe_fld (pv 0) rfl) (pe_fld (pv 1) rfl) (nomark _))))))), ?_⟩
    rcases h with ⟨x', ns', cs', rfl, ⟨v', u', dx', pd', ad', ld', ks', S'⟩, k⟩ | ⟨h, k⟩
    · refine ⟨_, rfl, _, _, _, _, true, rfl, .own C, .base (.ins S'.ob T.cl T.isC T.isG T.isT T.isM), T.k_self, _, rfl, iteT ?_⟩
      refine ⟨_, rfl, x, C, dx, _, _, rfl, S.ob, T.cl, T.n_names, rfl, _, rfl, x', C, dx', _, _, rfl, S'.ob, T.cl, T.n_names, rfl, nD ns, nD ns', dp_n S.nm, dp_n S'.nm, shape_n S.nok, shape_n S'.nok, _, rfl, ?_⟩
      rw [eqv_n]
      have ek : decide (ns = ns' ∧ cs = cs') = (decide (ns = ns') && decide (cs = cs')) := by simp
      rw [ek] at k
      generalize decide (ns = ns') = z at k ⊢
      cases z with
      | false => exact k
      | true =>
        refine iteT ⟨_, rfl, x, C, dx, _, _, rfl, S.ob, T.cl, T.n_cells, rfl, _, rfl, x', C, dx', _, _, rfl, S'.ob, T.cl, T.n_cells, rfl, cD cs, cD cs', dp_c S.ce, dp_c S'.ce, shape_c S.cok, shape_c S'.cok, ?_⟩
        rw [eqv_c]
        exact k
    · rcases h with ⟨z, rfl⟩ | ⟨i, rfl⟩ | ⟨a, xs, rfl, hq⟩
      · exact ⟨_, rfl, _, _, _, _, false, rfl, .own C, .base (.str z), T.k_str, _, rfl, iteF k⟩
      · exact ⟨_, rfl, _, _, _, _, false, rfl, .own C, .base (.int i), T.k_int, _, rfl, iteF k⟩
      · exact ⟨_, rfl, _, _, _, _, false, rfl, .own C, SqT.ty hq, T.k_tup, _, rfl, iteF k⟩
end
end K1
/-! Walks of comprehensions, generic. -/
namespace K1
open PySem PySem.Spec L2 Z
/-! ### walks -/
/-- a comprehension that makes nothing but its list -/
theorem lc_pure {J : It} {n : Nat} {g : TG} {tt : TT} {te : TE} {vs : List Nat} {σ : L2.St} {H1 : Hp} {D : Addr} {Qd : Hp → Prop} (Xs : Nat → V) (c : Nat → Bool) (F : Nat → V) (hD : H1 D = none) (hn : n ≤ 10000)
    (go : ∀ i H, i < n → Same H1 H → J.go i H) (stop : ∀ H, Same H1 H → J.stop n H) (yl : ∀ i H x H', i < n → Same H1 H → J.yld i H x H' → H' = H ∧ x = Xs i)
    (hs : ∀ i H' (R1 : Hp → Prop) (R2 : V → Hp → Prop), i < n → Same H1 H' → (∀ H'', Same H' H'' → c i = false → R1 H'') → (∀ H'', Same H' H'' → c i = true → R2 (F i) H'') →
      g (Xs i) (wipe σ vs) H' fun σ2 H2 => wipe σ2 vs = wipe σ vs ∧ tt σ2 H2 fun b H3 => if b = true then te σ2 H3 R2 else R1 H3)
    (hd : ∀ H, Same H1 H → H D = some (.lst (((List.range n).filter c).map F)) → Qd H) :
    ∃ W : Nat → Nat → Hp → Prop, (∃ m, W 0 m (upd H1 D (.lst []))) ∧ ∀ i m H, W i m H →
      (J.stop i H ∧ Qd H) ∨ (J.go i H ∧ ∃ Nx : Hp → Prop, (∀ H', Nx H' → ∃ m', m' < m ∧ W (i + 1) m' H') ∧ ∀ x H', J.yld i H x H' → g x (wipe σ vs) H' fun σ2 H2 => wipe σ2 vs = wipe σ vs ∧ tt σ2 H2 fun b H3 =>
        if b = true then te σ2 H3 fun y H4 => ∃ acc, H4 D = some (.lst acc) ∧ acc.length < sizeLine ∧ Nx (upd H4 D (.lst (acc ++ [y]))) else Nx H3) := by
  refine lc_it (n := n) (fun i H => Same H1 H ∧ H D = some (.lst (((List.range i).filter c).map F))) ⟨same_new hD, upd_same⟩ (fun i H hi h => go i H hi h.1) (fun H h => stop H h.1) (fun i x H H2 hi h y => ?_) (fun H h => hd H h.1 h.2)
  obtain ⟨sm, hk⟩ := h
  obtain ⟨rfl, rfl⟩ := yl i H x H2 hi sm y
  refine hs i H2 _ _ hi sm (fun H3 s3 hc => ⟨sm.trans s3, ?_⟩) (fun H3 s3 hc => ⟨_, s3 _ _ hk, ?_, ?_, ?_⟩)
  · rw [s3 _ _ hk, List.range_succ, List.filter_append]
    simp [hc]
  · rw [List.length_map]
    have := List.length_filter_le c (List.range i)
    rw [List.length_range] at this
    exact Nat.lt_of_lt_of_le (show _ < 20000 by omega) (sl_le (by decide))
  · intro b o e
    rw [upd_ne (ne_of_none e hD)]
    exact s3 _ _ (sm _ _ e)
  · rw [upd_same, List.range_succ, List.filter_append, List.map_append]
    simp [hc]
theorem filter_map' {α β : Type} (l : List α) (c : α → Bool) (F : α → β) : (l.filter c).map F = (l.filter c).map F := rfl
/-- over a list that stays, by an expression -/
theorem lcL {α : Type} {K : PySem.W.Frag} {te0 : TE} {g : TG} {tt : TT} {te : TE} {vs : List Nat} {σ : L2.St} {H : Hp} {Q : VK} (ls : List α) (wd : α → V) (c : α → Bool) (F : α → V) (hz : ls.length ≤ 10000)
    (hte : ∀ R : VK, (∀ l H1, Same H H1 → SqL K H1 l (ls.map wd) → R (.ref l) H1) → te0 σ H R)
    (hs : ∀ x H' (R1 : Hp → Prop) (R2 : V → Hp → Prop), x ∈ ls → Same H H' → (∀ H'', Same H' H'' → c x = false → R1 H'') → (∀ H'', Same H' H'' → c x = true → R2 (F x) H'') →
      g (wd x) (wipe σ vs) H' fun σ2 H2 => wipe σ2 vs = wipe σ vs ∧ tt σ2 H2 fun b H3 => if b = true then te σ2 H3 R2 else R1 H3)
    (hd : ∀ H' D, Same H H' → H D = none → H' D = some (.lst ((ls.filter c).map F)) → Q (.ref D) H') : tLc (iList K te0) g tt te vs σ H Q := by
  refine hte _ fun l H1 s1 hl => ⟨l, rfl, ⟨_, hl⟩, fun D hD => ?_⟩
  by_cases h0 : ls = []
  · subst h0
    refine lc_pure (n := 0) (fun _ => V.non) (fun _ => true) (fun _ => V.non) hD (by omega) (fun i H' hi => by omega) (fun H' sm => ⟨_, SqL_same sm hl, Nat.le_refl _⟩) (fun i H' x H2 hi => by omega) (fun i _ _ _ hi => by omega) (fun H' sm hk => ?_)
    exact hd H' D (s1.trans sm) (none_of s1 hD) hk
  · obtain ⟨a0, l0, e0⟩ := List.exists_cons_of_ne_nil h0
    haveI : Inhabited α := ⟨a0⟩
    have at_ : ∀ i, i < ls.length → ls[i]? = some (ls.getD i default) := fun i hi => by
      rw [List.getD_eq_getElem?_getD, List.getElem?_eq_getElem hi]; rfl
    have ex : (List.range ls.length).map (fun i => ls.getD i default) = ls := by
      apply List.ext_getElem?
      intro i
      rw [List.getElem?_map]
      by_cases hi : i < ls.length
      · rw [List.getElem?_range hi, at_ i hi]; rfl
      · rw [List.getElem?_eq_none (by simpa using hi), List.getElem?_eq_none (by omega)]; rfl
    refine lc_pure (n := ls.length) (fun i => wd (ls.getD i default)) (fun i => c (ls.getD i default)) (fun i => F (ls.getD i default)) hD hz
      (fun i H' hi sm => ⟨ls.map wd, wd (ls.getD i default), SqL_same sm hl, by rw [List.getElem?_map, at_ i hi]; rfl⟩) (fun H' sm => ⟨ls.map wd, SqL_same sm hl, by simp⟩) (fun i H' x H2 hi sm y => ?_)
      (fun i H' R1 R2 hi sm h1 h2 => hs _ H' R1 R2 (List.mem_of_getElem? (at_ i hi)) (s1.trans sm) h1 h2) (fun H' sm hk => ?_)
    · obtain ⟨e1, y⟩ := y
      have y2 := y _ (SqL_same sm hl)
      rw [List.getElem?_map, at_ i hi] at y2
      exact ⟨e1, (Option.some.inj y2).symm⟩
    · refine hd H' D (s1.trans sm) (none_of s1 hD) ?_
      rw [hk]
      congr 2
      conv => rhs; rw [← ex]
      rw [List.filter_map, List.map_map]
      rfl
/-- over a tuple -/
theorem lcT {α : Type} {K : PySem.W.Frag} {te0 : TE} {g : TG} {tt : TT} {te : TE} {vs : List Nat} {σ : L2.St} {H : Hp} {Q : VK} (ls : List α) (wd : α → V) (c : α → Bool) (F : α → V) (hz : ls.length ≤ 10000)
    (hte : ∀ R : VK, (∀ l H1, Same H H1 → SqT K H1 l (ls.map wd) → R (.ref l) H1) → te0 σ H R)
    (hs : ∀ x H' (R1 : Hp → Prop) (R2 : V → Hp → Prop), x ∈ ls → Same H H' → (∀ H'', Same H' H'' → c x = false → R1 H'') → (∀ H'', Same H' H'' → c x = true → R2 (F x) H'') →
      g (wd x) (wipe σ vs) H' fun σ2 H2 => wipe σ2 vs = wipe σ vs ∧ tt σ2 H2 fun b H3 => if b = true then te σ2 H3 R2 else R1 H3)
    (hd : ∀ H' D, Same H H' → H D = none → H' D = some (.lst ((ls.filter c).map F)) → Q (.ref D) H') : tLc (iTup K te0) g tt te vs σ H Q := by
  refine hte _ fun l H1 s1 hl => ⟨l, rfl, ⟨_, hl⟩, fun D hD => ?_⟩
  by_cases h0 : ls = []
  · subst h0
    refine lc_pure (n := 0) (fun _ => V.non) (fun _ => true) (fun _ => V.non) hD (by omega) (fun i H' hi => by omega) (fun H' sm => ⟨_, SqT.imm (.of sm) hl, Nat.le_refl _⟩) (fun i H' x H2 hi => by omega) (fun i _ _ _ hi => by omega) (fun H' sm hk => ?_)
    exact hd H' D (s1.trans sm) (none_of s1 hD) hk
  · obtain ⟨a0, l0, e0⟩ := List.exists_cons_of_ne_nil h0
    haveI : Inhabited α := ⟨a0⟩
    have at_ : ∀ i, i < ls.length → ls[i]? = some (ls.getD i default) := fun i hi => by
      rw [List.getD_eq_getElem?_getD, List.getElem?_eq_getElem hi]; rfl
    have ex : (List.range ls.length).map (fun i => ls.getD i default) = ls := by
      apply List.ext_getElem?
      intro i
      rw [List.getElem?_map]
      by_cases hi : i < ls.length
      · rw [List.getElem?_range hi, at_ i hi]; rfl
      · rw [List.getElem?_eq_none (by simpa using hi), List.getElem?_eq_none (by omega)]; rfl
    refine lc_pure (n := ls.length) (fun i => wd (ls.getD i default)) (fun i => c (ls.getD i default)) (fun i => F (ls.getD i default)) hD hz
      (fun i H' hi sm => ⟨ls.map wd, wd (ls.getD i default), SqT.imm (.of sm) hl, by rw [List.getElem?_map, at_ i hi]; rfl⟩) (fun H' sm => ⟨ls.map wd, SqT.imm (.of sm) hl, by simp⟩) (fun i H' x H2 hi sm y => ?_)
      (fun i H' R1 R2 hi sm h1 h2 => hs _ H' R1 R2 (List.mem_of_getElem? (at_ i hi)) (s1.trans sm) h1 h2) (fun H' sm hk => ?_)
    · obtain ⟨e1, y⟩ := y
      have y2 := y _ (SqT.imm (.of sm) hl)
      rw [List.getElem?_map, at_ i hi] at y2
      exact ⟨e1, (Option.some.inj y2).symm⟩
    · refine hd H' D (s1.trans sm) (none_of s1 hD) ?_
      rw [hk]
      congr 2
      conv => rhs; rw [← ex]
      rw [List.filter_map, List.map_map]
      rfl
theorem lcR1 {ta : TA} {g : TG} {tt : TT} {te : TE} {vs : List Nat} {σ : L2.St} {H : Hp} {Q : VK} (n : Nat) (c : Nat → Bool) (F : Nat → V) (hn : n ≤ 10000) (hta : ∀ R : List V → Hp → Prop, R [V.int (n : Int)] H → ta σ H R)
    (hs : ∀ i H' (R1 : Hp → Prop) (R2 : V → Hp → Prop), i < n → Same H H' → (∀ H'', Same H' H'' → c i = false → R1 H'') → (∀ H'', Same H' H'' → c i = true → R2 (F i) H'') →
      g (.int (i : Int)) (wipe σ vs) H' fun σ2 H2 => wipe σ2 vs = wipe σ vs ∧ tt σ2 H2 fun b H3 => if b = true then te σ2 H3 R2 else R1 H3)
    (hd : ∀ H' D, Same H H' → H D = none → H' D = some (.lst (((List.range n).filter c).map F)) → Q (.ref D) H') : tLc (iRng1 ta) g tt te vs σ H Q := by
  refine hta _ ⟨n, rfl, by omega, by omega, fun D hD => ?_⟩
  refine lc_pure (n := n) (fun i => V.int (i : Int)) c F hD hn (fun i H' hi _ => by show i < (n : Int).toNat; omega) (fun H' _ => by show (n : Int).toNat ≤ n; omega) (fun i H' x H2 hi _ y => ?_) hs (fun H' sm hk => hd H' D sm hD hk)
  obtain ⟨e1, e2⟩ := y
  exact ⟨e1, by rw [e2, Int.zero_add]⟩
theorem lcR2 {ta : TA} {g : TG} {tt : TT} {te : TE} {vs : List Nat} {σ : L2.St} {H : Hp} {Q : VK} (lo n : Nat) (hi : Int) (hhi : hi = ((lo + n : Nat) : Int)) (c : Nat → Bool) (F : Nat → V) (hn : n ≤ 10000) (hlo : lo ≤ 10000) (hta : ∀ R : List V → Hp → Prop, R [V.int (lo : Int), V.int hi] H → ta σ H R)
    (hs : ∀ i H' (R1 : Hp → Prop) (R2 : V → Hp → Prop), lo ≤ i → i < lo + n → Same H H' → (∀ H'', Same H' H'' → c i = false → R1 H'') → (∀ H'', Same H' H'' → c i = true → R2 (F i) H'') →
      g (.int (i : Int)) (wipe σ vs) H' fun σ2 H2 => wipe σ2 vs = wipe σ vs ∧ tt σ2 H2 fun b H3 => if b = true then te σ2 H3 R2 else R1 H3)
    (hd : ∀ H' D, Same H H' → H D = none → H' D = some (.lst (((List.range' lo n).filter c).map F)) → Q (.ref D) H') : tLc (iRng2 ta) g tt te vs σ H Q := by
  refine hta _ ⟨lo, hi, rfl, ⟨by omega, by omega, by omega, by omega⟩, fun D hD => ?_⟩
  refine lc_pure (n := n) (fun i => V.int ((lo + i : Nat) : Int)) (fun i => c (lo + i)) (fun i => F (lo + i)) hD hn (fun i H' hi' _ => by show i < (hi - (lo : Int)).toNat; omega) (fun H' _ => by show (hi - (lo : Int)).toNat ≤ n; omega) (fun i H' x H2 hi' _ y => ?_)
    (fun i H' R1 R2 hi' sm h1 h2 => hs (lo + i) H' R1 R2 (by omega) (by omega) sm h1 h2) (fun H' sm hk => hd H' D sm hD ?_)
  · obtain ⟨e1, e2⟩ := y
    exact ⟨e1, by rw [e2]; congr 1⟩
  · rw [hk, List.range'_eq_map_range, List.filter_map, List.map_map]
    rfl
end K1
namespace K1
open PySem PySem.Spec L2 Z K7 LamX
theorem kb_reached {K : PySem.W.Frag} {f : Addr} {fd : FuncData} (F : Fun K "reached" "reached" s_reached f fd) : KBn K fd ["store"] 0 ["store"] (fun us ws => us ++ ws) (fun vs zs => vs ++ zs) := by
  obtain ⟨oc, od, kV, doc, pm, an, cdv, ct, osl, rfl, lk, hcd⟩ := F.ex
  exact kbn_of (fun us ws => us ++ ws) (fun h1 h2 => h1.append h2) (fun us ws h1 h2 => match us, ws, h1, h2 with | [], [_], _, _ => rfl)
theorem kb_lost {K : PySem.W.Frag} {f : Addr} {fd : FuncData} (F : Fun K "lost" "lost" s_lost f fd) : KBn K fd ["store"] 0 ["store"] (fun us ws => us ++ ws) (fun vs zs => vs ++ zs) := by
  obtain ⟨oc, od, kV, doc, pm, an, cdv, ct, osl, rfl, lk, hcd⟩ := F.ex
  exact kbn_of (fun us ws => us ++ ws) (fun h1 h2 => h1.append h2) (fun us ws h1 h2 => match us, ws, h1, h2 with | [], [_], _, _ => rfl)
theorem sorted_uniq : ∀ {a b : List Int}, a.Perm b → a.Pairwise (· ≤ ·) → b.Pairwise (· ≤ ·) → a = b
  | [], b, h, _, _ => (List.Perm.nil_eq h)
  | x :: t, [], h, _, _ => by have := h.length_eq; simp at this
  | x :: t, y :: u, h, ha, hb => by
    obtain ⟨a1, a2⟩ := List.pairwise_cons.mp ha
    obtain ⟨b1, b2⟩ := List.pairwise_cons.mp hb
    have e : x = y := by
      have h1 : x ∈ y :: u := h.mem_iff.mp List.mem_cons_self
      have h2 : y ∈ x :: t := h.mem_iff.mpr List.mem_cons_self
      rcases List.mem_cons.mp h1 with z | z
      · exact z
      · rcases List.mem_cons.mp h2 with w | w
        · exact w.symm
        · have := a1 y w
          have := b1 x z
          omega
    subst e
    rw [sorted_uniq (List.Perm.cons_inv h) a2 b2]
def fourD (ys rest : List Int) : List PyData := [.tuple (ys.map PyData.int), .tuple (rest.map PyData.int), .tuple (ys.map PyData.int), .tuple (rest.map PyData.int)]
theorem dp_four {K : PySem.W.Frag} {H : Hp} {ys rest : List Int} {t1 t2 t3 t4 : Addr} (h1 : PT H t1 (ys.map V.int)) (h2 : PT H t2 (rest.map V.int)) (h3 : PT H t3 (ys.map V.int)) (h4 : PT H t4 (rest.map V.int)) : DpAll K H [.ref t1, .ref t2, .ref t3, .ref t4] (fourD ys rest) :=
  .cons (.tup h1.sq (dp_ints _)) (.cons (.tup h2.sq (dp_ints _)) (.cons (.tup h3.sq (dp_ints _)) (.cons (.tup h4.sq (dp_ints _)) .nil)))
theorem fit_four {ys rest : List Int} (h1 : ys.length ≤ 30) (h2 : rest.length ≤ 30) (hy : ∀ z ∈ ys, 0 ≤ z ∧ z ≤ 999) (hr : ∀ z ∈ rest, 0 ≤ z ∧ z ≤ 999) : ∀ d ∈ fourD ys rest, Fit d 300 1 := fun d hd => by
  have A := fit_tup (fit_ints hy)
  have B := fit_tup (fit_ints hr)
  rw [List.length_map] at A B
  simp only [fourD, List.mem_cons, List.not_mem_nil, or_false] at hd
  rcases hd with rfl | rfl | rfl | rfl
  · exact fit_le A (by omega) (by decide)
  · exact fit_le B (by omega) (by decide)
  · exact fit_le A (by omega) (by decide)
  · exact fit_le B (by omega) (by decide)
theorem inV_false (n : Nat) : inV (.bl false) (List.replicate n (V.bl true)) = false := by
  unfold inV
  rw [List.any_eq_false]
  intro y hy
  obtain rfl := (List.mem_replicate.mp hy).2
  decide
theorem St.cht {K : PySem.W.Frag} {C j x : Addr} {H H' : Hp} {ns : List (Nat × Int)} {cs : List (Int × Int)} (e : ChT j H H') (hj : JugAt H j) (h : St K C H x ns cs) : St K C H' x ns cs := by
  have im : Imm H H' := ⟨fun b xs q => e b _ q (hj.neL q (fun _ z => by cases z)) (fun _ z => by cases z), fun b o u q => e b _ q (hj.neL q (fun _ z => by cases z)) (fun _ z => by cases z)⟩
  have g : ∀ {b : Addr} {o : HO}, H b = some o → (∀ l, o ≠ .lst l) → (∀ ps, o ≠ .tbl ps) → H' b = some o := fun q n t => e _ _ q (hj.neL q n) t
  obtain ⟨v, u, dx, pd, ad, ld, ks, S⟩ := h
  exact ⟨v, u, dx, pd, ad, ld, ks, g S.ob (fun _ z => by cases z) (fun _ z => by cases z), S.nm.imm im, S.ce.imm im, g S.pd_ (fun _ z => by cases z) (fun _ z => by cases z), g S.ad_ (fun _ z => by cases z) (fun _ z => by cases z), g S.ld_ (fun _ z => by cases z) (fun _ z => by cases z), S.led, S.nok, S.cok⟩
theorem TP.cht {K : PySem.W.Frag} {j : Addr} {H H' : Hp} {v : V} {ls : List (V × V)} (e : ChT j H H') (hj : JugAt H j) (h : TP K H v ls) : TP K H' v ls :=
  h.imm ⟨fun b xs q => e b _ q (hj.neL q (fun _ z => by cases z)) (fun _ z => by cases z), fun b o u q => e b _ q (hj.neL q (fun _ z => by cases z)) (fun _ z => by cases z)⟩
section
variable {P : Program} {w : World} {K : PySem.W.Frag} {mg : Str → Option Value} {base : Heap} {C CU c Pt : Addr}
theorem ok_law_right (T : Txt K mg C CU) (G__law_drawn_store : Pr P w K mg base "_law_drawn_store" s_law_drawn_store 4 ["_law_jug_here", "_law_letters_here", "_law_most"] (sp_law_drawn_store K)) (G__law_letters : Pr P w K mg base "_law_letters" s_law_letters 3 ["_law_jug_here", "_law_many"] sp_law_letters) (G__law_one_of : Pr P w K mg base "_law_one_of" s_law_one_of 2 ["_law_jug_here", "_law_some"] (sp_law_one_of K)) (G_init : PrI P w K mg base C "Store.__init__" s_init 5 ["self", "names", "cells"] (sp_init K C)) (G__law_arrows : Pr P w K mg base "_law_arrows" s_law_arrows 1 ["_law_cells"] (sp_law_arrows K)) (G__law_common_right : PrG P w K mg base "_law_common_right" s_law_common_right 6 ["_law_made", "_law_names", "_law_arrows_here"] (sp_law_common_right K C)) (G__law_knots : Pr P w K mg base "_law_knots" s_law_knots 2 ["_law_names", "_law_arrows_here"] (sp_law_knots K)) (G__law_way_right : PrG P w K mg base "_law_way_right" s_law_way_right 6 ["_law_made", "_law_names", "_law_arrows_here", "_law_k"] (sp_law_way_right K C)) (G__law_take : Pr P w K mg base "_law_take" s_law_take 1 ["_law_jug_here", "_law_many"] sp_law_take) (G_reached : Pr P w K mg base "reached" s_reached 3 ["store"] (sp_reached K C)) (G_lost : Pr P w K mg base "lost" s_lost 3 ["store"] (sp_lost K C)) (G__law_refusals_right : PrG P w K mg base "_law_refusals_right" s_law_refusals_right 12 ["_law_jug_here", "_law_made", "_law_names"] (q_refusals K C Pt QL)) : PrG P w K mg base "_law_right" s_law_right 13 ["_law_jug_here"] (q_right Pt QL) := by
  obtain ⟨f, fd, F, gl, bd⟩ := T.d__law_right
  refine ⟨f, fd, F, gl, bd, okG F sc_law_right (fun vs H Q E h => ?_) (fun cdv A outer s H vs Q E hr hgd h => ?_)⟩
  · obtain ⟨j, rfl, _⟩ := h
    rfl
  · obtain ⟨j, rfl, hj, hT, k⟩ := h
    have hu := hu_of hr
    refine ⟨_, (pss_cons (ps_asg (pcall G__law_drawn_store (hr.mono (by decide)) (pa_cons (pv 0) (pa_cons (pcall G__law_letters (hr.mono (by decide)) (pa_cons (pv 0) (pa_cons (pe_op op_add pe_int (pcall G__law_take (hr.mono (by decide)) (pa_cons (pv 0) (pa_cons pe_int pa_nil)))) pa_nil))) (pa_cons (pcall G__law_one_of (hr.mono (by decide)) (pa_cons (pv 0) (pa_cons (pe_lst (pa_cons pe_int (pa_cons pe_int (pa_cons pe_int pa_nil)))) pa_nil))) pa_nil)))) (pg_tup rfl (pgs_cons (pg_name (i := 1) sc_law_right.nd rfl (Or.inr rfl)) (pgs_cons (pg_name (i := 2) sc_law_right.nd rfl (Or.inl rfl)) pgs_nil))))
      (pss_cons (ps_asg (pe_tup (pa_cons (pmake G_init T.mgC (hr.mono (by decide)) (pa_cons (pv 1) (pa_cons (pv 2) pa_nil))) (pa_cons (pcall G__law_arrows (hr.mono (by decide)) (pa_cons (pv 2) pa_nil)) pa_nil))) (pg_tup rfl (pgs_cons (pg_name (i := 3) sc_law_right.nd rfl (Or.inr rfl)) (pgs_cons (pg_name (i := 4) sc_law_right.nd rfl (Or.inr rfl)) pgs_nil))))
      (pss_cons (ps_set (i := 5) sc_law_right.nd rfl (Or.inr rfl) (pe_callB cr_sortedI (by rfl) T.b_sorted (by decide +kernel) (pa_cons (pe_ix ix_tup (pcall G__law_knots (hr.mono (by decide)) (pa_cons (pv 1) (pa_cons (pv 4) pa_nil))) pe_int (fun _ _ => rfl)) pa_nil)))
      (pss_cons (ps_setLc (i := 6) (own := [("_law_place", 7), ("_law_goal", 8)]) (g := gTup K 2 (gCons (gName 7) (gCons (gName 8) gNil))) rfl sc_law_right.nd rfl rfl (sw_true rfl rfl rfl (by decide +kernel)) (pi_tup (pv 2)) (blkOk_by (own := [("_law_place", 7), ("_law_goal", 8)]) (N := N_law_right) (sc := defScope s_law_right) (by decide +kernel)) (fun _ _ _ _ _ => (pg_tup rfl (pgs_cons (pg_name (i := 7) sc_law_right.nd rfl (Or.inl rfl)) (pgs_cons (pg_name (i := 8) sc_law_right.nd rfl (Or.inl rfl)) pgs_nil)))) (fun _ _ _ _ _ => (pts_one (pt_cmpR (op_notIn_seqK (K := K) rfl) (pv 7) (pv 5) (by rfl)))) (fun _ _ _ _ _ => (pv 7)))
      (pss_cons (ps_if (pt_cmpR op_ne (pe_callB (call_show hgd hr.units) (by rfl) T.b_repr (by decide +kernel) (pa_cons (pe_lst (pa_cons (pcall G_reached (hr.mono (by decide)) (pa_cons (pv 3) pa_nil)) (pa_cons (pcall G_lost (hr.mono (by decide)) (pa_cons (pv 3) pa_nil)) (pa_cons (pcallN0 G_reached (hr.mono (by decide)) kb_reached (pk_cons (pv 3) pk_nil)) (pa_cons (pcallN0 G_lost (hr.mono (by decide)) kb_lost (pk_cons (pv 3) pk_nil)) pa_nil))))) pa_nil)) (pe_callB (call_show hgd hr.units) (by rfl) T.b_repr (by decide +kernel) (pa_cons (pe_lst (pa_cons (pe_callTy call_tupP (by rfl) T.b_tuple (by decide +kernel) (pa_cons (pv 5) pa_nil)) (pa_cons (pe_callTy call_tupP (by rfl) T.b_tuple (by decide +kernel) (pa_cons (pv 6) pa_nil)) (pa_cons (pe_callTy call_tupP (by rfl) T.b_tuple (by decide +kernel) (pa_cons (pv 5) pa_nil)) (pa_cons (pe_callTy call_tupP (by rfl) T.b_tuple (by decide +kernel) (pa_cons (pv 6) pa_nil)) pa_nil))))) pa_nil)) (nomark _)) (pss_one (ps_ret pe_bl)) pss_nil)
      (pss_cons (ps_if (pt_cmpR op_in_seq pe_bl (pe_lc (own := [("_law_k", 9)]) (g := gName 9) (tt := tYes) rfl sc_law_right.nd (pi_range1 rfl T.b_range (pa_cons (pe_callB call_len_seq (by rfl) T.b_len (by decide +kernel) (pa_cons (pv 1) pa_nil)) pa_nil)) (blkOk_by (own := [("_law_k", 9)]) (N := N_law_right) (sc := defScope s_law_right) (by decide +kernel)) (fun _ _ _ _ _ => (pg_name (i := 9) sc_law_right.nd rfl (Or.inl rfl))) (fun _ _ _ _ _ => pts_nil) (fun _ _ _ _ _ => (pcallG G__law_way_right (hr.mono (by decide)) hgd (pa_cons (pv 3) (pa_cons (pv 1) (pa_cons (pv 4) (pa_cons (pv 9) pa_nil))))))) (by rfl)) (pss_one (ps_ret pe_bl)) pss_nil)
      (pss_one (ps_ret (pe_and (pcallG G__law_common_right (hr.mono (by decide)) hgd (pa_cons (pv 3) (pa_cons (pv 1) (pa_cons (pv 4) pa_nil)))) (pe_and (pcallG G__law_refusals_right (hr.mono (by decide)) hgd (pa_cons (pv 0) (pa_cons (pv 3) (pa_cons (pv 1) pa_nil)))) (pe_one (pe_cmpR (op_eqD hr.units) (pe_fld (pv 3) rfl) (pv 2) (nomark _))))))))))))), ?_⟩
    refine ⟨_, rfl, _, rfl, _, rfl, j, 4, rfl, hj, by decide, by decide, fun H1 k1 c1 j1 k10 k14 => ⟨_, _, rfl, rfl, j, 1 + k1, rfl, j1, by omega, by omega, fun H2 pl lcs c2 j2 hpl hl2 len2 rng asc => ?_⟩⟩
    have c02 := c1.trans c2
    refine ⟨_, rfl, by show 3 ≤ sizeLine; exact sl_le (by decide), fun l0 hl0 => ?_⟩
    have nl0 := j2.ne hl0
    refine ⟨j, l0, _, rfl, jug_upd nl0 j2, nl0, .inl (.inl upd_same), by simp, by simp, fun H3 x3 c3 j3 hx3 => ?_⟩
    have npl : pl ≠ j := j1.ne hpl
    have hl3 := c3 _ _ (same_new (o := .lst [V.int 4, V.int 8, V.int 20]) hl0 _ _ hl2) npl
    have c03 := (c02.trans (Chg.of (same_new (o := .lst [V.int 4, V.int 8, V.int 20]) hl0))).trans c3
    obtain ⟨m0, rfl, m00, m30⟩ : ∃ z : Int, x3 = .int z ∧ 0 ≤ z ∧ z ≤ 30 := by
      simp only [List.mem_cons, List.not_mem_nil, or_false] at hx3
      rcases hx3 with rfl | rfl | rfl <;> exact ⟨_, rfl, by decide, by decide⟩
    refine ⟨j, pl, m0, lcs, rfl, j3, hl3, npl, m00, m30, by omega, by omega, rng, asc, fun H4 t v u ns cs c4 j4 ht hv hu2 ok ck few => ?_⟩
    have c04 := c03.trans c4
    have hT4 : TabS H4 Pt QL := tabs_chg c04 hj hT
    refine ⟨t, _, rfl, .inl (.inl ht), rfl, _, _, rfl, _, _, rfl, rfl, ?_⟩
    refine ⟨_, rfl, _, rfl, fun x dx hx hdx hne => ?_⟩
    have q1 := same_raw (C := C) hx hdx hne
    refine ⟨x, dx, v, u, ns, cs, rfl, upd_same, TP.imm (.of q1) hv, TP.imm (.of q1) hu2, ok, ck, fun H5 st5 cg5 => ⟨rfl, ?_⟩⟩
    have s5 := same_mk hx hdx hne cg5
    refine ⟨_, rfl, u, cs, rfl, TP.imm (.of s5) hu2, ck, fun H6 d s6 hd hd6 => ?_⟩
    refine ⟨by show 2 ≤ sizeLine; exact sl_le (by decide), fun p7 n7 => ⟨p7, _, rfl, .inl (.inl upd_same), rfl, _, _, rfl, _, _, rfl, rfl, ?_⟩⟩
    have s7 := same_new (o := .tup [V.ref x, V.ref d]) n7
    generalize upd H6 p7 (.tup [V.ref x, V.ref d]) = H7 at s7 ⊢
    have s47 := (s5.trans s6).trans s7
    have hd7 := s7 _ _ hd6
    have st7 : St K C H7 x ns cs := St.same (s6.trans s7) st5
    have hv7 := TP.imm (.of s47) hv
    have hu7 := TP.imm (.of s47) hu2
    refine ⟨_, rfl, _, rfl, v, d, ns, cs, rfl, hv7, hd7, ok, by omega, fun H8 t8 lf lc s8 ht8 hlc => ⟨t8, _, 1, _, rfl, rfl, .inl (.inl ht8), at_nat (i := 1) rfl, lc, come cs ns, rfl, .inl (.inl hlc), fun ys p9 perm asc9 n9 => ?_⟩⟩
    have s9 := same_new (o := .lst (ys.map V.int)) n9
    have e9 : (upd H8 p9 (.lst (ys.map V.int))) p9 = some (.lst (ys.map V.int)) := upd_same
    generalize upd H8 p9 (.lst (ys.map V.int)) = H9 at s9 e9 ⊢
    have s49 := (s47.trans s8).trans s9
    have st9 : St K C H9 x ns cs := St.same (s8.trans s9) st7
    have hd9 := s9 _ _ (s8 _ _ hd7)
    have hv9 := TP.imm (.of s49) hv
    have hu9 := TP.imm (.of s49) hu2
    obtain ⟨a1, rs1, rfl, ht1, hp1⟩ := id hu9
    unfold gName tSeq tAsg
    dsimp only
    refine lcPc cV (fun p => V.int p.1) (fun p => !decide (p.1 ∈ ys)) (fun R hR => ⟨_, rfl, hR⟩) ht1 hp1 (by omega) (fun b p H' R R2 sm hq hm h1 h2 => ?_) ?_ ?_ (fun HA D sA hD hl => ?_)
    · refine ⟨b, _, rfl, hq, rfl, _, _, rfl, _, _, rfl, rfl, rfl, _, rfl, _, rfl, p9, _, rfl, .inl (.inl (.inl (sm _ _ e9))), rfl, flat_int _, _, congrArg (fun c => V.bl (!c)) (inV_int p.1 _), ?_⟩
      cases hb : decide (p.1 ∈ ys) with
      | true => exact ⟨rfl, h2 (by rw [hb]; rfl)⟩
      | false => exact ⟨rfl, _, rfl, h1 (by rw [hb]; rfl)⟩
    · rintro b σ H' Q1 Q2 m ⟨a, xs, e1, e2, e3, v1, r1, e4, v2, r2, e5, e6, q⟩
      exact ⟨a, xs, e1, e2, e3, v1, r1, e4, v2, r2, e5, e6, m _ _ q⟩
    · rintro σ H' Q1 Q2 m ⟨v1, e1, v2, e2, a, o, e3, e4, e5, e6, k2, e7, q⟩
      exact ⟨v1, e1, v2, e2, a, o, e3, e4, e5, e6, k2, e7, m _ _ q⟩
    have s4A := s49.trans sA
    have stA : St K C HA x ns cs := St.same sA st9
    have hrest : (cs.filter (fun p => !decide (p.1 ∈ ys))).map (fun p => V.int p.1) = ((cs.map (·.1)).filter (fun z => !decide (z ∈ come cs ns))).map V.int := by
      rw [List.filter_map, List.map_map]
      refine congrArg _ (List.filter_congr fun p _ => ?_)
      show (!decide (p.1 ∈ ys)) = !decide (p.1 ∈ come cs ns)
      rw [Bool.eq_iff_iff]
      simp [perm.mem_iff]
    rw [hrest] at hl
    obtain ⟨rest, hrs⟩ : ∃ rest, rest = (cs.map (·.1)).filter (fun z => !decide (z ∈ come cs ns)) := ⟨_, rfl⟩
    rw [← hrs] at hl
    have rlen : rest.length ≤ 30 := by
      rw [hrs]
      have := List.length_filter_le (fun z => !decide (z ∈ come cs ns)) (cs.map (·.1))
      rw [List.length_map] at this
      omega
    have ylen : ys.length ≤ 30 := by
      rw [perm.length_eq]
      have := come_len cs ns
      omega
    have hplr : ∀ z ∈ rest, 0 ≤ z ∧ z ≤ 999 := fun z hz => by
      rw [hrs] at hz
      obtain ⟨p, hp, rfl⟩ := List.mem_map.mp (List.mem_filter.mp hz |>.1)
      obtain ⟨a, b, _, _⟩ := ck.pl p hp
      exact ⟨by omega, b⟩
    have hply : ∀ z ∈ ys, 0 ≤ z ∧ z ≤ 999 := fun z hz => by
      obtain ⟨p, hp, rfl⟩ := List.mem_map.mp (isC_mem.mp ((come_ok cs ns [] List.nodup_nil (by simp)).2 z (perm.mem_iff.mp hz)))
      obtain ⟨a, b, _, _⟩ := ck.pl p hp
      exact ⟨by omega, b⟩
    have e9A := sA _ _ e9
    refine ⟨_, rfl, x, ns, cs, rfl, stA, by omega, fun HB t1 l1 sB pm1 as1 pt1 => ?_⟩
    cases (sorted_uniq (pm1.trans perm.symm) as1 asc9)
    refine ⟨_, rfl, x, ns, cs, rfl, St.same sB stA, fun HC t2 sC pt2 => ?_⟩
    rw [← hrs] at pt2
    refine ⟨_, rfl, rfl, x, ns, cs, rfl, St.same (sB.trans sC) stA, by omega, fun HD t3 l3 sD pm3 as3 pt3 => ?_⟩
    cases (sorted_uniq (pm3.trans perm.symm) as3 asc9)
    refine ⟨_, rfl, rfl, x, ns, cs, rfl, St.same ((sB.trans sC).trans sD) stA, fun HE t4 sE pt4 => ?_⟩
    rw [← hrs] at pt4
    refine ⟨by show 4 ≤ sizeLine; exact sl_le (by decide), fun p1 hp1 => ?_⟩
    have sAE := ((sB.trans sC).trans sD).trans sE
    have sF := same_new (o := .lst [V.ref t1, V.ref t2, V.ref t3, V.ref t4]) hp1
    have eF : upd HE p1 (.lst [V.ref t1, V.ref t2, V.ref t3, V.ref t4]) p1 = some (.lst [V.ref t1, V.ref t2, V.ref t3, V.ref t4]) := upd_same
    generalize upd HE p1 (.lst [V.ref t1, V.ref t2, V.ref t3, V.ref t4]) = HF at sF eF ⊢
    obtain ⟨r1, r2, r3, r4, r5⟩ := repr_ok (K := K) (.inl (.inl eF)) (dp_four (PT.same (((sC.trans sD).trans sE).trans sF) pt1) (PT.same ((sD.trans sE).trans sF) pt2) (PT.same (sE.trans sF) pt3) (PT.same sF pt4)) (fit_four (by omega) (by omega) hply hplr) (by show (300 + 2) * 4 + 3 ≤ 16000000; decide) (by decide)
    refine ⟨_, _, rfl, .of r1 r3, r2, r4, r5, ?_⟩
    have s4F := s4A.trans (sAE.trans sF)
    have e9F := (sAE.trans sF) _ _ e9A
    have hlF := (sAE.trans sF) _ _ hl
    refine ⟨_, rfl, p9, _, rfl, .inl (.inl e9F), fun q1 o1 nq1 ho1 => ?_⟩
    have g1 := same_new (o := .frz o1 (.tup (ys.map V.int))) nq1
    have pq1 : PT (upd HF q1 (.frz o1 (.tup (ys.map V.int)))) q1 (ys.map V.int) := PT.new ho1
    generalize upd HF q1 (.frz o1 (.tup (ys.map V.int))) = HG at g1 pq1 ⊢
    refine ⟨_, rfl, D, _, rfl, .inl (.inl (g1 _ _ hlF)), fun q2 o2 nq2 ho2 => ?_⟩
    have g2 := same_new (o := .frz o2 (.tup (rest.map V.int))) nq2
    have pq2 : PT (upd HG q2 (.frz o2 (.tup (rest.map V.int)))) q2 (rest.map V.int) := PT.new ho2
    generalize upd HG q2 (.frz o2 (.tup (rest.map V.int))) = HH at g2 pq2 ⊢
    refine ⟨_, rfl, p9, _, rfl, .inl (.inl (g2 _ _ (g1 _ _ e9F))), fun q3 o3 nq3 ho3 => ?_⟩
    have g3 := same_new (o := .frz o3 (.tup (ys.map V.int))) nq3
    have pq3 : PT (upd HH q3 (.frz o3 (.tup (ys.map V.int)))) q3 (ys.map V.int) := PT.new ho3
    generalize upd HH q3 (.frz o3 (.tup (ys.map V.int))) = HI at g3 pq3 ⊢
    refine ⟨_, rfl, D, _, rfl, .inl (.inl (g3 _ _ (g2 _ _ (g1 _ _ hlF)))), fun q4 o4 nq4 ho4 => ?_⟩
    have g4 := same_new (o := .frz o4 (.tup (rest.map V.int))) nq4
    have pq4 : PT (upd HI q4 (.frz o4 (.tup (rest.map V.int)))) q4 (rest.map V.int) := PT.new ho4
    generalize upd HI q4 (.frz o4 (.tup (rest.map V.int))) = HJ at g4 pq4 ⊢
    refine ⟨by show 4 ≤ sizeLine; exact sl_le (by decide), fun p2 hp2 => ?_⟩
    have g5 := same_new (o := .lst [V.ref q1, V.ref q2, V.ref q3, V.ref q4]) hp2
    have e5 : upd HJ p2 (.lst [V.ref q1, V.ref q2, V.ref q3, V.ref q4]) p2 = some (.lst [V.ref q1, V.ref q2, V.ref q3, V.ref q4]) := upd_same
    generalize upd HJ p2 (.lst [V.ref q1, V.ref q2, V.ref q3, V.ref q4]) = HL at g5 e5 ⊢
    obtain ⟨r1, r2, r3, r4, r5⟩ := repr_ok (K := K) (.inl (.inl e5)) (dp_four (PT.same (((g2.trans g3).trans g4).trans g5) pq1) (PT.same ((g3.trans g4).trans g5) pq2) (PT.same (g4.trans g5) pq3) (PT.same g5 pq4)) (fit_four (by omega) (by omega) hply hplr) (by show (300 + 2) * 4 + 3 ≤ 16000000; decide) (by decide)
    refine ⟨_, _, rfl, .of r1 r3, r2, r4, r5, rfl, false, bl_ne _, iteF ?_⟩
    have s4L := s4F.trans ((((g1.trans g2).trans g3).trans g4).trans g5)
    have s9L : Same H9 HL := sA.trans ((sAE.trans sF).trans ((((g1.trans g2).trans g3).trans g4).trans g5))
    have stL := St.same s9L st9
    have hdL := s9L _ _ hd9
    have hvL := TP.imm (.of s9L) hv9
    have huL := TP.imm (.of s9L) hu9
    clear r1 r2 r3 r4 r5 pq1 pq2 pq3 pq4 g1 g2 g3 g4 g5 pt1 pt2 pt3 pt4
    clear pm1 as1 pm3 as3 r1 r2 r3 r4 r5
    obtain ⟨va, vrs, rfl, hvt, hvp⟩ := id hvL
    have vlen : vrs.length = ns.length := (Paired.len hvp).trans (List.length_map ..)
    have n4 := ok.four
    unfold tNext tIfS tTest tOp tC
    dsimp only
    refine lcR1 ns.length (fun _ => true) (fun _ => V.bl true) (by omega) (fun R hR => ?_) (fun i H' R1 R2 hi sm h1 h2 => ?_) (fun HM D2 sM hD2 hM => ?_)
    · refine ⟨_, rfl, va, _, rfl, .inr (PT.sq hvt), ?_⟩
      rw [List.length_map, vlen]
      exact hR
    · refine ⟨rfl, _, rfl, _, rfl, _, rfl, _, rfl, x, _, d, ns, cs, i, rfl, St.same sm stL, TP.imm (.of sm) hvL, sm _ _ hdL, hi, fun H3 s3 => h2 _ s3 rfl⟩
    have eM : ((List.range ns.length).filter (fun _ => true)).map (fun _ => V.bl true) = List.replicate ns.length (V.bl true) := by
      rw [List.filter_eq_self.mpr (fun _ _ => rfl)]
      exact List.eq_replicate_iff.mpr ⟨by simp, fun b hb => by obtain ⟨_, _, rfl⟩ := List.mem_map.mp hb; rfl⟩
    rw [eM] at hM
    refine ⟨D2, _, rfl, .inl (.inl (.inl hM)), rfl, by rw [List.all_eq_true]; intro b hb; rw [(List.mem_replicate.mp hb).2]; rfl, ?_⟩
    rw [if_neg Bool.false_ne_true, inV_false]
    refine ⟨false, rfl, iteF ?_⟩
    refine ⟨_, rfl, _, rfl, _, rfl, x, _, d, ns, cs, rfl, St.same sM stL, TP.imm (.of sM) hvL, sM _ _ hdL, fun HN sN => ⟨true, rfl, iteT ?_⟩⟩
    have s4N := (s4L.trans sM).trans sN
    have sLN := sM.trans sN
    have jN := jugS s4N j4
    have tN : TabS HN Pt QL := tabs_chg (Chg.of s4N) j4 hT4
    have stN := St.same sLN stL
    have vN := TP.imm (.of sLN) hvL
    have uN := TP.imm (.of sLN) huL
    refine ⟨_, rfl, _, rfl, _, rfl, j, x, _, ns, cs, rfl, jN, stN, vN, tN, fun HO cO jO tO => ⟨true, rfl, iteT ?_⟩⟩
    have stO := St.cht cO jN stN
    have uO := TP.cht cO jN uN
    obtain ⟨v2, u2, dx2, pd2, ad2, ld2, ks2, S2⟩ := stO
    refine ⟨_, rfl, x, C, dx2, _, _, rfl, S2.ob, T.cl, T.n_cells, rfl, _, rfl, cD cs, cD cs, dp_c S2.ce, dp_c uO, shape_c ck, shape_c ck, ?_⟩
    rw [eqv_c, decide_eq_true rfl]
    exact k _ ((ChT.of (c04.trans (Chg.of s4N))).trans cO) tO
end
end K1
namespace K1
open PySem PySem.Spec L2 Z K7
section
variable {P : Program} {w : World} {K : PySem.W.Frag} {mg : Str → Option Value} {base : Heap} {C CU : Addr}
theorem ok_law_jug (T : Txt K mg C CU)  : Pr P w K mg base "_law_jug" s_law_jug 1 ["_law_script", "_law_turn"] (sp_law_jug K) := by
  obtain ⟨f, fd, F, gl, bd⟩ := T.d__law_jug
  refine ⟨f, fd, F, gl, bd, F.ok sc_law_jug (fun vs H Q E h => ?_) (fun cdv A outer s H vs Q E hr h => ?_)⟩
  · obtain ⟨a, ns, t, rfl, _⟩ := h
    rfl
  · obtain ⟨a, ns, t, rfl, hs, h1, h2, hz, k⟩ := h
    have hu := hu_of hr
    refine ⟨_, (pss_cons (ps_set (i := 2) sc_law_jug.nd rfl (Or.inl rfl) (pe_op op_add pe_int (pe_op op_mul pe_int (pv 1))))
      (pss_cons (ps_for PassesOwn.never rfl (pi_list (pe_slice sl_list (pv 0) po_none (po_some pe_int))) (pg_name (i := 3) sc_law_jug.nd rfl (Or.inl rfl))
      (pss_one (ps_set (i := 2) sc_law_jug.nd rfl (Or.inl rfl) (pe_op op_modN (pe_callTy call_int1 (by rfl) T.b_int (by decide +kernel) (pa_cons (pe_op op_add (pe_op op_add (pe_op op_mul (pv 2) pe_int) (pe_op op_mul (pe_op op_modN (pe_callTy call_int1 (by rfl) T.b_int (by decide +kernel) (pa_cons (pv 3) pa_nil)) pe_int) pe_int)) pe_int) pa_nil)) pe_int))))
      (pss_cons (ps_set (i := 4) sc_law_jug.nd rfl (Or.inl rfl) (pe_ifExp (pt_cmpR op_lt (pv 1) (pe_callB call_len_seq (by rfl) T.b_len (by decide +kernel) (pa_cons (pv 0) pa_nil)) (nomark _)) (pe_callTy call_int1 (by rfl) T.b_int (by decide +kernel) (pa_cons (pe_ix ix_list (pv 0) (pv 1) (fun _ _ => rfl)) pa_nil)) (pv 2)))
      (pss_cons (ps_set (i := 5) sc_law_jug.nd rfl (Or.inl rfl) (pe_ifExp (pt_cmpR op_ge (pe_callB call_abs (by rfl) T.b_abs (by decide +kernel) (pa_cons (pv 4) pa_nil)) (pe_op op_pow pe_int pe_int) (nomark _)) (pe_callB call_abs (by rfl) T.b_abs (by decide +kernel) (pa_cons (pv 4) pa_nil)) pe_int))
      (pss_one (ps_ret (pe_lst (pa_cons (pv 5) (pa_cons (pe_op op_modN (pe_callTy call_int1 (by rfl) T.b_int (by decide +kernel) (pa_cons (pe_op op_add (pe_op op_add (pe_op op_mul (pv 2) pe_int) (pe_op op_mul (pe_op op_modN (pe_callTy call_int1 (by rfl) T.b_int (by decide +kernel) (pa_cons (pv 4) pa_nil)) pe_int) pe_int)) pe_int) pa_nil)) pe_int) (pa_cons pe_int pa_nil)))))))))), ?_⟩
    refine ⟨_, rfl, _, _, rfl, rfl, .inl ⟨by decide, by decide⟩, _, _, rfl, rfl, ?_⟩
    refine ⟨_, rfl, _, rfl, a, _, rfl, hs, fun l hl => ?_⟩
    have s1 : Same H (upd H l (.lst (cutV (ns.map V.int) none (some 8)))) := same_new hl
    have l1 : upd H l (.lst (cutV (ns.map V.int) none (some 8))) l = some (.lst (cutV (ns.map V.int) none (some 8))) := upd_same
    generalize upd H l (.lst (cutV (ns.map V.int) none (some 8))) = H1 at s1 l1 ⊢
    refine ⟨l, rfl, ⟨_, .inl (.inl l1)⟩, ?_⟩
    refine for_list (xs := cutV (ns.map V.int) none (some 8)) (fun i σ H' => H' = H1 ∧ ∃ sd : Int, ∃ x, σ = [some (.ref a), some (.int t), some (.int sd), x, none, none] ∧ -(2 ^ 64) < sd ∧ sd < 2 ^ 64) ⟨rfl, _, _, rfl, by omega, by omega⟩ (fun i σ H' _ h => .inl (.inl (by rw [h.1]; exact l1))) ?_ ?_
    · rintro i x σ H' hx ⟨rfl, sd, x0, rfl, b1, b2⟩
      obtain ⟨z, hz, rfl⟩ := List.mem_map.mp (cut_mem (List.mem_of_getElem? hx))
      refine ⟨_, rfl, _, _, rfl, rfl, .inr ⟨by decide, by decide⟩, _, rfl, .inl ⟨_, rfl, _, _, rfl, rfl, nz1, _, _, rfl, rfl, .inr ⟨by decide, by decide⟩, _, _, rfl, rfl, _, _, rfl, rfl, .inl ⟨_, rfl, _, _, rfl, rfl, nz1, rfl, _, _, rfl, ?_, ?_⟩⟩⟩
      · exact Int.lt_of_lt_of_le (by decide) (fm_range (by decide)).1
      · exact Int.lt_trans (fm_range (by decide)).2 (by decide)
    rintro σ H' ⟨rfl, sd, x0, rfl, b1, b2⟩
    by_cases ht : t < (ns.length : Int)
    · obtain ⟨y, hy, hat⟩ := at_of (xs := ns.map V.int) h1 (by rw [List.length_map]; exact ht)
      obtain ⟨cell, _, rfl⟩ := List.mem_map.mp hy
      refine ⟨_, rfl, _, rfl, a, _, rfl, .inl (SqL_same s1 hs), _, _, rfl, rfl, true, congrArg V.bl (decide_eq_true (by rw [List.length_map]; exact ht)), iteT ?_⟩
      refine ⟨_, rfl, _, rfl, a, _, t, _, rfl, rfl, SqL_same s1 hs, hat, .inl ⟨_, rfl, ?_⟩⟩
      by_cases hg : (10 : Int) ^ 18 ≤ (if cell < 0 then -cell else cell)
      · refine ⟨_, rfl, _, rfl, _, _, rfl, rfl, ⟨by decide, by decide, by decide⟩, _, _, rfl, rfl, true, congrArg V.bl (decide_eq_true hg), iteT ⟨_, rfl, _, rfl, ?_⟩⟩
        refine ⟨_, rfl, _, rfl, _, _, rfl, rfl, .inr ⟨by decide, by decide⟩, _, rfl, .inl ⟨_, rfl, _, _, rfl, rfl, nz1, _, _, rfl, rfl, .inr ⟨by decide, by decide⟩, _, _, rfl, rfl, _, _, rfl, rfl, .inl ⟨_, rfl, _, _, rfl, rfl, nz2, by show 3 ≤ sizeLine; exact sl_le (by decide), fun q hq => ?_⟩⟩⟩
        refine k _ q (s1.trans (same_new hq)) (none_of s1 hq) ⟨_, _, _, upd_same, ?_, ?_⟩
        · exact Int.lt_of_lt_of_le (by decide) (fm_range (by decide)).1
        · exact Int.lt_trans (fm_range (by decide)).2 (by decide)
      · refine ⟨_, rfl, _, rfl, _, _, rfl, rfl, ⟨by decide, by decide, by decide⟩, _, _, rfl, rfl, false, congrArg V.bl (decide_eq_false hg), iteF ?_⟩
        refine ⟨_, rfl, _, rfl, _, _, rfl, rfl, .inr ⟨by decide, by decide⟩, _, rfl, .inl ⟨_, rfl, _, _, rfl, rfl, nz1, _, _, rfl, rfl, .inr ⟨by decide, by decide⟩, _, _, rfl, rfl, _, _, rfl, rfl, .inl ⟨_, rfl, _, _, rfl, rfl, nz2, by show 3 ≤ sizeLine; exact sl_le (by decide), fun q hq => ?_⟩⟩⟩
        refine k _ q (s1.trans (same_new hq)) (none_of s1 hq) ⟨_, _, _, upd_same, ?_, ?_⟩
        · exact Int.lt_of_lt_of_le (by decide) (fm_range (by decide)).1
        · exact Int.lt_trans (fm_range (by decide)).2 (by decide)
    · refine ⟨_, rfl, _, rfl, a, _, rfl, .inl (SqL_same s1 hs), _, _, rfl, rfl, false, congrArg V.bl (decide_eq_false (by rw [List.length_map]; exact ht)), iteF ⟨_, rfl, ?_⟩⟩
      by_cases hg : (10 : Int) ^ 18 ≤ (if sd < 0 then -sd else sd)
      · refine ⟨_, rfl, _, rfl, _, _, rfl, rfl, ⟨by decide, by decide, by decide⟩, _, _, rfl, rfl, true, congrArg V.bl (decide_eq_true hg), iteT ⟨_, rfl, _, rfl, ?_⟩⟩
        refine ⟨_, rfl, _, rfl, _, _, rfl, rfl, .inr ⟨by decide, by decide⟩, _, rfl, .inl ⟨_, rfl, _, _, rfl, rfl, nz1, _, _, rfl, rfl, .inr ⟨by decide, by decide⟩, _, _, rfl, rfl, _, _, rfl, rfl, .inl ⟨_, rfl, _, _, rfl, rfl, nz2, by show 3 ≤ sizeLine; exact sl_le (by decide), fun q hq => ?_⟩⟩⟩
        refine k _ q (s1.trans (same_new hq)) (none_of s1 hq) ⟨_, _, _, upd_same, ?_, ?_⟩
        · exact Int.lt_of_lt_of_le (by decide) (fm_range (by decide)).1
        · exact Int.lt_trans (fm_range (by decide)).2 (by decide)
      · refine ⟨_, rfl, _, rfl, _, _, rfl, rfl, ⟨by decide, by decide, by decide⟩, _, _, rfl, rfl, false, congrArg V.bl (decide_eq_false hg), iteF ?_⟩
        refine ⟨_, rfl, _, rfl, _, _, rfl, rfl, .inr ⟨by decide, by decide⟩, _, rfl, .inl ⟨_, rfl, _, _, rfl, rfl, nz1, _, _, rfl, rfl, .inr ⟨by decide, by decide⟩, _, _, rfl, rfl, _, _, rfl, rfl, .inl ⟨_, rfl, _, _, rfl, rfl, nz2, by show 3 ≤ sizeLine; exact sl_le (by decide), fun q hq => ?_⟩⟩⟩
        refine k _ q (s1.trans (same_new hq)) (none_of s1 hq) ⟨_, _, _, upd_same, ?_, ?_⟩
        · exact Int.lt_of_lt_of_le (by decide) (fm_range (by decide)).1
        · exact Int.lt_trans (fm_range (by decide)).2 (by decide)
end
end K1
namespace K1
open PySem PySem.Spec L2 Z K7 LamX
def q_law (K : PySem.W.Frag) (Pt : Addr) (ql : Str) : Sp := fun vs H Q _ => ∃ (a : Addr) (ns : List Int), vs = [.ref a] ∧ SqL K H a (ns.map V.int) ∧ TabS H Pt ql ∧ ns.length ≤ 63 ∧ ∀ (H' : Hp), Q (.bl true) H'
theorem tabs_upd {H : Hp} {D P : Addr} {q : Str} {l : List V} {o : HO} (h : H D = some (.lst l)) (t : TabS H P q) : TabS (upd H D o) P q := by
  obtain ⟨ps, h1, h2, h3⟩ := t
  have n : ∀ {b : Addr} {u : HO}, H b = some u → u ≠ .lst l → b ≠ D := fun e d z => by
    rw [z, h] at e
    exact d (Option.some.inj e).symm
  refine ⟨ps, by rw [upd_ne (n h1 (fun z => by cases z))]; exact h1, h2, fun pos cv hc => ?_⟩
  obtain ⟨a, e1, e2⟩ := h3 pos cv hc
  exact ⟨a, e1, by rw [upd_ne (n e2 (fun z => by cases z))]; exact e2⟩
section
variable {P : Program} {w : World} {K : PySem.W.Frag} {mg : Str → Option Value} {base : Heap} {C CU c Pt : Addr}
theorem ok_law (T : Txt K mg C CU) (G__law_jug : Pr P w K mg base "_law_jug" s_law_jug 1 ["_law_script", "_law_turn"] (sp_law_jug K)) (G__law_right : PrG P w K mg base "_law_right" s_law_right 13 ["_law_jug_here"] (q_right Pt QL)) : PrG P w K mg base "law" s_law 14 ["_law_script"] (q_law K Pt QL) := by
  obtain ⟨f, fd, F, gl, bd⟩ := T.d_law
  refine ⟨f, fd, F, gl, bd, okG F sc_law (fun vs H Q E h => ?_) (fun cdv A outer s H vs Q E hr hgd h => ?_)⟩
  · obtain ⟨a, ns, rfl, _⟩ := h
    rfl
  · obtain ⟨a, ns, rfl, hs, hT, hz, k⟩ := h
    have hu := hu_of hr
    refine ⟨_, (pss_one (ps_ret (pe_callB (cr_all rfl) (by rfl) T.b_all (by decide +kernel) (pa_cons (pe_lc (own := [("_law_turn", 1)]) (g := gName 1) (tt := tYes) rfl sc_law.nd (pi_range1 rfl T.b_range (pa_cons (pe_callB (call_max2 rfl) (by rfl) T.b_max (by decide +kernel) (pa_cons pe_int (pa_cons (pe_callB (call_min2 rfl) (by rfl) T.b_min (by decide +kernel) (pa_cons (pe_callB call_len_seq (by rfl) T.b_len (by decide +kernel) (pa_cons (pv 0) pa_nil)) (pa_cons pe_int pa_nil))) pa_nil))) pa_nil)) (blkOk_by (own := [("_law_turn", 1)]) (N := N_law) (sc := defScope s_law) (by decide +kernel)) (fun _ _ _ _ _ => (pg_name (i := 1) sc_law.nd rfl (Or.inl rfl))) (fun _ _ _ _ _ => pts_nil) (fun _ _ _ _ _ => (pcallG G__law_right (hr.mono (by decide)) hgd (pa_cons (pcall G__law_jug (hr.mono (by decide)) (pa_cons (pv 0) (pa_cons (pv 1) pa_nil))) pa_nil)))) pa_nil)))), ?_⟩
    obtain ⟨n, hn, hn2, hn3⟩ : ∃ n : Int, n = (if (if (5 : Int) < ((ns.map V.int).length : Int) then (5 : Int) else ((ns.map V.int).length : Int)) > 3 then (if (5 : Int) < ((ns.map V.int).length : Int) then (5 : Int) else ((ns.map V.int).length : Int)) else 3) ∧ 3 ≤ n ∧ n ≤ 5 := ⟨_, rfl, by split <;> omega, by split <;> split <;> omega⟩
    refine ⟨_, rfl, a, _, rfl, .inl hs, _, _, rfl, _, _, rfl, ?_⟩
    refine ⟨n, congrArg (fun z => [V.int z]) hn.symm, by omega, by omega, fun D hD => ?_⟩
    have key : a ≠ D ∨ ∀ H', SqL K H' a (ns.map V.int) := by
      rcases hs with (q | ⟨o, q⟩) | q
      · exact .inl (ne_of_none q hD)
      · exact .inl (ne_of_none q hD)
      · exact .inr fun _ => .inr q
    refine lc_it (n := n.toNat) (fun i H' => SqL K H' a (ns.map V.int) ∧ TabS H' Pt QL ∧ H' D = some (.lst ((List.replicate i true).map V.bl))) ⟨SqL_same (same_new hD) hs, hT.ext (same_new hD), upd_same⟩ (fun i H' hi _ => hi) (fun H' _ => Nat.le_refl _) (fun i y H' H2 hi h yl => ?_) (fun H' h => ?_)
    · obtain ⟨hs', hT', hk⟩ := h
      obtain ⟨rfl, rfl⟩ := yl
      refine ⟨rfl, _, rfl, _, rfl, a, ns, _, rfl, hs', by omega, by omega, hz, fun H3 j s3 hj jug => ⟨j, rfl, jug, hT'.ext s3, fun H4 c4 t4 => ?_⟩⟩
      have nD : D ≠ j := ne_of_none hk hj
      have k4 := c4 _ _ (s3 _ _ hk) nD (fun _ z => by cases z)
      have q4 : SqL K H4 a (ns.map V.int) := by
        rcases hs' with (q | ⟨o, q⟩) | q
        · exact .inl (.inl (c4 _ _ (s3 _ _ q) (ne_of_none q hj) (fun _ z => by cases z)))
        · exact .inl (.inr ⟨o, c4 _ _ (s3 _ _ q) (ne_of_none q hj) (fun _ z => by cases z)⟩)
        · exact .inr q
      refine ⟨_, k4, by rw [List.length_map, List.length_replicate]; exact Nat.lt_of_lt_of_le (show i < 100 by omega) (sl_le (by decide)), ?_, tabs_upd k4 t4, by rw [upd_same, List.replicate_succ', List.map_append]; rfl⟩
      rcases key with nk | nk
      · exact SqL.chg Chg.upd nk q4
      · exact nk _
    obtain ⟨hs', hT', hk⟩ := h
    refine ⟨D, List.replicate n.toNat true, rfl, .inl (.inl hk), ?_⟩
    have e : (List.replicate n.toNat true).all id = true := by
      rw [List.all_eq_true]
      intro b hb
      exact (List.mem_replicate.mp hb).2
    rw [e]
    exact k H'
end
end K1
/-! The law's end with tables: what the top says of a def's code object and its table. -/
namespace Z
open PySem PySem.Spec PyProof.Rows L2 LamX
/-- the def of that name stands at an address, with a code object whose table is empty -/
def TabOf (mg : Str → Option Value) (h : Heap) (nm : Str) : Prop := ∃ (a : Addr) (o : Obj) (fd : FuncData) (c P : Addr), mg nm = some (.ref a) ∧ h.get? a = some o ∧ o.data = .func fd ∧ fd.code = .ref c ∧ h.IsCode c P #[] ∧ h.TableAt c P #[]
/-- read by a part that holds the def and its code object -/
theorem TabOf.read {K : PySem.W.Frag} {mg : Str → Option Value} {h : Heap} {nm : Str} {f c P : Addr} {oc : Value} {od : Option Addr} {fd : FuncData} {osl : Array (Option Value)} {cl : Value} {cd : Option Addr} {vs : Array Value} {csl : Array (Option Value)}
    (t : TabOf mg h nm) (KX : K.In h) (hm : mg nm = some (.ref f)) (lk : K.lookup f = some ⟨oc, od, .func fd, osl⟩) (hc : fd.code = .ref c) (lc : K.lookup c = some ⟨cl, cd, .fields vs, csl⟩) (hp : vs[11]? = some (.ref P)) :
    h.get? P = some noTab ∧ PySem.W.CodeHd h c P := by
  obtain ⟨a, o, fd', c', P', h1, h2, h3, h4, h5, h6⟩ := t
  rw [hm] at h1
  cases h1
  rw [KX _ _ lk] at h2
  cases h2
  cases h3
  rw [hc] at h4
  cases h4
  have X := PySem.W.CodeHd.of h5 h6
  obtain ⟨⟨o2, vs2, e1, e2, e3, e4⟩, e5⟩ := h6
  rw [KX _ _ lc] at e1
  cases e1
  cases e3
  rw [hp] at e4
  cases e4
  exact ⟨e5, X⟩
theorem walkGT2 {l : PySem.W.OpenLaw} {n k : Nat} {q : Program} {loose : List Str} {XP : (Str → Option Value) → Heap → Prop} {YP : World → Heap → Prop} {d : DefRec} {K : Params → PySem.W.Frag} {x : Str}
    (hn : l.most = some n) (hn2 : n ≤ sizeLine) (hdf : d.params.defaults = []) (hr : Room k callerA)
    (hY : ∀ (w : World) (h : Heap), YP w h → (K w.params).In h) (nms : List Str) (hrec : (nms.all fun nm => (recsOf q).any fun e => e.name == nm) = true)
    (F : ∀ (w : World) (mg : Str → Option Value) (fa : Addr) (h : Heap), (K w.params).In h → h.Ns mainGlobals mg → mg d.name = some (.ref fa) → (∀ nm ∈ nms, TabOf mg h nm) → LawAtG l w (K w.params) k n x mg fa h) :
    PySem.W.WalkO q loose XP YP l.row.toRowW d [] (fun f vs => PySem.call f vs) := by
  refine Att.attach_call hn hdf fun w s₀ s₁ mg mb fa o pm cd doc a vs ns G Y ho hd hcd hmg hobj hints hlen hg => ?_
  have KX := hY w _ Y
  have tabs : ∀ nm ∈ nms, TabOf mg s₁.heap nm := fun nm hm => by
    obtain ⟨dL, h1, h2⟩ := List.any_eq_true.mp (List.all_eq_true.mp hrec nm hm)
    have e := G.T.tab dL h1
    rw [beq_iff_eq.mp h2] at e
    exact e
  obtain ⟨fd, cs, sp, hT, nT, hC, hb, hsp, hF⟩ := F w mg fa _ KX G.T.g hmg tabs
  exact law_callGT KX G.T.g G.T.b G.T.builtins G.T.nolimit hg hT nT hC G.T.bmain hobj hints (Nat.le_trans hlen hn2) hr hF hb fun H hH hS => hsp H a ns hlen hH hS
end Z
/-! What the top has left, and the end. -/
namespace K1
open PySem PySem.Spec L2 Z LamX K7
theorem kit_not {K : PySem.W.Frag} {C : Addr} {T : String} (icl : PySem.W.isClsIn K C = true) (tcl : PySem.W.typeIn K (.ref C) = some (.type "type")) (s : PySem.W.subIn K (.type T) (.ref C) = some false) : PySem.W.kitOne K (.type T) (.ref C) = some false := by
  have e1 : ((PySem.W.clsIn K C).isSome && PySem.W.typeIn K (.ref C) == some (.type "type")) = true := by
    rw [tcl]
    unfold PySem.W.isClsIn at icl
    rw [icl]
    rfl
  have e : PySem.W.kitCls K (.type T) (.ref C) = some false := (if_pos e1).trans s
  unfold PySem.W.kitOne
  rw [if_neg (by intro z; exact nomatch eq_of_beq z)]
  exact e
theorem kit_sub {K : PySem.W.Frag} {C D : Addr} {b : Bool} (icl : PySem.W.isClsIn K D = true) (tcl : PySem.W.typeIn K (.ref D) = some (.type "type")) (n : PySem.W.subIn K (.ref C) (.ref D) = some true) : PySem.W.kitOne K (.ref C) (.ref D) = some true := by
  have e1 : ((PySem.W.clsIn K D).isSome && PySem.W.typeIn K (.ref D) == some (.type "type")) = true := by
    rw [tcl]
    unfold PySem.W.isClsIn at icl
    rw [icl]
    rfl
  have e : PySem.W.kitCls K (.ref C) (.ref D) = some true := (if_pos e1).trans n
  unfold PySem.W.kitOne
  split
  · rfl
  · exact e
theorem kit_self {K : PySem.W.Frag} {C : Addr} : PySem.W.kitOne K (.ref C) (.ref C) = some true := by
  unfold PySem.W.kitOne
  rw [if_pos (beq_self_eq_true _)]
theorem all_mk {l : PySem.W.OpenLaw} {w : World} {K : PySem.W.Frag} {h : Heap} {mg : Str → Option Value} {nmE0 qE0 : Str} {NE0 fIE0 : Addr} {bsE0 : List Value} {snE0 : List Str} {subE0 : List Value} {abE0 : Bool} {colE0 : Option Bool} {ddE0 : Option Addr} {m0E0 m1E0 m2E0 m3E0 m5E0 : Option Value} {odIE0 anIE0 : Option Addr} {slIE0 : Array (Option Value)} {ocIE0 kVIE0 dcIE0 pmIE0 cdIE0 ctIE0 : Value} {BE00 : Addr} {cc35 Pt : Addr} {clc35 : Value} {ddc35 : Option Addr} {vsc35 : Array Value} {slc35 : Array (Option Value)} {fa C CU f0 f1 f2 f3 f4 f5 f6 f7 f8 f9 f10 f11 f12 f13 f14 f15 f16 f17 f18 f19 f20 f21 f22 f23 f24 f25 f26 f27 f28 f29 f30 f31 f32 f33 f34 f35 f36 f37 : Addr} {t_LETTERS t_END t_LAST_PLACE t_MOST_NAMES t_MOST_CELLS : Tok} (X : K.In h) (G : h.Ns mainGlobals mg) (hfa : mg "law" = some (.ref fa)) (TO : ∀ nm ∈ (["_law_refusals_right"] : List Str), TabOf mg h nm)
    {od0 an0 od1 an1 od2 an2 od3 an3 od4 an4 od5 an5 od6 an6 od7 an7 od8 an8 od9 an9 od10 an10 od11 an11 od12 an12 od13 an13 od14 an14 od15 an15 od16 an16 od17 an17 od18 an18 od19 an19 od20 an20 od21 an21 od22 an22 od23 an23 od24 an24 od25 an25 od26 an26 od27 an27 od28 an28 od29 an29 od30 an30 od31 an31 od32 an32 od33 an33 od34 an34 od35 an35 od36 an36 od37 an37 : Option Addr} {sl0 sl1 sl2 sl3 sl4 sl5 sl6 sl7 sl8 sl9 sl10 sl11 sl12 sl13 sl14 sl15 sl16 sl17 sl18 sl19 sl20 sl21 sl22 sl23 sl24 sl25 sl26 sl27 sl28 sl29 sl30 sl31 sl32 sl33 sl34 sl35 sl36 sl37 : Array (Option Value)} {oc0 kV0 dc0 pm0 cd0 ct0 oc1 kV1 dc1 pm1 cd1 ct1 oc2 kV2 dc2 pm2 cd2 ct2 oc3 kV3 dc3 pm3 cd3 ct3 oc4 kV4 dc4 pm4 cd4 ct4 oc5 kV5 dc5 pm5 cd5 ct5 oc6 kV6 dc6 pm6 cd6 ct6 oc7 kV7 dc7 pm7 cd7 ct7 oc8 kV8 dc8 pm8 cd8 ct8 oc9 kV9 dc9 pm9 cd9 ct9 oc10 kV10 dc10 pm10 cd10 ct10 oc11 kV11 dc11 pm11 cd11 ct11 oc12 kV12 dc12 pm12 cd12 ct12 oc13 kV13 dc13 pm13 cd13 ct13 oc14 kV14 dc14 pm14 cd14 ct14 oc15 kV15 dc15 pm15 cd15 ct15 oc16 kV16 dc16 pm16 cd16 ct16 oc17 kV17 dc17 pm17 cd17 ct17 oc18 kV18 dc18 pm18 cd18 ct18 oc19 kV19 dc19 pm19 cd19 ct19 oc20 kV20 dc20 pm20 cd20 ct20 oc21 kV21 dc21 pm21 cd21 ct21 oc22 kV22 dc22 pm22 cd22 ct22 oc23 kV23 dc23 pm23 cd23 ct23 oc24 kV24 dc24 pm24 cd24 ct24 oc25 kV25 dc25 pm25 cd25 ct25 oc26 kV26 dc26 pm26 cd26 ct26 oc27 kV27 dc27 pm27 cd27 ct27 oc28 kV28 dc28 pm28 cd28 ct28 oc29 kV29 dc29 pm29 cd29 ct29 oc30 kV30 dc30 pm30 cd30 ct30 oc31 kV31 dc31 pm31 cd31 ct31 oc32 kV32 dc32 pm32 cd32 ct32 oc33 kV33 dc33 pm33 cd33 ct33 oc34 kV34 dc34 pm34 cd34 ct34 oc35 kV35 dc35 pm35 cd35 ct35 oc36 kV36 dc36 pm36 cd36 ct36 oc37 kV37 dc37 pm37 cd37 ct37 : Value}
    (aC : PySem.W.nsIn K mainGlobals "Store" = some (some (.ref C)))
    (aCU : PySem.W.nsIn K mainGlobals "UnknownName" = some (some (.ref CU)))
    (a0 : PySem.W.nsIn K mainGlobals "is_number" = some (some (.ref f0)))
    (l0 : K.lookup f0 = some ⟨oc0, od0, .func (PySem.W.fnOf "is_number" "is_number" (defArgs s_is_number) (defBody s_is_number) (defScope s_is_number) .none kV0 dc0 pm0 an0 cd0 ct0), sl0⟩)
    (c0 : PySem.W.codeIn K cd0 "is_number" = true)
    (k0 : PySem.W.keepIn K (.ref f0) = true)
    (a1 : PySem.W.nsIn K mainGlobals "is_whole" = some (some (.ref f1)))
    (l1 : K.lookup f1 = some ⟨oc1, od1, .func (PySem.W.fnOf "is_whole" "is_whole" (defArgs s_is_whole) (defBody s_is_whole) (defScope s_is_whole) .none kV1 dc1 pm1 an1 cd1 ct1), sl1⟩)
    (c1 : PySem.W.codeIn K cd1 "is_whole" = true)
    (k1 : PySem.W.keepIn K (.ref f1) = true)
    (a2 : PySem.W.nsIn K mainGlobals "is_place" = some (some (.ref f2)))
    (l2 : K.lookup f2 = some ⟨oc2, od2, .func (PySem.W.fnOf "is_place" "is_place" (defArgs s_is_place) (defBody s_is_place) (defScope s_is_place) .none kV2 dc2 pm2 an2 cd2 ct2), sl2⟩)
    (c2 : PySem.W.codeIn K cd2 "is_place" = true)
    (k2 : PySem.W.keepIn K (.ref f2) = true)
    (a3 : PySem.W.nsIn K mainGlobals "is_letter" = some (some (.ref f3)))
    (l3 : K.lookup f3 = some ⟨oc3, od3, .func (PySem.W.fnOf "is_letter" "is_letter" (defArgs s_is_letter) (defBody s_is_letter) (defScope s_is_letter) .none kV3 dc3 pm3 an3 cd3 ct3), sl3⟩)
    (c3 : PySem.W.codeIn K cd3 "is_letter" = true)
    (k3 : PySem.W.keepIn K (.ref f3) = true)
    (a4 : PySem.W.nsIn K mainGlobals "is_tuple_of" = some (some (.ref f4)))
    (l4 : K.lookup f4 = some ⟨oc4, od4, .func (PySem.W.fnOf "is_tuple_of" "is_tuple_of" (defArgs s_is_tuple_of) (defBody s_is_tuple_of) (defScope s_is_tuple_of) .none kV4 dc4 pm4 an4 cd4 ct4), sl4⟩)
    (c4 : PySem.W.codeIn K cd4 "is_tuple_of" = true)
    (k4 : PySem.W.keepIn K (.ref f4) = true)
    (a5 : PySem.W.findIn K (.ref C) "__init__" = some (some (.ref f5)))
    (i5 : PySem.W.isFn K (.ref f5) = true)
    (l5 : K.lookup f5 = some ⟨oc5, od5, .func (PySem.W.fnOf "__init__" "Store.__init__" (defArgs s_init) (defBody s_init) (defScope s_init) .none kV5 dc5 pm5 an5 cd5 ct5), sl5⟩)
    (c5 : PySem.W.codeIn K cd5 "Store.__init__" = true)
    (k5 : PySem.W.keepIn K (.ref f5) = true)
    (a6 : PySem.W.findIn K (.ref C) "__eq__" = some (some (.ref f6)))
    (i6 : PySem.W.isFn K (.ref f6) = true)
    (l6 : K.lookup f6 = some ⟨oc6, od6, .func (PySem.W.fnOf "__eq__" "Store.__eq__" (defArgs s_eq) (defBody s_eq) (defScope s_eq) .none kV6 dc6 pm6 an6 cd6 ct6), sl6⟩)
    (c6 : PySem.W.codeIn K cd6 "Store.__eq__" = true)
    (k6 : PySem.W.keepIn K (.ref f6) = true)
    (a7 : PySem.W.findIn K (.ref C) "take" = some (some (.ref f7)))
    (i7 : PySem.W.isFn K (.ref f7) = true)
    (l7 : K.lookup f7 = some ⟨oc7, od7, .func (PySem.W.fnOf "take" "Store.take" (defArgs s_take) (defBody s_take) (defScope s_take) .none kV7 dc7 pm7 an7 cd7 ct7), sl7⟩)
    (c7 : PySem.W.codeIn K cd7 "Store.take" = true)
    (k7 : PySem.W.keepIn K (.ref f7) = true)
    (a8 : PySem.W.findIn K (.ref C) "at" = some (some (.ref f8)))
    (i8 : PySem.W.isFn K (.ref f8) = true)
    (l8 : K.lookup f8 = some ⟨oc8, od8, .func (PySem.W.fnOf "at" "Store.at" (defArgs s_at) (defBody s_at) (defScope s_at) .none kV8 dc8 pm8 an8 cd8 ct8), sl8⟩)
    (c8 : PySem.W.codeIn K cd8 "Store.at" = true)
    (k8 : PySem.W.keepIn K (.ref f8) = true)
    (a9 : PySem.W.nsIn K mainGlobals "_are_store_names" = some (some (.ref f9)))
    (l9 : K.lookup f9 = some ⟨oc9, od9, .func (PySem.W.fnOf "_are_store_names" "_are_store_names" (defArgs s_are_store_names) (defBody s_are_store_names) (defScope s_are_store_names) .none kV9 dc9 pm9 an9 cd9 ct9), sl9⟩)
    (c9 : PySem.W.codeIn K cd9 "_are_store_names" = true)
    (k9 : PySem.W.keepIn K (.ref f9) = true)
    (a10 : PySem.W.nsIn K mainGlobals "_wrong_cell" = some (some (.ref f10)))
    (l10 : K.lookup f10 = some ⟨oc10, od10, .func (PySem.W.fnOf "_wrong_cell" "_wrong_cell" (defArgs s_wrong_cell) (defBody s_wrong_cell) (defScope s_wrong_cell) .none kV10 dc10 pm10 an10 cd10 ct10), sl10⟩)
    (c10 : PySem.W.codeIn K cd10 "_wrong_cell" = true)
    (k10 : PySem.W.keepIn K (.ref f10) = true)
    (a11 : PySem.W.nsIn K mainGlobals "_store_text" = some (some (.ref f11)))
    (l11 : K.lookup f11 = some ⟨oc11, od11, .func (PySem.W.fnOf "_store_text" "_store_text" (defArgs s_store_text) (defBody s_store_text) (defScope s_store_text) .none kV11 dc11 pm11 an11 cd11 ct11), sl11⟩)
    (c11 : PySem.W.codeIn K cd11 "_store_text" = true)
    (k11 : PySem.W.keepIn K (.ref f11) = true)
    (a12 : PySem.W.nsIn K mainGlobals "need_store" = some (some (.ref f12)))
    (l12 : K.lookup f12 = some ⟨oc12, od12, .func (PySem.W.fnOf "need_store" "need_store" (defArgs s_need_store) (defBody s_need_store) (defScope s_need_store) .none kV12 dc12 pm12 an12 cd12 ct12), sl12⟩)
    (c12 : PySem.W.codeIn K cd12 "need_store" = true)
    (k12 : PySem.W.keepIn K (.ref f12) = true)
    (a13 : PySem.W.nsIn K mainGlobals "_followed" = some (some (.ref f13)))
    (l13 : K.lookup f13 = some ⟨oc13, od13, .func (PySem.W.fnOf "_followed" "_followed" (defArgs s_followed) (defBody s_followed) (defScope s_followed) .none kV13 dc13 pm13 an13 cd13 ct13), sl13⟩)
    (c13 : PySem.W.codeIn K cd13 "_followed" = true)
    (k13 : PySem.W.keepIn K (.ref f13) = true)
    (a14 : PySem.W.nsIn K mainGlobals "way" = some (some (.ref f14)))
    (l14 : K.lookup f14 = some ⟨oc14, od14, .func (PySem.W.fnOf "way" "way" (defArgs s_way) (defBody s_way) (defScope s_way) .none kV14 dc14 pm14 an14 cd14 ct14), sl14⟩)
    (c14 : PySem.W.codeIn K cd14 "way" = true)
    (k14 : PySem.W.keepIn K (.ref f14) = true)
    (a15 : PySem.W.nsIn K mainGlobals "way_end" = some (some (.ref f15)))
    (l15 : K.lookup f15 = some ⟨oc15, od15, .func (PySem.W.fnOf "way_end" "way_end" (defArgs s_way_end) (defBody s_way_end) (defScope s_way_end) .none kV15 dc15 pm15 an15 cd15 ct15), sl15⟩)
    (c15 : PySem.W.codeIn K cd15 "way_end" = true)
    (k15 : PySem.W.keepIn K (.ref f15) = true)
    (a16 : PySem.W.nsIn K mainGlobals "tail_and_ring" = some (some (.ref f16)))
    (l16 : K.lookup f16 = some ⟨oc16, od16, .func (PySem.W.fnOf "tail_and_ring" "tail_and_ring" (defArgs s_tail_and_ring) (defBody s_tail_and_ring) (defScope s_tail_and_ring) .none kV16 dc16 pm16 an16 cd16 ct16), sl16⟩)
    (c16 : PySem.W.codeIn K cd16 "tail_and_ring" = true)
    (k16 : PySem.W.keepIn K (.ref f16) = true)
    (a17 : PySem.W.nsIn K mainGlobals "reached_from" = some (some (.ref f17)))
    (l17 : K.lookup f17 = some ⟨oc17, od17, .func (PySem.W.fnOf "reached_from" "reached_from" (defArgs s_reached_from) (defBody s_reached_from) (defScope s_reached_from) .none kV17 dc17 pm17 an17 cd17 ct17), sl17⟩)
    (c17 : PySem.W.codeIn K cd17 "reached_from" = true)
    (k17 : PySem.W.keepIn K (.ref f17) = true)
    (a18 : PySem.W.nsIn K mainGlobals "reached_cells" = some (some (.ref f18)))
    (l18 : K.lookup f18 = some ⟨oc18, od18, .func (PySem.W.fnOf "reached_cells" "reached_cells" (defArgs s_reached_cells) (defBody s_reached_cells) (defScope s_reached_cells) .none kV18 dc18 pm18 an18 cd18 ct18), sl18⟩)
    (c18 : PySem.W.codeIn K cd18 "reached_cells" = true)
    (k18 : PySem.W.keepIn K (.ref f18) = true)
    (a19 : PySem.W.nsIn K mainGlobals "reached" = some (some (.ref f19)))
    (l19 : K.lookup f19 = some ⟨oc19, od19, .func (PySem.W.fnOf "reached" "reached" (defArgs s_reached) (defBody s_reached) (defScope s_reached) .none kV19 dc19 pm19 an19 cd19 ct19), sl19⟩)
    (c19 : PySem.W.codeIn K cd19 "reached" = true)
    (k19 : PySem.W.keepIn K (.ref f19) = true)
    (a20 : PySem.W.nsIn K mainGlobals "lost" = some (some (.ref f20)))
    (l20 : K.lookup f20 = some ⟨oc20, od20, .func (PySem.W.fnOf "lost" "lost" (defArgs s_lost) (defBody s_lost) (defScope s_lost) .none kV20 dc20 pm20 an20 cd20 ct20), sl20⟩)
    (c20 : PySem.W.codeIn K cd20 "lost" = true)
    (k20 : PySem.W.keepIn K (.ref f20) = true)
    (a21 : PySem.W.nsIn K mainGlobals "first_common" = some (some (.ref f21)))
    (l21 : K.lookup f21 = some ⟨oc21, od21, .func (PySem.W.fnOf "first_common" "first_common" (defArgs s_first_common) (defBody s_first_common) (defScope s_first_common) .none kV21 dc21 pm21 an21 cd21 ct21), sl21⟩)
    (c21 : PySem.W.codeIn K cd21 "first_common" = true)
    (k21 : PySem.W.keepIn K (.ref f21) = true)
    (a22 : PySem.W.nsIn K mainGlobals "_law_jug" = some (some (.ref f22)))
    (l22 : K.lookup f22 = some ⟨oc22, od22, .func (PySem.W.fnOf "_law_jug" "_law_jug" (defArgs s_law_jug) (defBody s_law_jug) (defScope s_law_jug) .none kV22 dc22 pm22 an22 cd22 ct22), sl22⟩)
    (c22 : PySem.W.codeIn K cd22 "_law_jug" = true)
    (k22 : PySem.W.keepIn K (.ref f22) = true)
    (a23 : PySem.W.nsIn K mainGlobals "_law_take" = some (some (.ref f23)))
    (l23 : K.lookup f23 = some ⟨oc23, od23, .func (PySem.W.fnOf "_law_take" "_law_take" (defArgs s_law_take) (defBody s_law_take) (defScope s_law_take) .none kV23 dc23 pm23 an23 cd23 ct23), sl23⟩)
    (c23 : PySem.W.codeIn K cd23 "_law_take" = true)
    (k23 : PySem.W.keepIn K (.ref f23) = true)
    (a24 : PySem.W.nsIn K mainGlobals "_law_one_of" = some (some (.ref f24)))
    (l24 : K.lookup f24 = some ⟨oc24, od24, .func (PySem.W.fnOf "_law_one_of" "_law_one_of" (defArgs s_law_one_of) (defBody s_law_one_of) (defScope s_law_one_of) .none kV24 dc24 pm24 an24 cd24 ct24), sl24⟩)
    (c24 : PySem.W.codeIn K cd24 "_law_one_of" = true)
    (k24 : PySem.W.keepIn K (.ref f24) = true)
    (a25 : PySem.W.nsIn K mainGlobals "_law_letters" = some (some (.ref f25)))
    (l25 : K.lookup f25 = some ⟨oc25, od25, .func (PySem.W.fnOf "_law_letters" "_law_letters" (defArgs s_law_letters) (defBody s_law_letters) (defScope s_law_letters) .none kV25 dc25 pm25 an25 cd25 ct25), sl25⟩)
    (c25 : PySem.W.codeIn K cd25 "_law_letters" = true)
    (k25 : PySem.W.keepIn K (.ref f25) = true)
    (a26 : PySem.W.nsIn K mainGlobals "_law_drawn_cells" = some (some (.ref f26)))
    (l26 : K.lookup f26 = some ⟨oc26, od26, .func (PySem.W.fnOf "_law_drawn_cells" "_law_drawn_cells" (defArgs s_law_drawn_cells) (defBody s_law_drawn_cells) (defScope s_law_drawn_cells) .none kV26 dc26 pm26 an26 cd26 ct26), sl26⟩)
    (c26 : PySem.W.codeIn K cd26 "_law_drawn_cells" = true)
    (k26 : PySem.W.keepIn K (.ref f26) = true)
    (a27 : PySem.W.nsIn K mainGlobals "_law_drawn_store" = some (some (.ref f27)))
    (l27 : K.lookup f27 = some ⟨oc27, od27, .func (PySem.W.fnOf "_law_drawn_store" "_law_drawn_store" (defArgs s_law_drawn_store) (defBody s_law_drawn_store) (defScope s_law_drawn_store) .none kV27 dc27 pm27 an27 cd27 ct27), sl27⟩)
    (c27 : PySem.W.codeIn K cd27 "_law_drawn_store" = true)
    (k27 : PySem.W.keepIn K (.ref f27) = true)
    (a28 : PySem.W.nsIn K mainGlobals "_law_arrows" = some (some (.ref f28)))
    (l28 : K.lookup f28 = some ⟨oc28, od28, .func (PySem.W.fnOf "_law_arrows" "_law_arrows" (defArgs s_law_arrows) (defBody s_law_arrows) (defScope s_law_arrows) .none kV28 dc28 pm28 an28 cd28 ct28), sl28⟩)
    (c28 : PySem.W.codeIn K cd28 "_law_arrows" = true)
    (k28 : PySem.W.keepIn K (.ref f28) = true)
    (a29 : PySem.W.nsIn K mainGlobals "_law_gone_along" = some (some (.ref f29)))
    (l29 : K.lookup f29 = some ⟨oc29, od29, .func (PySem.W.fnOf "_law_gone_along" "_law_gone_along" (defArgs s_law_gone_along) (defBody s_law_gone_along) (defScope s_law_gone_along) .none kV29 dc29 pm29 an29 cd29 ct29), sl29⟩)
    (c29 : PySem.W.codeIn K cd29 "_law_gone_along" = true)
    (k29 : PySem.W.keepIn K (.ref f29) = true)
    (a30 : PySem.W.nsIn K mainGlobals "_law_knots" = some (some (.ref f30)))
    (l30 : K.lookup f30 = some ⟨oc30, od30, .func (PySem.W.fnOf "_law_knots" "_law_knots" (defArgs s_law_knots) (defBody s_law_knots) (defScope s_law_knots) .none kV30 dc30 pm30 an30 cd30 ct30), sl30⟩)
    (c30 : PySem.W.codeIn K cd30 "_law_knots" = true)
    (k30 : PySem.W.keepIn K (.ref f30) = true)
    (a31 : PySem.W.nsIn K mainGlobals "_law_odd" = some (some (.ref f31)))
    (l31 : K.lookup f31 = some ⟨oc31, od31, .func (PySem.W.fnOf "_law_odd" "_law_odd" (defArgs s_law_odd) (defBody s_law_odd) (defScope s_law_odd) .none kV31 dc31 pm31 an31 cd31 ct31), sl31⟩)
    (c31 : PySem.W.codeIn K cd31 "_law_odd" = true)
    (k31 : PySem.W.keepIn K (.ref f31) = true)
    (a32 : PySem.W.nsIn K mainGlobals "_law_way_right" = some (some (.ref f32)))
    (l32 : K.lookup f32 = some ⟨oc32, od32, .func (PySem.W.fnOf "_law_way_right" "_law_way_right" (defArgs s_law_way_right) (defBody s_law_way_right) (defScope s_law_way_right) .none kV32 dc32 pm32 an32 cd32 ct32), sl32⟩)
    (c32 : PySem.W.codeIn K cd32 "_law_way_right" = true)
    (k32 : PySem.W.keepIn K (.ref f32) = true)
    (a33 : PySem.W.nsIn K mainGlobals "_law_common_right" = some (some (.ref f33)))
    (l33 : K.lookup f33 = some ⟨oc33, od33, .func (PySem.W.fnOf "_law_common_right" "_law_common_right" (defArgs s_law_common_right) (defBody s_law_common_right) (defScope s_law_common_right) .none kV33 dc33 pm33 an33 cd33 ct33), sl33⟩)
    (c33 : PySem.W.codeIn K cd33 "_law_common_right" = true)
    (k33 : PySem.W.keepIn K (.ref f33) = true)
    (a34 : PySem.W.nsIn K mainGlobals "_law_told" = some (some (.ref f34)))
    (l34 : K.lookup f34 = some ⟨oc34, od34, .func (PySem.W.fnOf "_law_told" "_law_told" (defArgs s_law_told) (defBody s_law_told) (defScope s_law_told) .none kV34 dc34 pm34 an34 cd34 ct34), sl34⟩)
    (c34 : PySem.W.codeIn K cd34 "_law_told" = true)
    (k34 : PySem.W.keepIn K (.ref f34) = true)
    (a35 : PySem.W.nsIn K mainGlobals "_law_refusals_right" = some (some (.ref f35)))
    (l35 : K.lookup f35 = some ⟨oc35, od35, .func (PySem.W.fnOf "_law_refusals_right" "_law_refusals_right" (defArgs s_law_refusals_right) (defBody s_law_refusals_right) (defScope s_law_refusals_right) .none kV35 dc35 pm35 an35 cd35 ct35), sl35⟩)
    (c35 : PySem.W.codeIn K cd35 "_law_refusals_right" = true)
    (k35 : PySem.W.keepIn K (.ref f35) = true)
    (a36 : PySem.W.nsIn K mainGlobals "_law_right" = some (some (.ref f36)))
    (l36 : K.lookup f36 = some ⟨oc36, od36, .func (PySem.W.fnOf "_law_right" "_law_right" (defArgs s_law_right) (defBody s_law_right) (defScope s_law_right) .none kV36 dc36 pm36 an36 cd36 ct36), sl36⟩)
    (c36 : PySem.W.codeIn K cd36 "_law_right" = true)
    (k36 : PySem.W.keepIn K (.ref f36) = true)
    (a37 : PySem.W.nsIn K mainGlobals "law" = some (some (.ref f37)))
    (l37 : K.lookup f37 = some ⟨oc37, od37, .func (PySem.W.fnOf "law" "law" (defArgs s_law) (defBody s_law) (defScope s_law) .none kV37 dc37 pm37 an37 cd37 ct37), sl37⟩)
    (c37 : PySem.W.codeIn K cd37 "law" = true)
    (k37 : PySem.W.keepIn K (.ref f37) = true)
    (pg : PySem.W.plainGet K C Str.empty = true)
    (hd : PySem.W.hasDictIn K C = true)
    (po : PySem.W.plainOver K C = true)
    (sa : PySem.W.findIn K (.ref C) "__setattr__" = some (some (.builtin "object.__setattr__")))
    (mk : PySem.W.makesIn K C = true)
    (kc : PySem.W.keepIn K (.ref C) = true)
    (n_names : PySem.W.findIn K (.ref C) "names" = some none)
    (n_cells : PySem.W.findIn K (.ref C) "cells" = some none)
    (n_letters : PySem.W.findIn K (.ref C) "letters" = some none)
    (n_text : PySem.W.findIn K (.ref C) "text" = some none)
    (n_places : PySem.W.findIn K (.ref C) "places" = some none)
    (n_arrows : PySem.W.findIn K (.ref C) "arrows" = some none)
    (n_led_to : PySem.W.findIn K (.ref C) "led_to" = some none)
    (isC : PySem.W.findIn K (.ref C) "__class__" = some (some (.builtin "object.__class__")))
    (isG : PySem.W.specialIn K (.builtin "object.__class__") "__get__" = some (some (.builtin "getset_descriptor.__get__")))
    (isT : PySem.W.takesIn K (.builtin "object.__class__") = some true)
    (isM : PySem.W.mroIn K C (.type "object") = some true)
    (neq : PySem.W.findIn K (.ref C) "__ne__" = some (some (.builtin "object.__ne__")))
    (icl : PySem.W.isClsIn K C = true)
    (tcl : PySem.W.typeIn K (.ref C) = some (.type "type"))
    (s_str : PySem.W.subIn K (.type "str") (.ref C) = some false)
    (f_str : PySem.W.notFirst K C (.type "str") = true)
    (s_int : PySem.W.subIn K (.type "int") (.ref C) = some false)
    (f_int : PySem.W.notFirst K C (.type "int") = true)
    (s_tuple : PySem.W.subIn K (.type "tuple") (.ref C) = some false)
    (f_tuple : PySem.W.notFirst K C (.type "tuple") = true)
    (xLE0 : K.lookup CU = some (excClassObj nmE0 qE0 CU NE0 bsE0 [.ref BE00, .type "ValueError", .type "Exception", .type "BaseException", .type "object"] true snE0 subE0 abE0 colE0 ddE0 m0E0 m1E0 m2E0 m3E0 m5E0 "ValueError.__new__"))
    (saE0 : PySem.W.findIn K (.ref CU) "__setattr__" = some (some (.builtin "object.__setattr__")))
    (gaE0 : PySem.W.findIn K (.ref CU) "__getattribute__" = some (some (.builtin "BaseException.__getattribute__")))
    (ggE0 : PySem.W.findIn K (.ref CU) "__getattr__" = some none)
    (nfE0 : PySem.W.findIn K (.ref CU) "given" = some none)
    (iIE0 : PySem.W.findIn K (.ref CU) "__init__" = some (some (.ref fIE0)))
    (tIE0 : PySem.W.typeIn K (.ref fIE0) = some (.type "function"))
    (lIE0 : K.lookup fIE0 = some ⟨ocIE0, odIE0, .func (PySem.W.fnOf "__init__" "UnknownName.__init__" (defArgs s_err_UnknownName) (defBody s_err_UnknownName) (defScope s_err_UnknownName) .none kVIE0 dcIE0 pmIE0 anIE0 cdIE0 ctIE0), slIE0⟩)
    (cIE0 : PySem.W.codeIn K cdIE0 "UnknownName.__init__" = true)
    (kIE0 : PySem.W.keepIn K (.ref fIE0) = true)
    (kCE0 : PySem.W.keepIn K (.ref CU) = true)
    (eCE0 : PySem.W.subIn K (.ref CU) (.type "BaseException") = some true)
    (tCE0 : PySem.W.typeIn K (.ref CU) = some (.type "type"))
    (hCE0 : PySem.W.hasDictIn K CU = true)
    (sCE0 : PySem.W.subIn K (.ref CU) (.ref CU) = some true)
    (z_isinstance : PySem.W.nsIn K mainGlobals "isinstance" = some none)
    (z_int : PySem.W.nsIn K mainGlobals "int" = some none)
    (z_bool : PySem.W.nsIn K mainGlobals "bool" = some none)
    (z_str : PySem.W.nsIn K mainGlobals "str" = some none)
    (z_len : PySem.W.nsIn K mainGlobals "len" = some none)
    (z_tuple : PySem.W.nsIn K mainGlobals "tuple" = some none)
    (z_dict : PySem.W.nsIn K mainGlobals "dict" = some none)
    (z_enumerate : PySem.W.nsIn K mainGlobals "enumerate" = some none)
    (z_range : PySem.W.nsIn K mainGlobals "range" = some none)
    (z_divmod : PySem.W.nsIn K mainGlobals "divmod" = some none)
    (z_abs : PySem.W.nsIn K mainGlobals "abs" = some none)
    (z_sorted : PySem.W.nsIn K mainGlobals "sorted" = some none)
    (z_repr : PySem.W.nsIn K mainGlobals "repr" = some none)
    (z_all : PySem.W.nsIn K mainGlobals "all" = some none)
    (z_max : PySem.W.nsIn K mainGlobals "max" = some none)
    (z_min : PySem.W.nsIn K mainGlobals "min" = some none)
    (g_LETTERS : PySem.W.nsIn K mainGlobals "LETTERS" = some (some (.str "abcdefghijklmnopqrstuvwxyz" t_LETTERS)))
    (g_END : PySem.W.nsIn K mainGlobals "END" = some (some (.int 0 t_END)))
    (g_LAST_PLACE : PySem.W.nsIn K mainGlobals "LAST_PLACE" = some (some (.int 999 t_LAST_PLACE)))
    (g_MOST_NAMES : PySem.W.nsIn K mainGlobals "MOST_NAMES" = some (some (.int 4 t_MOST_NAMES)))
    (g_MOST_CELLS : PySem.W.nsIn K mainGlobals "MOST_CELLS" = some (some (.int 500 t_MOST_CELLS)))
    (r35 : cd35 = .ref cc35)
    (lc35 : K.lookup cc35 = some ⟨clc35, ddc35, .fields vsc35, slc35⟩)
    (hp35 : vsc35[11]? = some (.ref Pt))
    (np35 : K.lookup Pt = none) :
    LawAtG l w K 14 63 "_law_script" mg fa h := by
  have e := hfa.symm.trans (PySem.W.mg_of X G a37)
  cases e
  have F0 := fun_mk (st := s_is_number) l0 c0 k0
  have b0 := F0.binds (ps := ["value"]) fun _ _ _ _ _ _ us hl => match us, hl with | [_], _ => rfl
  have F1 := fun_mk (st := s_is_whole) l1 c1 k1
  have b1 := F1.binds (ps := ["value", "low", "high"]) fun _ _ _ _ _ _ us hl => match us, hl with | [_, _, _], _ => rfl
  have F2 := fun_mk (st := s_is_place) l2 c2 k2
  have b2 := F2.binds (ps := ["value"]) fun _ _ _ _ _ _ us hl => match us, hl with | [_], _ => rfl
  have F3 := fun_mk (st := s_is_letter) l3 c3 k3
  have b3 := F3.binds (ps := ["value"]) fun _ _ _ _ _ _ us hl => match us, hl with | [_], _ => rfl
  have F4 := fun_mk (st := s_is_tuple_of) l4 c4 k4
  have b4 := F4.binds (ps := ["value", "many"]) fun _ _ _ _ _ _ us hl => match us, hl with | [_, _], _ => rfl
  have F5 := fun_mk (st := s_init) l5 c5 k5
  have b5 := F5.binds (ps := ["self", "names", "cells"]) fun _ _ _ _ _ _ us hl => match us, hl with | [_, _, _], _ => rfl
  have F6 := fun_mk (st := s_eq) l6 c6 k6
  have b6 := F6.binds (ps := ["self", "other"]) fun _ _ _ _ _ _ us hl => match us, hl with | [_, _], _ => rfl
  have F7 := fun_mk (st := s_take) l7 c7 k7
  have b7 := F7.binds (ps := ["self", "names", "cells"]) fun _ _ _ _ _ _ us hl => match us, hl with | [_, _, _], _ => rfl
  have F8 := fun_mk (st := s_at) l8 c8 k8
  have b8 := F8.binds (ps := ["self", "letter"]) fun _ _ _ _ _ _ us hl => match us, hl with | [_, _], _ => rfl
  have F9 := fun_mk (st := s_are_store_names) l9 c9 k9
  have b9 := F9.binds (ps := ["value"]) fun _ _ _ _ _ _ us hl => match us, hl with | [_], _ => rfl
  have F10 := fun_mk (st := s_wrong_cell) l10 c10 k10
  have b10 := F10.binds (ps := ["cells"]) fun _ _ _ _ _ _ us hl => match us, hl with | [_], _ => rfl
  have F11 := fun_mk (st := s_store_text) l11 c11 k11
  have b11 := F11.binds (ps := ["names", "cells"]) fun _ _ _ _ _ _ us hl => match us, hl with | [_, _], _ => rfl
  have F12 := fun_mk (st := s_need_store) l12 c12 k12
  have b12 := F12.binds (ps := ["value"]) fun _ _ _ _ _ _ us hl => match us, hl with | [_], _ => rfl
  have F13 := fun_mk (st := s_followed) l13 c13 k13
  have b13 := F13.binds (ps := ["store", "letter"]) fun _ _ _ _ _ _ us hl => match us, hl with | [_, _], _ => rfl
  have F14 := fun_mk (st := s_way) l14 c14 k14
  have b14 := F14.binds (ps := ["store", "letter"]) fun _ _ _ _ _ _ us hl => match us, hl with | [_, _], _ => rfl
  have F15 := fun_mk (st := s_way_end) l15 c15 k15
  have b15 := F15.binds (ps := ["store", "letter"]) fun _ _ _ _ _ _ us hl => match us, hl with | [_, _], _ => rfl
  have F16 := fun_mk (st := s_tail_and_ring) l16 c16 k16
  have b16 := F16.binds (ps := ["store", "letter"]) fun _ _ _ _ _ _ us hl => match us, hl with | [_, _], _ => rfl
  have F17 := fun_mk (st := s_reached_from) l17 c17 k17
  have b17 := F17.binds (ps := ["names", "arrows"]) fun _ _ _ _ _ _ us hl => match us, hl with | [_, _], _ => rfl
  have F18 := fun_mk (st := s_reached_cells) l18 c18 k18
  have b18 := F18.binds (ps := ["store"]) fun _ _ _ _ _ _ us hl => match us, hl with | [_], _ => rfl
  have F19 := fun_mk (st := s_reached) l19 c19 k19
  have b19 := F19.binds (ps := ["store"]) fun _ _ _ _ _ _ us hl => match us, hl with | [_], _ => rfl
  have F20 := fun_mk (st := s_lost) l20 c20 k20
  have b20 := F20.binds (ps := ["store"]) fun _ _ _ _ _ _ us hl => match us, hl with | [_], _ => rfl
  have F21 := fun_mk (st := s_first_common) l21 c21 k21
  have b21 := F21.binds (ps := ["store", "letter", "other"]) fun _ _ _ _ _ _ us hl => match us, hl with | [_, _, _], _ => rfl
  have F22 := fun_mk (st := s_law_jug) l22 c22 k22
  have b22 := F22.binds (ps := ["_law_script", "_law_turn"]) fun _ _ _ _ _ _ us hl => match us, hl with | [_, _], _ => rfl
  have F23 := fun_mk (st := s_law_take) l23 c23 k23
  have b23 := F23.binds (ps := ["_law_jug_here", "_law_many"]) fun _ _ _ _ _ _ us hl => match us, hl with | [_, _], _ => rfl
  have F24 := fun_mk (st := s_law_one_of) l24 c24 k24
  have b24 := F24.binds (ps := ["_law_jug_here", "_law_some"]) fun _ _ _ _ _ _ us hl => match us, hl with | [_, _], _ => rfl
  have F25 := fun_mk (st := s_law_letters) l25 c25 k25
  have b25 := F25.binds (ps := ["_law_jug_here", "_law_many"]) fun _ _ _ _ _ _ us hl => match us, hl with | [_, _], _ => rfl
  have F26 := fun_mk (st := s_law_drawn_cells) l26 c26 k26
  have b26 := F26.binds (ps := ["_law_jug_here", "_law_most"]) fun _ _ _ _ _ _ us hl => match us, hl with | [_, _], _ => rfl
  have F27 := fun_mk (st := s_law_drawn_store) l27 c27 k27
  have b27 := F27.binds (ps := ["_law_jug_here", "_law_letters_here", "_law_most"]) fun _ _ _ _ _ _ us hl => match us, hl with | [_, _, _], _ => rfl
  have F28 := fun_mk (st := s_law_arrows) l28 c28 k28
  have b28 := F28.binds (ps := ["_law_cells"]) fun _ _ _ _ _ _ us hl => match us, hl with | [_], _ => rfl
  have F29 := fun_mk (st := s_law_gone_along) l29 c29 k29
  have b29 := F29.binds (ps := ["_law_arrows_here", "_law_place"]) fun _ _ _ _ _ _ us hl => match us, hl with | [_, _], _ => rfl
  have F30 := fun_mk (st := s_law_knots) l30 c30 k30
  have b30 := F30.binds (ps := ["_law_names", "_law_arrows_here"]) fun _ _ _ _ _ _ us hl => match us, hl with | [_, _], _ => rfl
  have F31 := fun_mk (st := s_law_odd) l31 c31 k31
  have b31 := F31.binds (ps := ["_law_jug_here"]) fun _ _ _ _ _ _ us hl => match us, hl with | [_], _ => rfl
  have F32 := fun_mk (st := s_law_way_right) l32 c32 k32
  have b32 := F32.binds (ps := ["_law_made", "_law_names", "_law_arrows_here", "_law_k"]) fun _ _ _ _ _ _ us hl => match us, hl with | [_, _, _, _], _ => rfl
  have F33 := fun_mk (st := s_law_common_right) l33 c33 k33
  have b33 := F33.binds (ps := ["_law_made", "_law_names", "_law_arrows_here"]) fun _ _ _ _ _ _ us hl => match us, hl with | [_, _, _], _ => rfl
  have F34 := fun_mk (st := s_law_told) l34 c34 k34
  have b34 := F34.binds (ps := ["_law_call"]) fun _ _ _ _ _ _ us hl => match us, hl with | [_], _ => rfl
  have F35 := fun_mk (st := s_law_refusals_right) l35 c35 k35
  have b35 := F35.binds (ps := ["_law_jug_here", "_law_made", "_law_names"]) fun _ _ _ _ _ _ us hl => match us, hl with | [_, _, _], _ => rfl
  have F36 := fun_mk (st := s_law_right) l36 c36 k36
  have b36 := F36.binds (ps := ["_law_jug_here"]) fun _ _ _ _ _ _ us hl => match us, hl with | [_], _ => rfl
  have F37 := fun_mk (st := s_law) l37 c37 k37
  have b37 := F37.binds (ps := ["_law_script"]) fun _ _ _ _ _ _ us hl => match us, hl with | [_], _ => rfl
  have FIE0 := fun_mk (st := s_err_UnknownName) lIE0 cIE0 kIE0
  have bIE0 := FIE0.binds (ps := ["self", "given"]) fun _ _ _ _ _ _ us hl => match us, hl with | [_, _], _ => rfl
  have T : Txt K mg C CU := {
    b_isinstance := PySem.W.mg_none_of X G z_isinstance
    b_int := PySem.W.mg_none_of X G z_int
    b_bool := PySem.W.mg_none_of X G z_bool
    b_str := PySem.W.mg_none_of X G z_str
    b_len := PySem.W.mg_none_of X G z_len
    b_tuple := PySem.W.mg_none_of X G z_tuple
    b_dict := PySem.W.mg_none_of X G z_dict
    b_enumerate := PySem.W.mg_none_of X G z_enumerate
    b_range := PySem.W.mg_none_of X G z_range
    b_divmod := PySem.W.mg_none_of X G z_divmod
    b_abs := PySem.W.mg_none_of X G z_abs
    b_sorted := PySem.W.mg_none_of X G z_sorted
    b_repr := PySem.W.mg_none_of X G z_repr
    b_all := PySem.W.mg_none_of X G z_all
    b_max := PySem.W.mg_none_of X G z_max
    b_min := PySem.W.mg_none_of X G z_min
    c_LETTERS := ⟨_, PySem.W.mg_of X G g_LETTERS⟩
    c_END := ⟨_, PySem.W.mg_of X G g_END⟩
    c_LAST_PLACE := ⟨_, PySem.W.mg_of X G g_LAST_PLACE⟩
    c_MOST_NAMES := ⟨_, PySem.W.mg_of X G g_MOST_NAMES⟩
    c_MOST_CELLS := ⟨_, PySem.W.mg_of X G g_MOST_CELLS⟩
    mgC := PySem.W.mg_of X G aC
    mgCU := PySem.W.mg_of X G aCU
    x_UnknownName := ⟨PySem.W.mg_of X G aCU, ⟨⟨_, _, _, _, _, _, _, _, _, _, _, _, _, _, _, xLE0, rfl⟩, saE0, eCE0, tCE0, kCE0⟩, ⟨gaE0, ggE0, eCE0, hCE0⟩, nfE0, PySem.W.exm_ref eCE0 hCE0 tCE0 sCE0, ⟨fIE0, _, FIE0, iIE0, tIE0, bIE0⟩⟩
    cl := ⟨pg, hd, po, sa⟩
    n_names := n_names
    n_cells := n_cells
    n_letters := n_letters
    n_text := n_text
    n_places := n_places
    n_arrows := n_arrows
    n_led_to := n_led_to
    isC := isC
    isG := isG
    isT := isT
    isM := isM
    k_self := kit_self
    k_str := kit_not icl tcl s_str
    k_int := kit_not icl tcl s_int
    k_tup := kit_not icl tcl s_tuple
    f_str := f_str
    f_int := f_int
    f_tup := f_tuple
    d_is_number := ⟨_, _, F0, PySem.W.mg_of X G a0, b0⟩
    d_is_whole := ⟨_, _, F1, PySem.W.mg_of X G a1, b1⟩
    d_is_place := ⟨_, _, F2, PySem.W.mg_of X G a2, b2⟩
    d_is_letter := ⟨_, _, F3, PySem.W.mg_of X G a3, b3⟩
    d_is_tuple_of := ⟨_, _, F4, PySem.W.mg_of X G a4, b4⟩
    d_init := ⟨_, _, F5, ⟨mk, a5, i5, kc⟩, b5⟩
    d_eq := ⟨_, _, F6, ⟨a6, i6, neq, isM, b6⟩⟩
    d_take := ⟨_, _, F7, ⟨a7, i7, k7⟩, b7⟩
    d_at := ⟨_, _, F8, ⟨a8, i8, k8⟩, b8⟩
    d__are_store_names := ⟨_, _, F9, PySem.W.mg_of X G a9, b9⟩
    d__wrong_cell := ⟨_, _, F10, PySem.W.mg_of X G a10, b10⟩
    d__store_text := ⟨_, _, F11, PySem.W.mg_of X G a11, b11⟩
    d_need_store := ⟨_, _, F12, PySem.W.mg_of X G a12, b12⟩
    d__followed := ⟨_, _, F13, PySem.W.mg_of X G a13, b13⟩
    d_way := ⟨_, _, F14, PySem.W.mg_of X G a14, b14⟩
    d_way_end := ⟨_, _, F15, PySem.W.mg_of X G a15, b15⟩
    d_tail_and_ring := ⟨_, _, F16, PySem.W.mg_of X G a16, b16⟩
    d_reached_from := ⟨_, _, F17, PySem.W.mg_of X G a17, b17⟩
    d_reached_cells := ⟨_, _, F18, PySem.W.mg_of X G a18, b18⟩
    d_reached := ⟨_, _, F19, PySem.W.mg_of X G a19, b19⟩
    d_lost := ⟨_, _, F20, PySem.W.mg_of X G a20, b20⟩
    d_first_common := ⟨_, _, F21, PySem.W.mg_of X G a21, b21⟩
    d__law_jug := ⟨_, _, F22, PySem.W.mg_of X G a22, b22⟩
    d__law_take := ⟨_, _, F23, PySem.W.mg_of X G a23, b23⟩
    d__law_one_of := ⟨_, _, F24, PySem.W.mg_of X G a24, b24⟩
    d__law_letters := ⟨_, _, F25, PySem.W.mg_of X G a25, b25⟩
    d__law_drawn_cells := ⟨_, _, F26, PySem.W.mg_of X G a26, b26⟩
    d__law_drawn_store := ⟨_, _, F27, PySem.W.mg_of X G a27, b27⟩
    d__law_arrows := ⟨_, _, F28, PySem.W.mg_of X G a28, b28⟩
    d__law_gone_along := ⟨_, _, F29, PySem.W.mg_of X G a29, b29⟩
    d__law_knots := ⟨_, _, F30, PySem.W.mg_of X G a30, b30⟩
    d__law_odd := ⟨_, _, F31, PySem.W.mg_of X G a31, b31⟩
    d__law_way_right := ⟨_, _, F32, PySem.W.mg_of X G a32, b32⟩
    d__law_common_right := ⟨_, _, F33, PySem.W.mg_of X G a33, b33⟩
    d__law_told := ⟨_, _, F34, PySem.W.mg_of X G a34, b34⟩
    d__law_refusals_right := ⟨_, _, F35, PySem.W.mg_of X G a35, b35⟩
    d__law_right := ⟨_, _, F36, PySem.W.mg_of X G a36, b36⟩
    d_law := ⟨_, _, F37, PySem.W.mg_of X G a37, b37⟩
  }
  have tb35 := (TO "_law_refusals_right" List.mem_cons_self).read X (PySem.W.mg_of X G a35) l35 r35 lc35 hp35
  refine ⟨PySem.W.fnOf "law" "law" (defArgs s_law) (defBody s_law) (defScope s_law) .none kV37 dc37 pm37 an37 cd37 ct37, [(cc35, Pt)], (q_law K Pt QL), ?_, ?_, ?_, fun s v => .of_eq rfl, ?_, fun base _ _ TB => ?_⟩
  · exact fun p hp => by
      simp only [List.mem_cons, List.not_mem_nil, or_false] at hp
      obtain rfl := hp
      exact tb35.1
  · exact fun p hp => by
      simp only [List.mem_cons, List.not_mem_nil, or_false] at hp
      obtain rfl := hp
      exact np35
  · exact fun p hp => by
      simp only [List.mem_cons, List.not_mem_nil, or_false] at hp
      obtain rfl := hp
      exact tb35.2
  · exact fun H a ns hl hT hS => ⟨a, ns, rfl, hS, TabS.nil (hT (_, Pt) List.mem_cons_self), hl, fun _ => rfl⟩
  have TB35 := TB (cc35, Pt) List.mem_cons_self
  have G__law_take : Pr l.prog w K mg base "_law_take" s_law_take 1 ["_law_jug_here", "_law_many"] sp_law_take := ok_law_take T 
  have G__law_one_of : Pr l.prog w K mg base "_law_one_of" s_law_one_of 2 ["_law_jug_here", "_law_some"] (sp_law_one_of K) := ok_law_one_of T G__law_take
  have G__law_drawn_cells : Pr l.prog w K mg base "_law_drawn_cells" s_law_drawn_cells 3 ["_law_jug_here", "_law_most"] (sp_law_drawn_cells K) := ok_law_drawn_cells T G__law_take G__law_one_of
  have G__law_drawn_store : Pr l.prog w K mg base "_law_drawn_store" s_law_drawn_store 4 ["_law_jug_here", "_law_letters_here", "_law_most"] (sp_law_drawn_store K) := ok_law_drawn_store T G__law_drawn_cells G__law_one_of
  have G__law_letters : Pr l.prog w K mg base "_law_letters" s_law_letters 3 ["_law_jug_here", "_law_many"] sp_law_letters := ok_law_letters T G__law_one_of G__law_take
  have G_is_tuple_of : Pr l.prog w K mg base "is_tuple_of" s_is_tuple_of 1 ["value", "many"] (sp_is_tuple_of K) := ok_is_tuple_of T 
  have G_is_number : Pr l.prog w K mg base "is_number" s_is_number 1 ["value"] sp_is_number := ok_is_number T 
  have G_is_whole : Pr l.prog w K mg base "is_whole" s_is_whole 2 ["value", "low", "high"] sp_is_whole := ok_is_whole T G_is_number
  have G_is_place : Pr l.prog w K mg base "is_place" s_is_place 3 ["value"] sp_is_place := ok_is_place T G_is_whole
  have G__wrong_cell : Pr l.prog w K mg base "_wrong_cell" s_wrong_cell 4 ["cells"] (sp_wrong_cell K) := ok_wrong_cell T G_is_tuple_of G_is_place
  have G__store_text : Pr l.prog w K mg base "_store_text" s_store_text 1 ["names", "cells"] (sp_store_text K) := ok_store_text T 
  have G_take : PrM l.prog w K mg base C "take" "Store.take" s_take 2 ["self", "names", "cells"] (sp_take K C) := ok_take T G__store_text
  have G_is_letter : Pr l.prog w K mg base "is_letter" s_is_letter 1 ["value"] (q_is_letter K) := ok_is_letter T 
  have G__are_store_names : Pr l.prog w K mg base "_are_store_names" s_are_store_names 4 ["value"] (sp_are_store_names K) := ok_are_store_names T G_is_tuple_of G_is_letter G_is_place
  have G_init : PrI l.prog w K mg base C "Store.__init__" s_init 5 ["self", "names", "cells"] (sp_init K C) := ok_init T G__wrong_cell G_take G__are_store_names
  have G__law_arrows : Pr l.prog w K mg base "_law_arrows" s_law_arrows 1 ["_law_cells"] (sp_law_arrows K) := ok_law_arrows T 
  have G__law_gone_along : Pr l.prog w K mg base "_law_gone_along" s_law_gone_along 1 ["_law_arrows_here", "_law_place"] sp_law_gone_along := ok_law_gone_along T 
  have G_need_store : Pr l.prog w K mg base "need_store" s_need_store 1 ["value"] (sp_need_store K C) := ok_need_store T 
  have G_at : PrMX l.prog w K mg base C "at" "Store.at" s_at 3 ["self", "letter"] (q_at K C CU) := ok_at T G_is_letter
  have G__followed : PrX l.prog w K mg base "_followed" s_followed 4 ["store", "letter"] (q_followed K C CU) := ok_followed T G_at
  have G_first_common : PrX l.prog w K mg base "first_common" s_first_common 5 ["store", "letter", "other"] (q_first_common K C CU) := ok_first_common T G_need_store G__followed
  have G__law_common_right : PrG l.prog w K mg base "_law_common_right" s_law_common_right 6 ["_law_made", "_law_names", "_law_arrows_here"] (sp_law_common_right K C) := ok_law_common_right T G__law_gone_along G_first_common
  have G__law_odd : Pr l.prog w K mg base "_law_odd" s_law_odd 3 ["_law_jug_here"] (q_odd K) := ok_law_odd T G__law_one_of
  have G_way : PrX l.prog w K mg base "way" s_way 5 ["store", "letter"] (q_way K C CU) := ok_way T G_need_store G__followed
  have G_way_end : PrX l.prog w K mg base "way_end" s_way_end 5 ["store", "letter"] (q_way_end K C CU) := ok_way_end T G_need_store G__followed
  have G_tail_and_ring : PrX l.prog w K mg base "tail_and_ring" s_tail_and_ring 5 ["store", "letter"] (q_tail K C CU) := ok_tail_and_ring T G_need_store G__followed
  have G__law_one_of_s := ok_law_one_of_s T (P := l.prog) (w := w) (base := base) G__law_take
  have G__law_refusals_right : PrG l.prog w K mg base "_law_refusals_right" s_law_refusals_right 12 ["_law_jug_here", "_law_made", "_law_names"] (q_refusals K C Pt QL) := ⟨_, _, F35, PySem.W.mg_of X G a35, b35, ok_law_refusals_right T G__law_odd G__law_one_of_s G_way G_way_end G_tail_and_ring G_first_common F35 r35 TB35⟩
  have G__law_knots : Pr l.prog w K mg base "_law_knots" s_law_knots 2 ["_law_names", "_law_arrows_here"] (sp_law_knots K) := ok_law_knots T G__law_gone_along
  have G__law_way_right : PrG l.prog w K mg base "_law_way_right" s_law_way_right 6 ["_law_made", "_law_names", "_law_arrows_here", "_law_k"] (sp_law_way_right K C) := ok_law_way_right T G__law_gone_along G_way G_way_end G_tail_and_ring
  have G_reached_from : Pr l.prog w K mg base "reached_from" s_reached_from 1 ["names", "arrows"] (q_reached_from K) := ok_reached_from T 
  have G_reached_cells : Pr l.prog w K mg base "reached_cells" s_reached_cells 2 ["store"] (sp_reached_cells K C) := ok_reached_cells T G_reached_from
  have G_reached : Pr l.prog w K mg base "reached" s_reached 3 ["store"] (sp_reached K C) := ok_reached T G_need_store G_reached_cells
  have G_lost : Pr l.prog w K mg base "lost" s_lost 3 ["store"] (sp_lost K C) := ok_lost T G_need_store G_reached_cells
  have G_eq : PrE l.prog w K mg base C "Store.__eq__" s_eq 1 (sp_eq K C) := ok_eq T 
  have G__law_right := ok_law_right T G__law_drawn_store G__law_letters G__law_one_of G_init G__law_arrows G__law_common_right G__law_knots G__law_way_right G__law_take G_reached G_lost G__law_refusals_right
  have G__law_jug : Pr l.prog w K mg base "_law_jug" s_law_jug 1 ["_law_script", "_law_turn"] (sp_law_jug K) := ok_law_jug T 
  have G_law := ok_law T G__law_jug G__law_right
  obtain ⟨f, fd, F, gl, bd, R⟩ := G_law
  have e1 := gl.symm.trans (PySem.W.mg_of X G a37)
  cases e1
  obtain ⟨x1, x2, x3, x4, x5, x6, x7, x8, x9, e2, lk, _⟩ := F.ex
  rw [l37] at lk
  injection lk with lk
  injection lk with _ _ l3 _
  injection l3 with l4
  first | rw [← l4] at R | rw [l4] at R | rw [e2, ← l4] at R
  exact R
theorem walk {l : PySem.W.OpenLaw} {q : Program} {loose : List Str} {XP : (Str → Option Value) → Heap → Prop} {YP : World → Heap → Prop} {d : DefRec} {K : Params → PySem.W.Frag} (hn : l.most = some 63) (hdf : d.params.defaults = [])
    (hrec : ((["_law_refusals_right"] : List Str).all fun nm => (PyProof.Rows.recsOf q).any fun e => e.name == nm) = true) (hY : ∀ (w : World) (h : Heap), YP w h → (K w.params).In h)
    (F : ∀ (w : World) (mg : Str → Option Value) (fa : Addr) (h : Heap), (K w.params).In h → h.Ns mainGlobals mg → mg d.name = some (.ref fa) → (∀ nm ∈ (["_law_refusals_right"] : List Str), TabOf mg h nm) → LawAtG l w (K w.params) 14 63 "_law_script" mg fa h) :
    PySem.W.WalkO q loose XP YP l.row.toRowW d [] (fun f vs => PySem.call f vs) :=
  walkGT2 (n := 63) (k := 14) (x := "_law_script") hn (by decide) hdf ⟨rfl, by decide, by decide⟩ hY _ hrec F
end K1
open PySem PySem.W PyProof.Rows
set_option maxRecDepth 100000 in
set_option maxHeartbeats 0 in
theorem PySem.Challenge.cw_arrowcells_k03_ways_ends_tails_rings_holds : PySem.Challenge.rw_arrowcells_k03_ways_ends_tails_rings.Holds := by
  w_on; o_law; k_head; (case hw => w_witness2)
  k_fill
  refine K1.walk (l := PySem.Challenge.rw_arrowcells_k03_ways_ends_tails_rings) rfl rfl (by decide +kernel) (fun w h Y => by first | exact PySem.W.kIn_of Y | exact PySem.W.km_in_of Y) ?F
  case F =>
    intro w mg fa h KX G hmg TO
    refine' K1.all_mk KX G hmg TO ?aC ?aCU ?a0 ?l0 ?c0 ?k0 ?a1 ?l1 ?c1 ?k1 ?a2 ?l2 ?c2 ?k2 ?a3 ?l3 ?c3 ?k3 ?a4 ?l4 ?c4 ?k4 ?a5 ?i5 ?l5 ?c5 ?k5 ?a6 ?i6 ?l6 ?c6 ?k6 ?a7 ?i7 ?l7 ?c7 ?k7 ?a8 ?i8 ?l8 ?c8 ?k8 ?a9 ?l9 ?c9 ?k9 ?a10 ?l10 ?c10 ?k10 ?a11 ?l11 ?c11 ?k11 ?a12 ?l12 ?c12 ?k12 ?a13 ?l13 ?c13 ?k13 ?a14 ?l14 ?c14 ?k14 ?a15 ?l15 ?c15 ?k15 ?a16 ?l16 ?c16 ?k16 ?a17 ?l17 ?c17 ?k17 ?a18 ?l18 ?c18 ?k18 ?a19 ?l19 ?c19 ?k19 ?a20 ?l20 ?c20 ?k20 ?a21 ?l21 ?c21 ?k21 ?a22 ?l22 ?c22 ?k22 ?a23 ?l23 ?c23 ?k23 ?a24 ?l24 ?c24 ?k24 ?a25 ?l25 ?c25 ?k25 ?a26 ?l26 ?c26 ?k26 ?a27 ?l27 ?c27 ?k27 ?a28 ?l28 ?c28 ?k28 ?a29 ?l29 ?c29 ?k29 ?a30 ?l30 ?c30 ?k30 ?a31 ?l31 ?c31 ?k31 ?a32 ?l32 ?c32 ?k32 ?a33 ?l33 ?c33 ?k33 ?a34 ?l34 ?c34 ?k34 ?a35 ?l35 ?c35 ?k35 ?a36 ?l36 ?c36 ?k36 ?a37 ?l37 ?c37 ?k37 ?pg ?hd ?po ?sa ?mk ?kc ?n_names ?n_cells ?n_letters ?n_text ?n_places ?n_arrows ?n_led_to ?isC ?isG ?isT ?isM ?neq ?icl ?tcl ?s_str ?f_str ?s_int ?f_int ?s_tuple ?f_tuple ?xLE0 ?saE0 ?gaE0 ?ggE0 ?nfE0 ?iIE0 ?tIE0 ?lIE0 ?cIE0 ?kIE0 ?kCE0 ?eCE0 ?tCE0 ?hCE0 ?sCE0 ?z_isinstance ?z_int ?z_bool ?z_str ?z_len ?z_tuple ?z_dict ?z_enumerate ?z_range ?z_divmod ?z_abs ?z_sorted ?z_repr ?z_all ?z_max ?z_min ?g_LETTERS ?g_END ?g_LAST_PLACE ?g_MOST_NAMES ?g_MOST_CELLS ?r35 ?lc35 ?hp35 ?np35
    (case aC => k_is)
    (case aCU => k_is)
    (case a0 => k_is)
    (case l0 => k_is)
    (case c0 => k_is)
    (case k0 => k_is)
    (case a1 => k_is)
    (case l1 => k_is)
    (case c1 => k_is)
    (case k1 => k_is)
    (case a2 => k_is)
    (case l2 => k_is)
    (case c2 => k_is)
    (case k2 => k_is)
    (case a3 => k_is)
    (case l3 => k_is)
    (case c3 => k_is)
    (case k3 => k_is)
    (case a4 => k_is)
    (case l4 => k_is)
    (case c4 => k_is)
    (case k4 => k_is)
    (case a5 => k_is)
    (case i5 => k_is)
    (case l5 => k_is)
    (case c5 => k_is)
    (case k5 => k_is)
    (case a6 => k_is)
    (case i6 => k_is)
    (case l6 => k_is)
    (case c6 => k_is)
    (case k6 => k_is)
    (case a7 => k_is)
    (case i7 => k_is)
    (case l7 => k_is)
    (case c7 => k_is)
    (case k7 => k_is)
    (case a8 => k_is)
    (case i8 => k_is)
    (case l8 => k_is)
    (case c8 => k_is)
    (case k8 => k_is)
    (case a9 => k_is)
    (case l9 => k_is)
    (case c9 => k_is)
    (case k9 => k_is)
    (case a10 => k_is)
    (case l10 => k_is)
    (case c10 => k_is)
    (case k10 => k_is)
    (case a11 => k_is)
    (case l11 => k_is)
    (case c11 => k_is)
    (case k11 => k_is)
    (case a12 => k_is)
    (case l12 => k_is)
    (case c12 => k_is)
    (case k12 => k_is)
    (case a13 => k_is)
    (case l13 => k_is)
    (case c13 => k_is)
    (case k13 => k_is)
    (case a14 => k_is)
    (case l14 => k_is)
    (case c14 => k_is)
    (case k14 => k_is)
    (case a15 => k_is)
    (case l15 => k_is)
    (case c15 => k_is)
    (case k15 => k_is)
    (case a16 => k_is)
    (case l16 => k_is)
    (case c16 => k_is)
    (case k16 => k_is)
    (case a17 => k_is)
    (case l17 => k_is)
    (case c17 => k_is)
    (case k17 => k_is)
    (case a18 => k_is)
    (case l18 => k_is)
    (case c18 => k_is)
    (case k18 => k_is)
    (case a19 => k_is)
    (case l19 => k_is)
    (case c19 => k_is)
    (case k19 => k_is)
    (case a20 => k_is)
    (case l20 => k_is)
    (case c20 => k_is)
    (case k20 => k_is)
    (case a21 => k_is)
    (case l21 => k_is)
    (case c21 => k_is)
    (case k21 => k_is)
    (case a22 => k_is)
    (case l22 => k_is)
    (case c22 => k_is)
    (case k22 => k_is)
    (case a23 => k_is)
    (case l23 => k_is)
    (case c23 => k_is)
    (case k23 => k_is)
    (case a24 => k_is)
    (case l24 => k_is)
    (case c24 => k_is)
    (case k24 => k_is)
    (case a25 => k_is)
    (case l25 => k_is)
    (case c25 => k_is)
    (case k25 => k_is)
    (case a26 => k_is)
    (case l26 => k_is)
    (case c26 => k_is)
    (case k26 => k_is)
    (case a27 => k_is)
    (case l27 => k_is)
    (case c27 => k_is)
    (case k27 => k_is)
    (case a28 => k_is)
    (case l28 => k_is)
    (case c28 => k_is)
    (case k28 => k_is)
    (case a29 => k_is)
    (case l29 => k_is)
    (case c29 => k_is)
    (case k29 => k_is)
    (case a30 => k_is)
    (case l30 => k_is)
    (case c30 => k_is)
    (case k30 => k_is)
    (case a31 => k_is)
    (case l31 => k_is)
    (case c31 => k_is)
    (case k31 => k_is)
    (case a32 => k_is)
    (case l32 => k_is)
    (case c32 => k_is)
    (case k32 => k_is)
    (case a33 => k_is)
    (case l33 => k_is)
    (case c33 => k_is)
    (case k33 => k_is)
    (case a34 => k_is)
    (case l34 => k_is)
    (case c34 => k_is)
    (case k34 => k_is)
    (case a35 => k_is)
    (case l35 => k_is)
    (case c35 => k_is)
    (case k35 => k_is)
    (case a36 => k_is)
    (case l36 => k_is)
    (case c36 => k_is)
    (case k36 => k_is)
    (case a37 => k_is)
    (case l37 => k_is)
    (case c37 => k_is)
    (case k37 => k_is)
    (case pg => k_is)
    (case hd => k_is)
    (case po => k_is)
    (case sa => k_is)
    (case mk => k_is)
    (case kc => k_is)
    (case n_names => k_is)
    (case n_cells => k_is)
    (case n_letters => k_is)
    (case n_text => k_is)
    (case n_places => k_is)
    (case n_arrows => k_is)
    (case n_led_to => k_is)
    (case isC => k_is)
    (case isG => k_is)
    (case isT => k_is)
    (case isM => k_is)
    (case neq => k_is)
    (case icl => k_is)
    (case tcl => k_is)
    (case s_str => k_is)
    (case f_str => k_is)
    (case s_int => k_is)
    (case f_int => k_is)
    (case s_tuple => k_is)
    (case f_tuple => k_is)
    (case xLE0 => k_is)
    (case saE0 => k_is)
    (case gaE0 => k_is)
    (case ggE0 => k_is)
    (case nfE0 => k_is)
    (case iIE0 => k_is)
    (case tIE0 => k_is)
    (case lIE0 => k_is)
    (case cIE0 => k_is)
    (case kIE0 => k_is)
    (case kCE0 => k_is)
    (case eCE0 => k_is)
    (case tCE0 => k_is)
    (case hCE0 => k_is)
    (case sCE0 => k_is)
    (case z_isinstance => k_is)
    (case z_int => k_is)
    (case z_bool => k_is)
    (case z_str => k_is)
    (case z_len => k_is)
    (case z_tuple => k_is)
    (case z_dict => k_is)
    (case z_enumerate => k_is)
    (case z_range => k_is)
    (case z_divmod => k_is)
    (case z_abs => k_is)
    (case z_sorted => k_is)
    (case z_repr => k_is)
    (case z_all => k_is)
    (case z_max => k_is)
    (case z_min => k_is)
    (case g_LETTERS => k_is)
    (case g_END => k_is)
    (case g_LAST_PLACE => k_is)
    (case g_MOST_NAMES => k_is)
    (case g_MOST_CELLS => k_is)
    (case r35 => rfl)
    (case lc35 => k_is)
    (case hp35 => rfl)
    (case np35 => rfl)
