import PyProof.Rows.All
import Wide.All
import OpenK.AllK
import Wide.FinOn
import PyProof.EqAt
import PyProof.EqKinds
import PyProof.TupleCall
import HandS.ForMost
import HandS.TupAny
import HandS.TupMul
import HandS.TupLe
import HandS.IsInst
import KE.GoesMore
import KE.KRevSl
import KE.LtSeq
import KE.LtData
import KE.SortCalls
import KE.SortData
import KE.DataEq
import HandS.NoneIn
import KE.KDictLaw
import KE.KeyNested
import KE.KDictKeyed
import KE.KDictWalk
import KE.KDictList
import KE.KDictSum
import HandS.Lambda
import HandS.Flow
import HandS.Strs
import HandS.Set
import KE.KSetDisp
import KE.GoesSet
import HandS.Walk
import HandS.SetFor
import HandS.Star
import HandS.Conv
import HandS.Iter
import KE.KStateDown
import HandS.Base
import HandS.Call
import HandS.Ends
import HandS.More
import HandS.Words
import HandS.WordsExc
import HandS.Defaults
import HandS.Head0
import HandS.Head1
import HandS.Head2
import HandS.HeadEnd
import HandS.HeadHook1
import HandS.HeadHook2
import HandS.HeadHook3
import HandS.HeadHook4
import HandS.EndTab
import PySem.Challenge.RW_playsense_k55_threads
set_option Elab.async false
set_option linter.all false
set_option maxRecDepth 100000
set_option maxHeartbeats 4000000
/-! Rules of our own: list.extend of a tuple, xs[::-1], enumerate of a tuple, () * k. -/
namespace Pk
open PySem PySem.Spec PyProof.Rows L2

/-! ### list.extend(tuple) -/
theorem list_extend_tupW (l : Addr) (items : Array Value) (n : Nat) (b : Addr) (items2 : Array Value) (n2 : Nat) (dd : Option Addr) (sl : Array (Option Value))
    (hs0 : ¬(!items.isEmpty && Builtin.List.listTooLong (items.size + items2.size)) = true) (hs1 : items.size ≤ sizeLine) (hs2 : items.size + items2.size ≤ sizeLine + 1) :
    Meets (Builtin.«list.extend» ⟨[.ref l, .ref b], []⟩) (fun _ R s => s.heap.get? l = some { cls := .type "list", dict := none, data := .seq items n, slots := #[] } ∧ s.heap.get? b = some { cls := .type "tuple", dict := dd, data := .seq items2 n2, slots := sl } ∧
      R (.ok (.ret Value.none)) { s with heap := s.heap.update l (Obj.mapSeq fun x => x ++ items2), toks := s.toks }) :=
  .of_wp fun prog w A R s h => by
    obtain ⟨hp, g, d, tk, os⟩ := s
    obtain ⟨hl, hb, h⟩ := h
    have f1 := AutoSeq1.idx_int
    have f2 := AutoSeq1.sub_tuple_tuple
    have f3 := AutoSeq1.sub_list_list
    have f4 := AutoSeq1.sub_tuple_list
    have f5 := AutoSeq1.sub_list_tuple
    have hz' : (items ++ items2).size ≤ sizeLine + 1 := by rw [Array.size_append]; exact hs2
    wp_walk using (wpAny_updateSeq hl rfl (hz := hs1) (_hz' := hz')), AutoSeq1.wpAny_loadPart' hl, AutoSeq1.wpAny_loadPart' hb
    exact ⟨_, rfl, h⟩
def rExtendT (K : PySem.W.Frag) : V → List V → Hp → VK → Prop := fun x vs H Q => ∃ l b xs zs, x = .ref l ∧ vs = [.ref b] ∧ H l = some (.lst xs) ∧ SqT K H b zs ∧ xs.length + zs.length ≤ sizeLine ∧ Q .non (upd H l (.lst (xs ++ zs)))
section
variable {X : Cx}
theorem mt_extendT : MtM X "list.extend" (rExtendT X.K) := by
  intro pins s σ H x vs v us Q I rx rv h
  obtain ⟨l, b, xs, zs, rfl, rfl, hH, hB, hz, q⟩ := h
  cases rx
  obtain ⟨u, rfl, ru⟩ := rv.one
  cases ru
  obtain ⟨z, its, n, r, hl, e⟩ := I.lstM hH
  obtain ⟨its2, r2, ⟨⟨cls, dd, data, sl⟩, ho, hc, n2, hd⟩, hz2⟩ := I.tuple hB
  simp only at hc hd
  subst hc hd
  have hl2 := r2.length
  have hsz : its.toArray.size + its2.toArray.size ≤ sizeLine := by rw [List.size_toArray, List.size_toArray]; omega
  have hlong : ¬ (!its.toArray.isEmpty && Builtin.List.listTooLong (its.toArray.size + its2.toArray.size)) = true := by
    rw [notLongL hsz, Bool.and_false]
    exact Bool.false_ne_true
  refine call_meets F.slot_list_extend ⟨_, e, rfl⟩ F.entry_list_extend (F.args_list_extend_2 _ _)
    (list_extend_tupW l its.toArray n b its2.toArray n2 dd sl hlong (by rw [List.size_toArray]; omega) (by omega)) ⟨e, ho, ?_⟩
  refine ⟨.non, _, I.lset (its' := its ++ its2) hH e (by simp) (r.append r2) ?_, rfl, q⟩
  rw [List.length_append]
  omega

/-! ### xs[::-1] -/
def tRevL (K : PySem.W.Frag) (te : TE) : TE := fun σ H Q => te σ H fun x H1 => ∃ a xs, x = .ref a ∧ SqL K H1 a xs ∧ ∀ p, H1 p = none → Q (.ref p) (upd H1 p (.lst xs.reverse))
theorem pe_revL {e : Expr} {te : TE} {j : Nat} {p2 p3 p4 pos : Pos} (he : PE X e te) : PE X (.Subscript e (.Slice none none (some (.UnaryOp .USub (.Constant (.int 1) j p4) p3)) p2) pos) (tRevL X.K te) := by
  refine ⟨fun pins s σ H Q I h => ?_⟩
  refine Subscript_ (thn (he.run pins s σ H _ I h) fun v s1 ⟨x, H1, I1, r1, q1⟩ => ?_)
  have hst := po_some (X := X) (pe_un (pos := p3) un_neg (pe_int (i := 1) (j := j) (pos := p4)))
  refine wpAny_Slice ?_
  rw [evalPart_none]
  refine wpAny_pure ?_
  refine wpAny_pure ?_
  refine thn (hst.run pins s1 σ H1 (fun o H' => o = some (-1) ∧ H' = H1) I1 ?_) fun vs s3 ⟨o, H3, I3, ps, q3⟩ => ?_
  · exact ⟨1, rfl, -1, rfl, rfl, rfl⟩
  obtain ⟨rfl, rfl⟩ := q3
  obtain ⟨a, xs, rfl, hx, q⟩ := q1
  cases r1
  have I4 : Inv X pins σ H3 { s3 with heap := s3.heap.push { cls := .type "slice", data := .fields #[.none, .none, vs] } } := I3.kept (t' := s3.toks) fun b ob q => Heap.get?_push_of_some _ q
  obtain ⟨its, r, ht, hz⟩ := I4.list hx
  have hlen := r.length
  show wpAny (model X.prog X.w) X.A (subscriptTail e (.Slice none none (some (.UnaryOp .USub (.Constant (.int 1) j p4) p3)) p2) (.ref a) (.ref s3.heap.objs.size)) (EP X pins σ Q) X.xe { s3 with heap := s3.heap.push { cls := .type "slice", data := .fields #[.none, .none, vs] } }
  refine tail_any (ops := _) ht.isList.typeIs slot_list_getitem.lookup ?_ (by with_unfolding_all rfl)
  refine wpAny_getItem_list_slice ht.isList (Heap.IsSliceOf.new ..) .none .none ps (by decide) ?_ (by rw [List.size_toArray]; omega)
  have ep : slicePick its.toArray none none (some (-1)) = its.reverse.toArray := PySem.W.krv_pick _
  rw [ep]
  refine ⟨.ref _, _, I4.laid (t' := s3.toks) (o := .lst xs.reverse) (fun b ob q => Heap.get?_push_of_some _ q) (Nat.le_refl _) ?_, rfl, q _ (I4.hok.fresh (Nat.le_refl _))⟩
  exact ⟨by rw [List.length_reverse]; exact hz, _, 0, r.reverse, Heap.get?_push_size _ rfl⟩

/-! ### () * k -/
theorem tuple_mul0 (l : Addr) (items : Array Value) (n : Nat) (dd : Option Addr) (sl : Array (Option Value)) (x : Int) (u : Tok) (c0 : (decide (x < -(2 ^ 63)) || decide (x ≥ 2 ^ 63)) = false) (c1 : (items.isEmpty || x == 1) = true) :
    Meets (Builtin.«tuple.__mul__» ⟨[.ref l, .int x u], []⟩) (fun _ R s => s.heap.get? l = some { cls := .type "tuple", dict := dd, data := .seq items n, slots := sl } ∧ R (.ok (.ret (Value.ref l))) s) :=
  .of_wp fun prog w A R s h => by
    obtain ⟨hp, g, d, tk, os⟩ := s
    obtain ⟨hl, h⟩ := h
    have f1 := AutoSeq1.idx_int
    wp_walk using AutoSeq1.wpAny_loadPart' hl
    repeat (first
      | (refine wpAny_ite_false (decide_eq_false (by rw [c0]; exact Bool.false_ne_true)) ?_; wp_walk using AutoSeq1.wpAny_loadPart' hl)
      | (refine wpAny_ite_true (decide_eq_true (by rw [c1])) ?_; wp_walk using AutoSeq1.wpAny_loadPart' hl))
    exact ⟨_, rfl, h⟩
def rRep0 (K : PySem.W.Frag) : R2 := fun x y H Q => ∃ l k, x = .ref l ∧ y = .int k ∧ SqT K H l [] ∧ 2 ≤ k ∧ k ≤ 1000 ∧ Q (.ref l) H
theorem op_rep0 : OpR X (binaryOp .Mult) (rRep0 X.K) := by
  intro pins s σ H x y v u Q I rx ry h
  obtain ⟨l, k, rfl, rfl, hT, h1, h2, q⟩ := h
  cases rx
  obtain ⟨t, rfl⟩ := ry
  obtain ⟨its, r, ⟨⟨cls, dd, data, sl⟩, ho, hc, n, hd⟩, hs⟩ := I.tuple hT
  simp only at hc hd
  subst hc hd
  cases r
  have c0 : (decide (k < -(2 ^ 63)) || decide (k ≥ 2 ^ 63)) = false := by
    rw [decide_eq_false (by omega), decide_eq_false (by omega)] <;> rfl
  refine wpAny_binaryOp_repeat_ref (T := "tuple") (U := "int") (by decide) ⟨_, ho, rfl⟩ (fun s' => typeIs_int s' k t) noFill_tuple_mul F.fills_int_mul F.slot_int_rmul repeat_tuple F.slot_int_index.lookup
    (call_meets F.slot_int_rmul (typeIs_int s k t) F.entry_int_rmul (F.args_int_rmul_2 _ _) (int_rmul_tuple k t l _ n dd sl)
      ⟨ho, rfl, ⟨_, ho, rfl⟩, call_meets F.slot_tuple_mul ⟨_, ho, rfl⟩ F.entry_tuple_mul (F.args_tuple_mul_2 _ _) (tuple_mul0 l _ n dd sl k t c0 rfl) ⟨ho, ?_⟩⟩)
  exact ⟨.ref l, H, I, rfl, q⟩
end

/-! ### t + u of tracked tuples, one way on -/
section
variable {X : Cx}
def rCatR : R2 := fun x y H Q => ∃ a b xs ys, x = .ref a ∧ y = .ref b ∧ H a = some (.tup xs) ∧ H b = some (.tup ys) ∧ xs.length + ys.length ≤ sizeLine ∧ ∀ (c : Addr) (H' : Hp), Same H H' → H' c = some (.tup (xs ++ ys)) → Q (.ref c) H'
theorem op_catR : OpR X (binaryOp .Add) rCatR := by
  intro pins s σ H x y v u Q I rx ry h
  obtain ⟨a, b, xs, ys, rfl, rfl, ha, hb, hz, q⟩ := h
  refine op_catA pins s σ H _ _ v u Q I rx ry ⟨a, b, xs, ys, rfl, rfl, SqT.of ha, SqT.of hb, hz, fun e => ?_, fun _ e => ?_, fun _ _ p np => ?_⟩
  · subst e
    exact q b H (Same.refl H) hb
  · subst e
    exact q a H (Same.refl H) (by rw [List.append_nil]; exact ha)
  · exact q p _ (fun c o e => by rw [upd_ne (ne_of_none e np)]; exact e) upd_same
end

/-! ### t[lo:hi] of a tracked tuple, one way on -/
theorem cutV_whole {xs : List V} {lo hi : Option Int} (h : HT.sIx xs.length 0 lo = 0 ∧ HT.sIx xs.length xs.length hi = xs.length) : cutV xs lo hi = xs := by
  unfold cutV
  rw [h.1, h.2, List.drop_zero, Nat.sub_zero, List.take_length]
theorem cutV_to (xs : List V) (k : Nat) : cutV xs none (some (k : Int)) = xs.take k := by
  unfold cutV
  rw [HT.sIx_none, HT.sIx_nat, List.drop_zero, Nat.sub_zero]
  by_cases h : k ≤ xs.length
  · rw [Nat.min_eq_left h]
  · rw [Nat.min_eq_right (by omega), List.take_length, List.take_of_length_le (by omega)]
theorem cutV_from (xs : List V) (k : Nat) : cutV xs (some (k : Int)) none = xs.drop k := by
  unfold cutV
  rw [HT.sIx_none, HT.sIx_nat]
  by_cases h : k ≤ xs.length
  · rw [Nat.min_eq_left h]
    exact List.take_of_length_le (by rw [List.length_drop]; exact Nat.le_refl _)
  · rw [Nat.min_eq_right (by omega), List.drop_length, List.drop_of_length_le (by omega)]
    exact List.take_nil
section
variable {X : Cx}
def rSlR : V → Option Int → Option Int → Hp → VK → Prop := fun x lo hi H Q => ∃ a xs, x = .ref a ∧ H a = some (.tup xs) ∧ ∀ (c : Addr) (H' : Hp), Same H H' → H' c = some (.tup (cutV xs lo hi)) → Q (.ref c) H'
theorem sl_tupR : SlR X rSlR := by
  intro pins s σ H x v vl vu lo hi sl Q I rx hs pl pu h
  obtain ⟨a, xs, rfl, hx, q⟩ := h
  refine sl_tupA pins s σ H _ v vl vu lo hi sl Q I rx hs pl pu ⟨a, xs, rfl, SqT.of hx, fun z => ?_, fun _ p np => ?_⟩
  · exact q a H (Same.refl H) (by rw [cutV_whole z]; exact hx)
  · exact q p _ (fun c o e => by rw [upd_ne (ne_of_none e np)]; exact e) upd_same
end

/-! ### t * k of a tracked tuple, one way on -/
section
variable {X : Cx}
theorem rep_nil {α : Type} : ∀ k : Nat, (List.replicate k ([] : List α)).flatten = []
  | 0 => rfl
  | k + 1 => by
    rw [List.replicate_succ, List.flatten_cons, rep_nil k]
    rfl
def rRepR : R2 := fun x y H Q => ∃ l k xs, x = .ref l ∧ y = .int k ∧ H l = some (.tup xs) ∧ 2 ≤ k ∧ k ≤ 1000 ∧ xs.length ≤ 1000 ∧ ∀ (c : Addr) (H' : Hp), Same H H' → H' c = some (.tup (List.replicate k.toNat xs).flatten) → Q (.ref c) H'
theorem op_repR : OpR X (binaryOp .Mult) rRepR := by
  intro pins s σ H x y v u Q I rx ry h
  obtain ⟨l, k, xs, rfl, rfl, hx, h1, h2, hz, q⟩ := h
  by_cases e : xs = []
  · subst e
    exact op_rep0 pins s σ H _ _ v u Q I rx ry ⟨l, k, rfl, rfl, SqT.of hx, h1, h2, q l H (Same.refl H) (by rw [rep_nil]; exact hx)⟩
  · exact op_repT pins s σ H _ _ v u Q I rx ry ⟨l, k, xs, rfl, rfl, SqT.of hx, e, h1, h2, hz, fun p np => q p _ (fun c o z => by rw [upd_ne (ne_of_none z np)]; exact z) upd_same⟩
end

/-! ### xs == [] -/
section
variable {X : Cx}
def rEqNil (K : PySem.W.Frag) : R2 := fun x y H Q => ∃ a b xs, x = .ref a ∧ y = .ref b ∧ SqL K H a xs ∧ SqL K H b [] ∧ Q (.bl xs.isEmpty) H
theorem op_eqNil (hu : X.A.units + 64 < cLine) : OpR X (compareOp .Eq) (rEqNil X.K) := by
  intro pins s σ H x y v u Q I rx ry h
  obtain ⟨a, b, xs, rfl, rfl, ha, hb, q⟩ := h
  cases rx
  cases ry
  obtain ⟨its, r1, p1, _⟩ := I.list ha
  obtain ⟨its2, r2, p2, _⟩ := I.list hb
  cases r2
  have hu' : X.A.units < cLine := by omega
  cases r1 with
  | nil => exact SeqAt.eq_listAt (e := fun _ => true) p1.isList p2.isList rfl hu' (fun j h1 h2 => by simp at h1) ⟨.bl true, H, I, rfl, q⟩
  | cons r t => exact SeqAt.eq_list_lengthsAt p1.isList p2.isList rfl hu' ⟨.bl false, H, I, rfl, q⟩
end

/-! ### enumerate(tuple) -/
theorem meets_enumerate_newT (l : Addr) (items : Array Value) (n : Nat) (dct : Option Addr) (sl : Array (Option Value)) :
    Meets (Builtin.«enumerate.__new__» ⟨[.type "enumerate", .ref l], []⟩) (fun _ R s => s.heap.get? l = some { cls := .type "tuple", dict := dct, data := .seq items n, slots := sl } ∧
      R (.ok (.ret (.ref (s.heap.push { cls := .type "tuple_iterator", data := .fields #[.ref l, .int 0 0] }).objs.size)))
        { s with heap := (s.heap.push { cls := .type "tuple_iterator", data := .fields #[.ref l, .int 0 0] }).push { cls := .type "enumerate", data := .fields #[.none, .bool false, .ref s.heap.objs.size, rawInt 0, .none, .none] } }) :=
  .of_wp fun prog w A R s h => by
    obtain ⟨hp, g, d, tk, os⟩ := s; obtain ⟨hl, h⟩ := h
    have hsub := sub_enumerate
    have hL : Heap.IsTuple (Shared.heap ⟨hp, g, d, tk, os⟩) l items := ⟨_, hl, rfl, n, rfl⟩
    wp_walk using AutoSeq1.wpAny_loadPart' hl
    refine wpAny_stack_any fun st => wpAny_pure ?_
    split
    · rename_i c _ _ _ _ _
      cases (c == Value.type "enumerate")
      · wp_walk using AutoSeq1.wpAny_loadPart' hl, wpAny_pyIter_tuple hL
        exact ⟨_, rfl, h⟩
      · wp_walk using AutoSeq1.wpAny_loadPart' hl, wpAny_pyIter_tuple hL
        exact ⟨_, rfl, h⟩
    · wp_walk using AutoSeq1.wpAny_loadPart' hl, wpAny_pyIter_tuple hL
      exact ⟨_, rfl, h⟩
section
variable {prog : Program} {w : World} {A : Around} {E : Value → Shared → Prop} {s : Shared}
theorem call_enumerate_tup {l : Addr} {items : Array Value} {Q : Value → Shared → Prop} (hL : IsTup s.heap l items)
    (h : ∀ h', IsEnum h' (s.heap.objs.size + 1) s.heap.objs.size 0 .none → h'.IsTupleIter s.heap.objs.size l 0 → h'.objs.size = s.heap.objs.size + 2 →
      (∀ b o, s.heap.get? b = some o → h'.get? b = some o) → Q (.ref (s.heap.objs.size + 1)) { s with heap := h' }) :
    wpAny (model prog w) A (call (.type "enumerate") [.ref l]) Q E s := by
  obtain ⟨⟨c, dct, dt, sl⟩, hl, hc, n, hd⟩ := hL
  replace hc : c = .type "tuple" := hc
  replace hd : dt = .seq items n := hd
  subst hc hd
  refine callType_new F.called_enumerate (by decide) (F.typeCall_enumerate_1 _) (F.newCall_enumerate_1 _) (fun obj => F.args_object_init_2 obj _) F.entry_enumerate_new
    (meets_enumerate_newT l items n dct sl) ⟨hl, ?_⟩
  have hz : (s.heap.push { cls := .type "tuple_iterator", data := .fields #[.ref l, .int 0 0] }).objs.size = s.heap.objs.size + 1 := Heap.size_push ..
  show _ ∧ _
  rw [hz]
  have he : IsEnum ((s.heap.push { cls := .type "tuple_iterator", data := .fields #[.ref l, .int 0 0] }).push
      { cls := .type "enumerate", data := .fields #[.none, .bool false, .ref s.heap.objs.size, rawInt 0, .none, .none] }) (s.heap.objs.size + 1) s.heap.objs.size 0 .none := by
    have := Heap.get?_push_size (s.heap.push { cls := .type "tuple_iterator", data := .fields #[.ref l, .int 0 0] })
      (o := { cls := .type "enumerate", data := .fields #[.none, .bool false, .ref s.heap.objs.size, rawInt 0, .none, .none] }) rfl
    rw [hz] at this; exact this
  refine ⟨⟨_, he, rfl⟩, h _ he ⟨_, Heap.get?_push_of_some _ (Heap.get?_push_size _ rfl), rfl, rfl⟩ (by rw [Heap.size_push, hz]) fun b o x => Heap.get?_push_of_some _ (Heap.get?_push_of_some _ x)⟩
theorem wpAny_pyNext_enumT_end {e it l : Addr} {i : Nat} {items : Array Value} {old : Value} {Q : Option Value → Shared → Prop} (hh : A.handled = none)
    (he : IsEnum s.heap e it i old) (hit : s.heap.IsTupleIter it l i) (hl : IsTup s.heap l items) (hx : items[i]? = none)
    (hQ : ∀ h', Heap.ExtBut it s.heap h' → Q none { s with heap := h' }) : wpAny (model prog w) A (pyNext (.ref e)) Q E s := by
  have hTy : s.TypeIs (.ref e) "enumerate" := ⟨_, he, rfl⟩
  unfold pyNext
  refine wpAny_bind (wpAny_attempt (wpAny_callSpecial?_slot (name := Str.ofString "__next__") hTy F.slot_enumerate_next
    (wpAny_call_entry F.slot_enumerate_next hTy F.entry_enumerate_next ?_ (F.args_enumerate_next_1 _))))
  show wpAny _ _ (field (.ref e) 2 >>= _) _ _ _
  refine wpAny_bind (wpAny_field he rfl (x := .ref it) rfl ?_)
  refine wpAny_bind (wpAny_nextOf_tuple_end hh hit hl hx fun h' x he' hx' => ?_)
  obtain ⟨o, ho, hc⟩ := hx'
  refine wpAny_bind (wpAny_isInstance (T := "StopIteration") (b := true) ⟨o, ho, hc⟩ isSubtype_stop ?_)
  exact wpAny_pure (hQ _ he')
end
def Itet (K : PySem.W.Frag) (a : Addr) : It :=
  ⟨fun i H => ∃ (xs : List V) (x : V), SqT K H a xs ∧ xs[i]? = some x, fun i H v H' => ∃ T x, v = .ref T ∧ H T = none ∧ H' = upd H T (.tup [.int (i : Nat), x]) ∧ ∀ xs, SqT K H a xs → xs[i]? = some x, fun i H => ∃ xs : List V, SqT K H a xs ∧ xs.length ≤ i⟩
theorem turn_enumT {P : Program} {w : World} {K : PySem.W.Frag} {elts : List Expr} {kk : Nat} {tpos : Pos} (a e it : Addr) (hai : a ≠ it) :
    Turn P w K (.Tuple elts kk tpos) (Itet K a) [e, it] e (fun i h => (∃ old, IsEnum h e it ((i : Nat) : Int) old) ∧ h.IsTupleIter it a i ∧ e ≠ it ∧ e ≠ a) where
  mem := by simp
  obj := fun i h st b hb => by
    obtain ⟨⟨old, he⟩, ⟨o, ho, hc, hd⟩, _⟩ := st
    have e' : b = e ∨ b = it := by simpa using hb
    rcases e' with z | z
    · rw [z]; exact ⟨_, he, fun v q => nomatch q⟩
    · rw [z]; exact ⟨o, ho, fun v q => by rw [hd] at q; cases q⟩
  keep := fun i h h' st k => let ⟨⟨old, he⟩, hi, hne⟩ := st; ⟨⟨old, k e (by simp) _ he⟩, hi.at fun o q => k it (by simp) o q, hne⟩
  item := by
    intro X hP hw hK hc i pins s σ H E I hf st hg
    subst hP hw hK
    obtain ⟨⟨old, he⟩, hit, hne, hea⟩ := st
    obtain ⟨xs, x, hq, hx⟩ := hg
    obtain ⟨its, rv, p, hz⟩ := I.tuple hq
    obtain ⟨u, hu, ru⟩ := rv.get hx
    have hel : e < s.heap.objs.size := Heap.lt_size he
    have hil : it < s.heap.objs.size := by obtain ⟨_, q, _⟩ := hit; exact Heap.lt_size q
    have hlt : i < its.toArray.size := by
      have z1 := (List.getElem?_eq_some_iff.mp hu).1
      rw [List.size_toArray]
      exact z1
    refine wpAny_pyNext_enum_itemD (Draws.tuple (prog := X.prog) (w := X.w) (A := X.A.in1) (I.ok.hd hc) it a hai its.toArray) he ⟨hit, p⟩ hlt hne (by simp; exact ⟨hne, hea⟩) fun x' h' tk hP' ho' st' hT hsz hk => ?_
    have ex : x' = u := by
      have z1 : its.toArray[i]? = some u := by simpa using hu
      rw [z1] at hP'
      exact (Option.some.inj hP').symm
    subst ex
    refine ⟨_, rfl, wpAny_letOwnedTupleGo_enum (s := { s with heap := h', toks := tk + 1 }) ho' fun h'' he' sb => ?_⟩
    have hT2 : h''.get? s.heap.objs.size = some { cls := .type "tuple", data := .seq #[.int i tk, x'] } := (sb.2 _ (Nat.ne_of_gt hel)).trans hT
    have new : ObjOk X.prog X.w (upd H s.heap.objs.size (.tup [.int (i : Nat), x])) h'' s.heap.objs.size (.tup [.int (i : Nat), x]) :=
      ⟨by show 2 ≤ sizeLine; decide, [.int i tk, x'], .cons ⟨_, rfl⟩ (.cons ru .nil), ⟨_, hT2, rfl, _, rfl⟩⟩
    have I1 : Inv X pins σ (upd H s.heap.objs.size (.tup [.int (i : Nat), x])) { s with heap := h'', toks := tk + 1 } :=
      I.turnedNew (ch := [e, it]) (fun b ob hb q => (sb.2 b (fun z => hb (by simp [z]))).trans (hk b ob (fun z => hb (by simp [z])) (fun z => hb (by simp [z])) q)) hf (Nat.le_refl _) new
    refine ⟨.ref s.heap.objs.size, _, I1, rfl, ⟨_, x, rfl, I.hok.fresh (Nat.le_refl _), rfl, fun ys hy => by rw [I.tuple_inj hy hq]; exact hx⟩, ⟨⟨x', ?_⟩, st'.1.at fun o q => (sb.2 it (Ne.symm hne)).trans q, hne, hea⟩, fun b hb => ?_⟩
    · have e1 : ((i + 1 : Nat) : Int) = (i : Int) + 1 := by omega
      rw [e1]; exact he'
    · have hb' : b < s.heap.objs.size := by
        have e' : b = e ∨ b = it := by simpa using hb
        rcases e' with z | z
        · rw [z]; exact hel
        · rw [z]; exact hil
      rw [upd_ne (Nat.ne_of_lt hb')]
      exact (hf b hb).1
  done := by
    intro X hP hw hK hc i pins s σ H E I hf st hg
    subst hP hw hK
    obtain ⟨⟨old, he⟩, hit, hne, hea⟩ := st
    obtain ⟨xs, hq, hx⟩ := hg
    obtain ⟨its, rv, p, hz⟩ := I.tuple hq
    obtain ⟨f0, f1, f2, f3, f4, f5⟩ := hf it (by simp)
    have hl := rv.length
    exact wpAny_pyNext_enumT_end (I.ok.hd hc) he hit p (by simp; omega) fun h' eb => ⟨rfl, I.turned (t' := s.toks) (fun b o hb q => eb b o hb q) f0 f1 f3 f4 f5⟩
  self := fun A i s Q E st h => let ⟨⟨_, he⟩, _⟩ := st; wpAny_pyIter_enum he h
def iEnumT (K : PySem.W.Frag) (ta : TA) : TI := fun σ H R => ta σ H fun vs H1 => ∃ a xs, vs = [.ref a] ∧ SqT K H1 a xs ∧ R (Itet K a) H1
theorem pi_enumT {X : Cx} {e : Expr} {ta : TA} {p pos tpos : Pos} {elts : List Expr} {kk : Nat} (hg : Gl X "enumerate") (hm : X.mg "enumerate" = none) (ha : PA X [e] ta) (hs : starEach [e] X.env = [(false, eval e X.env)] := by rfl) :
    PI X (.Tuple elts kk tpos) (.Call (.Name "enumerate" p) [e] [] pos) (iEnumT X.K ta) := by
  refine ⟨fun pins s σ H R I h => ?_⟩
  refine Call_ (ld_blt I hg hm boot_enumerate (PyProof.Rows.callWith_type1 (thn (ha.run pos pins s σ H _ I h) fun us s1 ⟨vs, H1, I1, r1, q1⟩ => ?_) hs rfl))
  obtain ⟨a, xs, ex, hq, q⟩ := q1
  subst ex
  cases r1 with
  | cons r rr =>
    cases rr
    cases r
    obtain ⟨its, rv, p', hz⟩ := I1.tuple hq
    have hal : a < s1.heap.objs.size := p'.lt
    refine call_enumerate_tup p' fun h' he hit hsz hk => wpAny_pyIter_enum he ?_
    have I2 : Inv X pins σ H1 { s1 with heap := h' } := I1.kept (t' := s1.toks) hk
    refine ⟨s1.heap.objs.size + 1, [s1.heap.objs.size + 1, s1.heap.objs.size], _, _, H1, rfl, I2, turn_enumT a (s1.heap.objs.size + 1) s1.heap.objs.size (Nat.ne_of_lt hal), ⟨⟨.none, he⟩, hit, Nat.succ_ne_self _, Nat.ne_of_gt (Nat.lt_succ_of_lt hal)⟩, fun b hb => ?_, q⟩
    have e' : b = s1.heap.objs.size + 1 ∨ b = s1.heap.objs.size := by simpa using hb
    have hle : s1.heap.objs.size ≤ b := by
      rcases e' with z | z
      · rw [z]; exact Nat.le_add_right _ _
      · rw [z]; exact Nat.le_refl _
    exact I1.fpOk hle (I1.hok.fresh hle)
theorem lc_enumT {K : PySem.W.Frag} {a : Addr} {xs : List V} {g : TG} {tt : TT} {te : TE} {vs : List Nat} {σ : L2.St} {H1 : Hp} {D : Addr} {Qd : Hp → Prop} (Pv : Nat → Hp → Prop) (h0 : Pv 0 (upd H1 D (.lst []))) (hl : ∀ i H, i ≤ xs.length → Pv i H → SqT K H a xs)
    (hs : ∀ i x T H, xs[i]? = some x → Pv i H → H T = none → g (.ref T) (wipe σ vs) (upd H T (.tup [.int (i : Nat), x])) fun σ2 H2 => wipe σ2 vs = wipe σ vs ∧ tt σ2 H2 fun b H3 =>
      if b = true then te σ2 H3 fun y H4 => ∃ acc, H4 D = some (.lst acc) ∧ acc.length < sizeLine ∧ Pv (i + 1) (upd H4 D (.lst (acc ++ [y]))) else Pv (i + 1) H3) (hd : ∀ H, Pv xs.length H → Qd H) :
    ∃ W : Nat → Nat → Hp → Prop, (∃ m, W 0 m (upd H1 D (.lst []))) ∧ ∀ i m H, W i m H →
      ((Itet K a).stop i H ∧ Qd H) ∨ ((Itet K a).go i H ∧ ∃ Nx : Hp → Prop, (∀ H', Nx H' → ∃ m', m' < m ∧ W (i + 1) m' H') ∧ ∀ x H', (Itet K a).yld i H x H' → g x (wipe σ vs) H' fun σ2 H2 => wipe σ2 vs = wipe σ vs ∧ tt σ2 H2 fun b H3 =>
        if b = true then te σ2 H3 fun y H4 => ∃ acc, H4 D = some (.lst acc) ∧ acc.length < sizeLine ∧ Nx (upd H4 D (.lst (acc ++ [y]))) else Nx H3) := by
  refine ⟨fun i m H => m = xs.length - i ∧ i ≤ xs.length ∧ Pv i H, ⟨xs.length, by simp, Nat.zero_le _, h0⟩, ?_⟩
  rintro i m H ⟨rfl, hi, p⟩
  have q := hl i H hi p
  by_cases hlt : i < xs.length
  · refine .inr ⟨⟨xs, xs[i], q, by simp [hlt]⟩, Pv (i + 1), fun H' p' => ⟨xs.length - (i + 1), by omega, rfl, hlt, p'⟩, fun x H' y => ?_⟩
    obtain ⟨T, x', rfl, nT, rfl, y⟩ := y
    exact hs i x' T H (y xs q) p nT
  · have e : i = xs.length := by omega
    subst e
    exact .inl ⟨⟨xs, q, Nat.le_refl _⟩, hd H p⟩
end Pk

set_option maxRecDepth 100000
set_option maxHeartbeats 1000000
namespace Pk
open PySem PySem.Spec PyProof.Rows L2

/-! ### data: an atom, some list, a tuple of data -/
inductive D where
  | at (v : V)
  | lst
  | tup (l : List D)
def flat4 : V → Bool
  | .non => true
  | .bl _ => true
  | .int _ => true
  | .str _ => true
  | _ => false
/-- a tuple that stands: tracked, or of the written part -/
def TupAt (K : PySem.W.Frag) (H : Hp) (a : Addr) (xs : List V) : Prop :=
  H a = some (.tup xs) ∨ ∃ (o : Obj) (its : Array Value) (n : Nat), K.lookup a = some o ∧ o.cls = .type "tuple" ∧ o.data = .seq its n ∧ its.size ≤ sizeLine ∧ Vals xs its.toList
theorem TupAt.sq {K : PySem.W.Frag} {H : Hp} {a : Addr} {xs : List V} (h : TupAt K H a xs) : SqT K H a xs := by
  rcases h with h | h
  · exact .inl (.inl h)
  · exact .inr h
theorem TupAt.same {K : PySem.W.Frag} {H H' : Hp} {a : Addr} {xs : List V} (h : TupAt K H a xs) (s : Same H H') : TupAt K H' a xs := by
  rcases h with h | h
  · exact .inl (s _ _ h)
  · exact .inr h
mutual
inductive Rep (K : PySem.W.Frag) (H : Hp) : V → D → Prop where
  | at {v : V} (h : flat4 v = true) : Rep K H v (.at v)
  | lst {a : Addr} {xs : List V} (h : H a = some (.lst xs)) : Rep K H (.ref a) .lst
  | tup {a : Addr} {xs : List V} {ts : List D} (h : TupAt K H a xs) (r : Reps K H xs ts) : Rep K H (.ref a) (.tup ts)
inductive Reps (K : PySem.W.Frag) (H : Hp) : List V → List D → Prop where
  | nil : Reps K H [] []
  | cons {x : V} {t : D} {xs : List V} {ts : List D} (h : Rep K H x t) (r : Reps K H xs ts) : Reps K H (x :: xs) (t :: ts)
end
theorem Rep.tup' {K : PySem.W.Frag} {H : Hp} {a : Addr} {xs : List V} {ts : List D} (h : H a = some (.tup xs)) (r : Reps K H xs ts) : Rep K H (.ref a) (.tup ts) := .tup (.inl h) r
/-- tuples stand as they are, lists stay lists -/
structure Kx (H H' : Hp) : Prop where
  t : ∀ a xs, H a = some (.tup xs) → H' a = some (.tup xs)
  l : ∀ a xs, H a = some (.lst xs) → ∃ ys, H' a = some (.lst ys)
theorem Kx.refl (H : Hp) : Kx H H := ⟨fun _ _ h => h, fun _ xs h => ⟨xs, h⟩⟩
theorem Kx.trans {H H1 H2 : Hp} (a : Kx H H1) (b : Kx H1 H2) : Kx H H2 := ⟨fun q xs h => b.t q xs (a.t q xs h), fun q xs h => let ⟨ys, h1⟩ := a.l q xs h; b.l q ys h1⟩
theorem kx_same {H H' : Hp} (s : Same H H') : Kx H H' := ⟨fun a xs h => s _ _ h, fun a xs h => ⟨xs, s _ _ h⟩⟩
theorem same_new {H : Hp} {p : Addr} (h : H p = none) (o : HO) : Same H (upd H p o) := fun b u q => by rw [upd_ne (ne_of_none q h)]; exact q
theorem kx_new {H : Hp} {p : Addr} (h : H p = none) (o : HO) : Kx H (upd H p o) := kx_same (same_new h o)
theorem kx_list {H : Hp} {p : Addr} {xs : List V} (h : H p = some (.lst xs)) (ys : List V) : Kx H (upd H p (.lst ys)) := by
  refine ⟨fun a zs e => ?_, fun a zs e => ?_⟩
  · rw [upd_ne (ne_of e h (by intro q; cases q))]
    exact e
  · by_cases ha : a = p
    · subst ha
      exact ⟨ys, upd_same⟩
    · rw [upd_ne ha]
      exact ⟨zs, e⟩
/-- all but what stands at b is as it was -/
def SB (b : Addr) (H H' : Hp) : Prop := ∀ q o, q ≠ b → H q = some o → H' q = some o
theorem SB.refl (b : Addr) (H : Hp) : SB b H H := fun _ _ _ h => h
theorem SB.trans {b : Addr} {H H1 H2 : Hp} (x : SB b H H1) (y : SB b H1 H2) : SB b H H2 := fun q o n h => y q o n (x q o n h)
theorem sb_same {b : Addr} {H H' : Hp} (s : Same H H') : SB b H H' := fun q o _ h => s q o h
theorem sb_upd {b : Addr} {H : Hp} (o : HO) : SB b H (upd H b o) := fun q u n h => by rw [upd_ne n]; exact h
theorem sb_new {b : Addr} {H H' : Hp} (n : H b = none) (s : SB b H H') : Same H H' := fun q o h => s q o (ne_of_none h n) h
theorem sb_kx {b : Addr} {H H' : Hp} {xs ys : List V} (s : SB b H H') (h : H b = some (.lst xs)) (h' : H' b = some (.lst ys)) : Kx H H' := by
  refine ⟨fun a zs e => s _ _ (ne_of e h (by intro q; cases q)) e, fun a zs e => ?_⟩
  by_cases ha : a = b
  · subst ha
    exact ⟨ys, h'⟩
  · exact ⟨zs, s _ _ ha e⟩
theorem TupAt.kx {K : PySem.W.Frag} {H H' : Hp} {a : Addr} {xs : List V} (h : TupAt K H a xs) (k : Kx H H') : TupAt K H' a xs := by
  rcases h with h | h
  · exact .inl (k.t _ _ h)
  · exact .inr h
mutual
theorem Rep.mono {K : PySem.W.Frag} {H H' : Hp} (k : Kx H H') : ∀ {v : V} {d : D}, Rep K H v d → Rep K H' v d
  | _, _, .at h => .at h
  | _, _, .lst h => let ⟨_, h'⟩ := k.l _ _ h; .lst h'
  | _, _, .tup h r => .tup (h.kx k) (Reps.mono k r)
theorem Reps.mono {K : PySem.W.Frag} {H H' : Hp} (k : Kx H H') : ∀ {xs : List V} {ds : List D}, Reps K H xs ds → Reps K H' xs ds
  | _, _, .nil => .nil
  | _, _, .cons h r => .cons (Rep.mono k h) (Reps.mono k r)
end
section
variable {K : PySem.W.Frag} {H : Hp}
theorem Rep.inv {v : V} {ts : List D} (r : Rep K H v (.tup ts)) : ∃ a xs, v = .ref a ∧ TupAt K H a xs ∧ Reps K H xs ts := by
  cases r with
  | tup h r => exact ⟨_, _, rfl, h, r⟩
theorem Rep.inva {v w : V} (r : Rep K H v (.at w)) : v = w ∧ flat4 v = true := by
  cases r with
  | «at» h => exact ⟨rfl, h⟩
theorem Reps.length : ∀ {xs : List V} {ds : List D}, Reps K H xs ds → xs.length = ds.length
  | _, _, .nil => rfl
  | _, _, .cons _ r => congrArg Nat.succ r.length
theorem Reps.get : ∀ {xs : List V} {ds : List D} {i : Nat} {x : V}, Reps K H xs ds → xs[i]? = some x → ∃ d, ds[i]? = some d ∧ Rep K H x d
  | _, _, _, _, .nil, e => by simp at e
  | _, _, 0, _, .cons h _, e => by simp at e; subst e; exact ⟨_, rfl, h⟩
  | _, _, i + 1, x, .cons _ r, e => by
    obtain ⟨d, h1, h2⟩ := Reps.get (i := i) (x := x) r (by simpa using e)
    exact ⟨d, by simpa using h1, h2⟩
theorem Reps.getD : ∀ {xs : List V} {ds : List D} {i : Nat} {d : D}, Reps K H xs ds → ds[i]? = some d → ∃ x, xs[i]? = some x ∧ Rep K H x d := fun {xs ds i d} r e => by
  have hl := r.length
  have hi : i < ds.length := (List.getElem?_eq_some_iff.mp e).1
  obtain ⟨d', h1, h2⟩ := r.get (i := i) (x := xs[i]'(by omega)) (by first | (simp; done) | (simp; omega))
  rw [e] at h1
  cases h1
  exact ⟨_, by first | (simp; done) | (simp; omega), h2⟩
theorem Reps.append : ∀ {xs ys : List V} {ds es : List D}, Reps K H xs ds → Reps K H ys es → Reps K H (xs ++ ys) (ds ++ es)
  | _, _, _, _, .nil, s => s
  | _, _, _, _, .cons h r, s => .cons h (Reps.append r s)
theorem Reps.one {x : V} {d : D} (h : Rep K H x d) : Reps K H [x] [d] := .cons h .nil
theorem Reps.take : ∀ {xs : List V} {ds : List D} (n : Nat), Reps K H xs ds → Reps K H (xs.take n) (ds.take n)
  | _, _, 0, _ => .nil
  | _, _, _ + 1, .nil => .nil
  | _, _, n + 1, .cons h r => .cons h (Reps.take n r)
theorem Reps.drop : ∀ {xs : List V} {ds : List D} (n : Nat), Reps K H xs ds → Reps K H (xs.drop n) (ds.drop n)
  | _, _, 0, r => r
  | _, _, _ + 1, .nil => .nil
  | _, _, n + 1, .cons _ r => Reps.drop n r
theorem Reps.reverse : ∀ {xs : List V} {ds : List D}, Reps K H xs ds → Reps K H xs.reverse ds.reverse
  | _, _, .nil => .nil
  | _, _, .cons h r => by
    rw [List.reverse_cons, List.reverse_cons]
    exact Reps.append (Reps.reverse r) (.one h)
/-- the last one, and those before it -/
theorem Reps.last {xs : List V} {ds : List D} (r : Reps K H xs ds) (h : xs ≠ []) : ∃ x d es, xs[xs.length - 1]? = some x ∧ ds = es ++ [d] ∧ Rep K H x d ∧ Reps K H xs.dropLast es := by
  have hl := r.length
  have hp : 0 < xs.length := List.length_pos_iff.mpr h
  obtain ⟨d, h1, h2⟩ := r.get (i := xs.length - 1) (x := xs[xs.length - 1]'(by omega)) (by first | (simp; done) | (simp; omega))
  refine ⟨_, d, ds.dropLast, by first | (simp; done) | (simp; omega), ?_, h2, ?_⟩
  · have hd : ds ≠ [] := fun e => by
      rw [e] at hl
      simp at hl
      exact h hl
    have q : ds.getLast hd = d := by
      rw [List.getLast_eq_getElem]
      rw [hl, List.getElem?_eq_getElem (by omega)] at h1
      exact Option.some.inj h1
    rw [← q]
    exact (List.dropLast_concat_getLast hd).symm
  · rw [List.dropLast_eq_take, List.dropLast_eq_take, hl]
    exact r.take _
end
/-! ### kinds, sizes, depths -/
mutual
def isK : D → Bool
  | .tup ts => isKs ts
  | _ => false
def isKs : List D → Bool
  | [] => true
  | t :: r => isK t && isKs r
end
mutual
def sz : D → Nat
  | .tup ts => szs ts + 1
  | _ => 1
def szs : List D → Nat
  | [] => 0
  | t :: r => sz t + szs r
end
mutual
def dep : D → Nat
  | .tup ts => deps ts
  | _ => 0
def deps : List D → Nat
  | [] => 0
  | t :: r => max (dep t + 1) (deps r)
end
theorem isKs_append : ∀ (a b : List D), isKs (a ++ b) = (isKs a && isKs b)
  | [], b => by simp [isKs]
  | t :: r, b => by
    show (isK t && isKs (r ++ b)) = ((isK t && isKs r) && isKs b)
    rw [isKs_append r b, Bool.and_assoc]
theorem szs_append : ∀ (a b : List D), szs (a ++ b) = szs a + szs b
  | [], b => by simp [szs]
  | t :: r, b => by
    show sz t + szs (r ++ b) = (sz t + szs r) + szs b
    rw [szs_append r b]
    omega
theorem deps_append : ∀ (a b : List D), deps (a ++ b) = max (deps a) (deps b)
  | [], b => by simp [deps]
  | t :: r, b => by
    show max (dep t + 1) (deps (r ++ b)) = max (max (dep t + 1) (deps r)) (deps b)
    rw [deps_append r b]
    omega
theorem sz_pos : ∀ d : D, 0 < sz d
  | .tup _ => Nat.succ_pos _
  | .at _ => Nat.one_pos
  | .lst => Nat.one_pos
theorem len_szs : ∀ l : List D, l.length ≤ szs l
  | [] => Nat.le_refl _
  | t :: r => by
    have h1 := sz_pos t
    have h2 := len_szs r
    show r.length + 1 ≤ sz t + szs r
    omega
theorem sz_mem : ∀ {l : List D} {d : D}, d ∈ l → sz d ≤ szs l
  | t :: r, d, h => by
    show sz d ≤ sz t + szs r
    rcases List.mem_cons.mp h with e | h
    · rw [e]
      omega
    · have := sz_mem h
      omega
theorem dep_mem : ∀ {l : List D} {d : D}, d ∈ l → dep d + 1 ≤ deps l
  | t :: r, d, h => by
    show dep d + 1 ≤ max (dep t + 1) (deps r)
    rcases List.mem_cons.mp h with e | h
    · rw [e]
      omega
    · have := dep_mem h
      omega
theorem isK_mem : ∀ {l : List D}, isKs l = true → ∀ {d : D}, d ∈ l → isK d = true
  | t :: r, hk, d, h => by
    have hk' : (isK t && isKs r) = true := hk
    rw [Bool.and_eq_true] at hk'
    rcases List.mem_cons.mp h with e | h
    · rw [e]
      exact hk'.1
    · exact isK_mem hk'.2 h
theorem isK_inv {d : D} (h : isK d = true) : ∃ ts, d = .tup ts ∧ isKs ts = true := by
  cases d with
  | tup ts => exact ⟨ts, rfl, h⟩
  | «at» v => cases h
  | lst => cases h
theorem isKs_all : ∀ (l : List D), isKs l = l.all isK
  | [] => rfl
  | t :: r => by
    show (isK t && isKs r) = (isK t && r.all isK)
    rw [isKs_all r]
theorem dep_lt_sz : ∀ d : D, dep d < sz d := by
  have key : ∀ n : Nat, (∀ d : D, sz d ≤ n → dep d < sz d) := by
    intro n
    induction n with
    | zero => intro d h; have := sz_pos d; omega
    | succ n ih =>
      intro d h
      cases d with
      | «at» v => exact Nat.one_pos
      | lst => exact Nat.one_pos
      | tup ts =>
        show deps ts < szs ts + 1
        have h' : szs ts + 1 ≤ n + 1 := h
        have gen : ∀ l : List D, szs l ≤ n → deps l ≤ szs l := by
          intro l
          induction l with
          | nil => intro _; exact Nat.le_refl _
          | cons t r ih2 =>
            intro hl
            have hl' : sz t + szs r ≤ n := hl
            have a1 := ih t (by omega)
            have a2 := ih2 (by omega)
            show max (dep t + 1) (deps r) ≤ sz t + szs r
            omega
        have := gen ts (by omega)
        omega
  exact fun d => key (sz d) d (Nat.le_refl _)
/-! ### data as the library's == reads it -/
mutual
def toPy : D → PyData
  | .at .non => .none
  | .at (.bl b) => .bool b
  | .at (.int i) => .int i
  | .at (.str x) => .str x
  | .at _ => .none
  | .lst => .none
  | .tup ts => .tuple (toPys ts)
def toPys : List D → List PyData
  | [] => []
  | t :: r => toPy t :: toPys r
end
mutual
theorem dp_kind {K : PySem.W.Frag} {H : Hp} : ∀ {v : V} {d : D}, Rep K H v d → isK d = true → Dp K H v (toPy d)
  | _, _, .at _, k => by cases k
  | _, _, .lst _, k => by cases k
  | _, _, .tup h r, k => .tup h.sq (dp_kinds r k)
theorem dp_kinds {K : PySem.W.Frag} {H : Hp} : ∀ {xs : List V} {ds : List D}, Reps K H xs ds → isKs ds = true → DpAll K H xs (toPys ds)
  | _, _, .nil, _ => .nil
  | _, _, .cons h r, k => by
    have k' := Bool.and_eq_true_iff.mp k
    exact .cons (dp_kind h k'.1) (dp_kinds r k'.2)
end
mutual
theorem lay_kind : ∀ {d : D}, isK d = true → PyData.canLay0 (toPy d) = true
  | .at _, k => by cases k
  | .lst, k => by cases k
  | .tup ts, k => lay_kinds (l := ts) k
theorem lay_kinds : ∀ {l : List D}, isKs l = true → PyData.canLayAll0 (toPys l) = true
  | [], _ => rfl
  | t :: r, k => by
    have k' := Bool.and_eq_true_iff.mp k
    show (PyData.canLay0 (toPy t) && PyData.canLayAll0 (toPys r)) = true
    rw [lay_kind k'.1, lay_kinds k'.2]
    rfl
end
mutual
theorem depth_kind : ∀ {d : D}, isK d = true → PyData.depth (toPy d) ≤ dep d + 1
  | .at _, k => by cases k
  | .lst, k => by cases k
  | .tup ts, k => by
    have := depth_kinds (l := ts) k
    show PyData.depthAll (toPys ts) + 1 ≤ deps ts + 1
    omega
theorem depth_kinds : ∀ {l : List D}, isKs l = true → PyData.depthAll (toPys l) ≤ deps l
  | [], _ => Nat.le_refl _
  | t :: r, k => by
    have k' := Bool.and_eq_true_iff.mp k
    have h1 := depth_kind k'.1
    have h2 := depth_kinds k'.2
    show max (PyData.depth (toPy t)) (PyData.depthAll (toPys r)) ≤ max (dep t + 1) (deps r)
    omega
end
theorem shaped_kind {d : D} (k : isK d = true) (h : dep d ≤ 60) : SeqAt.shaped (toPy d) = true := by
  unfold SeqAt.shaped
  have := depth_kind k
  rw [lay_kind k, decide_eq_true (by omega)]
  rfl
/-! ### operators on tuples that stand, one way on -/
section
variable {X : Cx}
def rCatP (K : PySem.W.Frag) : R2 := fun x y H Q => ∃ a b xs ys, x = .ref a ∧ y = .ref b ∧ TupAt K H a xs ∧ TupAt K H b ys ∧ xs.length + ys.length ≤ sizeLine ∧ ∀ (c : Addr) (H' : Hp), Same H H' → TupAt K H' c (xs ++ ys) → Q (.ref c) H'
theorem op_catP : OpR X (binaryOp .Add) (rCatP X.K) := by
  intro pins s σ H x y v u Q I rx ry h
  obtain ⟨a, b, xs, ys, rfl, rfl, ha, hb, hz, q⟩ := h
  refine op_catA pins s σ H _ _ v u Q I rx ry ⟨a, b, xs, ys, rfl, rfl, ha.sq, hb.sq, hz, fun e => ?_, fun _ e => ?_, fun _ _ p np => ?_⟩
  · subst e
    exact q b H (Same.refl H) hb
  · subst e
    exact q a H (Same.refl H) (by rw [List.append_nil]; exact ha)
  · exact q p _ (fun c o e => by rw [upd_ne (ne_of_none e np)]; exact e) (.inl upd_same)
def rSlP (K : PySem.W.Frag) : V → Option Int → Option Int → Hp → VK → Prop := fun x lo hi H Q => ∃ a xs, x = .ref a ∧ TupAt K H a xs ∧ ∀ (c : Addr) (H' : Hp), Same H H' → TupAt K H' c (cutV xs lo hi) → Q (.ref c) H'
theorem sl_tupP : SlR X (rSlP X.K) := by
  intro pins s σ H x v vl vu lo hi sl Q I rx hs pl pu h
  obtain ⟨a, xs, rfl, hx, q⟩ := h
  refine sl_tupA pins s σ H _ v vl vu lo hi sl Q I rx hs pl pu ⟨a, xs, rfl, hx.sq, fun z => ?_, fun _ p np => ?_⟩
  · exact q a H (Same.refl H) (by rw [cutV_whole z]; exact hx)
  · exact q p _ (fun c o e => by rw [upd_ne (ne_of_none e np)]; exact e) (.inl upd_same)
end
end Pk

set_option maxRecDepth 100000
set_option maxHeartbeats 1000000
/-! a list of data whose items compare, place by place, as far as they are asked: sorted -/
namespace Pk
open PySem PySem.Spec PyProof.Rows L2 PySem.SeqAt

/-! ### a < b of two tuples: what stands behind the first place that differs is never asked -/
section
open AutoSeq1 (wpAny_loadPart')
open MeetsSeq MeetsSeq2 MeetsSeq3 SeqRoads2
theorem tupLt_first (p q : Addr) (us ws : Array Value) (np nq : Nat) (dp dq : Option Addr) (sp sq : Array (Option Value)) (same less : Nat → Bool) :
    Meets (Builtin.«tuple.__lt__» ⟨[.ref p, .ref q], []⟩) (fun A R s =>
      s.heap.get? p = some { cls := .type "tuple", dict := dp, data := .seq us np, slots := sp } ∧
      s.heap.get? q = some { cls := .type "tuple", dict := dq, data := .seq ws nq, slots := sq } ∧
      (∀ j (a1 : j < us.size) (a2 : j < ws.size), EqAt A.in1 s us[j] ws[j] (same j)) ∧
      (∀ j (a1 : j < us.size) (a2 : j < ws.size), (∀ m, m < j → same m = true) → same j = false → RcLt A.in1 s us[j] ws[j] (less j)) ∧
      R (.ok (.ret (.bool (firstLt same less (decide (us.size < ws.size)) (List.range (min us.size ws.size)))))) s) :=
  .of_wp fun prog w A R s all => by
    obtain ⟨h0, g0, d0, t0, o0⟩ := s
    obtain ⟨gp, gq, heq, hlt, hR⟩ := all
    have tt := AutoSeq1.sub_tuple_tuple
    have lz : (us.toList.zip ws.toList).length = min us.size ws.size := by simp
    wp_walk using wpAny_loadPart' gp, wpAny_loadPart' gq, wpAny_forIn_list _ (fun rest c s' => c.1 = none ∧ s' = ⟨h0, g0, d0, t0, o0⟩ ∧ ∃ k, rest = (us.toList.zip ws.toList).drop k ∧ (∀ m, m < k → same m = true) ∧
      R (.ok (.ret (.bool (firstLt same less (decide (us.size < ws.size)) ((List.range (min us.size ws.size)).drop k))))) ⟨h0, g0, d0, t0, o0⟩) _
    case turn =>
      rintro ⟨u, v⟩ rest c s' ⟨hc, rfl, k, hk, hs, hR'⟩
      have kz : k < (us.toList.zip ws.toList).length := by
        rcases Nat.lt_or_ge k (us.toList.zip ws.toList).length with z | z
        · exact z
        · rw [List.drop_of_length_le z] at hk
          cases hk
      have km : k < min us.size ws.size := by omega
      have k1 : k < us.size := by omega
      have k2 : k < ws.size := by omega
      rw [List.drop_eq_getElem_cons kz] at hk
      obtain ⟨huv, hrest⟩ := List.cons.inj hk
      obtain rfl : u = us[k] := by simpa using congrArg Prod.fst huv
      obtain rfl : v = ws[k] := by simpa using congrArg Prod.snd huv
      have hr : (List.range (min us.size ws.size)).drop k = k :: (List.range (min us.size ws.size)).drop (k + 1) := by
        rw [List.drop_eq_getElem_cons (by simpa using km)]
        simp
      rw [hr] at hR'
      refine wpAny_bind (heq k k1 k2 prog w _ _ ?_)
      cases sk : same k with
      | true =>
        rw [firstLt_yes sk] at hR'
        wp_walk
        refine ⟨rfl, rfl, k + 1, hrest, fun m hm => ?_, hR'⟩
        by_cases e : m = k
        · rw [e]
          exact sk
        · exact hs m (by omega)
      | false =>
        rw [firstLt_no sk] at hR'
        rw [if_pos (show (!false) = true from rfl)]
        refine wpAny_bind (wpAny_rule ?_)
        refine wpAny_bind (hlt k k1 k2 hs sk prog w _ _ ?_)
        wp_walk
        exact ⟨_, rfl, hR'⟩
    case fin =>
      rintro ⟨c1, c2⟩ s' ⟨hc, rfl, k, hk, hs, hR'⟩
      simp only at hc
      subst hc
      have kz : min us.size ws.size ≤ k := by
        rcases Nat.lt_or_ge k (us.toList.zip ws.toList).length with z | z
        · rw [List.drop_eq_getElem_cons z] at hk
          cases hk
        · omega
      rw [List.drop_of_length_le (by simpa using kz)] at hR'
      wp_walk
      exact ⟨_, rfl, by simpa [Builtin.Tuple.tupleCompareSizes, firstLt] using hR'⟩
    case h =>
      exact ⟨rfl, rfl, 0, rfl, fun m hm => absurd hm (Nat.not_lt_zero m), by simpa using hR⟩
end
theorem rcLt_first {A : Around} {s : Shared} {p q : Addr} {us ws : Array Value} {same less : Nat → Bool} (hp : s.heap.IsTuple p us) (hq : s.heap.IsTuple q ws) (hu : A.units < cLine)
    (heq : ∀ j (a1 : j < us.size) (a2 : j < ws.size), EqAt A.in1 s us[j] ws[j] (same j)) (hlt : ∀ j (a1 : j < us.size) (a2 : j < ws.size), (∀ m, m < j → same m = true) → same j = false → RcLt A.in1 s us[j] ws[j] (less j)) :
    RcLt A s (.ref p) (.ref q) (firstLt same less (decide (us.size < ws.size)) (List.range (min us.size ws.size))) := by
  intro prog w E Q hQ
  obtain ⟨⟨c1, d1, x1, l1⟩, g1, e1, n1, y1⟩ := id hp
  obtain ⟨⟨c2, d2, x2, l2⟩, g2, e2, n2, y2⟩ := id hq
  simp only at e1 y1 e2 y2
  subst e1 y1 e2 y2
  refine richCompare_meets_room (op := .Lt) ⟨_, g1, rfl⟩ ⟨_, g2, rfl⟩ F.slot_tuple_lt F.entry_tuple_lt (F.args_tuple_lt_2 _ _) (tupLt_first p q us ws n1 n2 d1 d2 l1 l2 same less) ⟨g1, g2, heq, hlt, ?_⟩ hu
  show Value.bool _ ≠ Value.notImplemented ∧ Q _ s
  exact ⟨(fun z => nomatch z), hQ⟩

/-! ### data that compare as far as they are asked -/
mutual
def cpb : PyData → PyData → Bool
  | .none, .none => true
  | .bool _, .bool _ => true
  | .int _, .int _ => true
  | .str _, .str _ => true
  | .tuple xs, .tuple ys => cpbs xs ys
  | _, _ => false
def cpbs : List PyData → List PyData → Bool
  | x :: xs, y :: ys => cpb x y && (PyData.eqv x y == false || cpbs xs ys)
  | [], _ => true
  | _ :: _, [] => true
end
mutual
def dlt : PyData → PyData → Bool
  | .bool x, .bool y => decide (b2i x < b2i y)
  | .int x, .int y => decide (x < y)
  | .str x, .str y => decide (x.cps.toList < y.cps.toList)
  | .tuple xs, .tuple ys => dlts xs ys
  | _, _ => false
def dlts : List PyData → List PyData → Bool
  | x :: xs, y :: ys => if PyData.eqv x y = true then dlts xs ys else dlt x y
  | [], [] => false
  | [], _ :: _ => true
  | _ :: _, [] => false
end
theorem cpbs_cons {x y : PyData} {xs ys : List PyData} (h : cpbs (x :: xs) (y :: ys) = true) : cpb x y = true ∧ (PyData.eqv x y = true → cpbs xs ys = true) := by
  rw [cpbs] at h
  have k := Bool.and_eq_true_iff.mp h
  refine ⟨k.1, fun e => ?_⟩
  have k2 := k.2
  rw [e] at k2
  exact k2
theorem cpb_none {x y : PyData} (h : cpb x y = true) (e : PyData.eqv x y = false) : x ≠ .none := by
  rintro rfl
  cases y with
  | none => exact absurd e (by simp [PyData.eqv])
  | _ => exact absurd h (by simp [cpb])
theorem firstLt_dlts : ∀ (xs ys : List PyData),
    firstLt (pairEq xs ys) (fun j => dlt (xs.getD j .none) (ys.getD j .none)) (decide (xs.length < ys.length)) (List.range (min xs.length ys.length)) = dlts xs ys
  | [], [] => by simp [firstLt, dlts]
  | [], y :: ys => by simp [firstLt, dlts]
  | x :: xs, [] => by simp [firstLt, dlts]
  | x :: xs, y :: ys => by
    have more := firstLt_dlts xs ys
    have lm : min (x :: xs).length (y :: ys).length = min xs.length ys.length + 1 := by
      simp only [List.length_cons]
      omega
    have ld : decide ((x :: xs).length < (y :: ys).length) = decide (xs.length < ys.length) := by
      simp only [List.length_cons]
      exact decide_eq_decide.mpr (by omega)
    rw [lm, ld, List.range_succ_eq_map, dlts]
    cases hxy : PyData.eqv x y with
    | true =>
      rw [firstLt_yes (show pairEq (x :: xs) (y :: ys) 0 = true from hxy), PySem.W.firstLt_map, if_pos rfl, ← more]
      rfl
    | false =>
      rw [firstLt_no (show pairEq (x :: xs) (y :: ys) 0 = false from hxy), if_neg Bool.false_ne_true]
      rfl
mutual
theorem rcLt_cpb : ∀ (da db : PyData) (A : Around) (s : Shared) (a b : Value) (as bs : List Addr), Reads s.heap a da as → Reads s.heap b db bs → da.plain = true → db.plain = true → cpb da db = true → da ≠ .none →
    A.units + min da.depth db.depth < cLine → RcLt A s a b (dlt da db)
  | .none, _, _, _, _, _, _, _, _, _, _, _, _, no, _ => absurd rfl no
  | .bool x, db, _, _, _, _, _, _, ra, rb, _, _, h, _, _ => by
    cases db with
    | bool y =>
      cases ra
      cases rb
      exact fun prog w E Q q => lt_bool q
    | _ => cases h
  | .int x, db, _, _, _, _, _, _, ra, rb, _, _, h, _, _ => by
    cases db with
    | int y =>
      cases ra
      cases rb
      exact fun prog w E Q q => PyProof.Rows.lt_int q
    | _ => cases h
  | .str x, db, _, _, _, _, _, _, ra, rb, _, _, h, _, _ => by
    cases db with
    | str y =>
      cases ra
      cases rb
      exact fun prog w E Q q => PyProof.Rows.lt_str q
    | _ => cases h
  | .tuple xs, db, A, s, a, b, as, bs, ra, rb, pa, pb, h, _, hu => by
    cases db with
    | tuple ys =>
      have hc : cpbs xs ys = true := h
      cases ra with
      | @tuple l o vs n _ _ e1 e2 e3 e4 =>
        cases rb with
        | @tuple l' o' vs' n' _ _ f1 f2 f3 f4 =>
          have n1 : vs.size = xs.length := by simpa using ReadsAll.length _ _ _ e4
          have n2 : vs'.size = ys.length := by simpa using ReadsAll.length _ _ _ f4
          show RcLt A s (.ref l) (.ref l') (dlts xs ys)
          rw [← firstLt_dlts xs ys, ← n1, ← n2]
          refine rcLt_first ⟨_, e1, e2, _, e3⟩ ⟨_, f1, f2, _, f3⟩ (room_here hu) (fun j j1 j2 => ?_) (fun j j1 j2 hm hj => ?_)
          · have z := eqAt_plainAll xs ys A.in1 s vs.toList vs'.toList _ _ e4 f4 pa pb (room_in hu) j (by simpa using j1) (by simpa using j2)
            simpa using z
          · have z := rcLt_cpbs xs ys A.in1 s vs.toList vs'.toList _ _ e4 f4 pa pb hc (room_in hu) j (by simpa using j1) (by simpa using j2) hm hj
            simpa using z
    | _ => cases h
  | .list _, db, _, _, _, _, _, _, _, _, _, _, h, _, _ => by cases db <;> cases h
  | .dict _, db, _, _, _, _, _, _, _, _, _, _, h, _, _ => by cases db <;> cases h
theorem rcLt_cpbs : ∀ (xs ys : List PyData) (A : Around) (s : Shared) (vs ws : List Value) (as bs : List Addr), ReadsAll s.heap vs xs as → ReadsAll s.heap ws ys bs → PyData.plainAll xs = true → PyData.plainAll ys = true → cpbs xs ys = true →
    A.units + min (PyData.depthAll xs) (PyData.depthAll ys) < cLine → ∀ j (h1 : j < vs.length) (h2 : j < ws.length), (∀ m, m < j → pairEq xs ys m = true) → pairEq xs ys j = false → RcLt A s vs[j] ws[j] (dlt (xs.getD j .none) (ys.getD j .none))
  | [], _, _, _, _, _, _, _, ra, _, _, _, _, _, j, h1, _, _, _ => by
    cases ra
    exact absurd h1 (Nat.not_lt_zero j)
  | _ :: _, [], _, _, _, _, _, _, _, rb, _, _, _, _, j, _, h2, _, _ => by
    cases rb
    exact absurd h2 (Nat.not_lt_zero j)
  | x :: xs, y :: ys, A, s, _, _, _, _, ra, rb, pa, pb, hc, hu, j, h1, h2, hm, hj => by
    have pa' : x.plain = true ∧ PyData.plainAll xs = true := by simpa [PyData.plainAll] using pa
    have pb' : y.plain = true ∧ PyData.plainAll ys = true := by simpa [PyData.plainAll] using pb
    obtain ⟨c1, c2⟩ := cpbs_cons hc
    cases ra with
    | cons r rs =>
      cases rb with
      | cons t ts =>
        cases j with
        | zero => exact rcLt_cpb x y A s _ _ _ _ r t pa'.1 pb'.1 c1 (cpb_none c1 hj) (room_head hu)
        | succ j => exact rcLt_cpbs xs ys A s _ _ _ _ rs ts pa'.2 pb'.2 (c2 (hm 0 (Nat.succ_pos j))) (room_tail hu) j (Nat.lt_of_succ_lt_succ h1) (Nat.lt_of_succ_lt_succ h2) (fun m hmj => hm (m + 1) (Nat.succ_lt_succ hmj)) hj
end
/-! ### sorting them -/
section
variable {prog : Program} {w : World} {A : Around} {E : Value → Shared → Prop} {s : Shared}
theorem kat_cpbs {fin : Bool} {Q : Bool → Shared → Prop} : ∀ (xs ys : List PyData) (i : Nat) (vs ws : List Value) (as bs : List Addr), ReadsAll s.heap vs xs as → ReadsAll s.heap ws ys bs → PyData.plainAll xs = true → PyData.plainAll ys = true → cpbs xs ys = true →
    A.units + min (PyData.depthAll xs) (PyData.depthAll ys) < cLine → fin = decide (xs.length < ys.length) → Q (dlts xs ys) s → PySem.W.KatLex prog w A false fin Q (vs.zip ws) i s
  | [], [], i, _, _, _, _, ra, rb, _, _, _, _, hf, hq => by
    cases ra
    cases rb
    rw [show fin = false from hf]
    exact PySem.W.kat_nil hq
  | [], y :: ys, i, _, _, _, _, ra, rb, _, _, _, _, hf, hq => by
    cases ra
    rw [List.zip_nil_left, show fin = true from hf.trans (decide_eq_true (Nat.succ_pos _))]
    exact PySem.W.kat_nil hq
  | x :: xs, [], i, _, _, _, _, ra, rb, _, _, _, _, hf, hq => by
    cases rb
    rw [List.zip_nil_right, show fin = false from hf.trans (decide_eq_false (Nat.not_lt_zero _))]
    exact PySem.W.kat_nil hq
  | x :: xs, y :: ys, i, _, _, _, _, ra, rb, pa, pb, hc, hu, hf, hq => by
    have pa' : x.plain = true ∧ PyData.plainAll xs = true := by simpa [PyData.plainAll] using pa
    have pb' : y.plain = true ∧ PyData.plainAll ys = true := by simpa [PyData.plainAll] using pb
    obtain ⟨c1, c2⟩ := cpbs_cons hc
    cases ra with
    | cons r rs =>
      cases rb with
      | cons t ts =>
        refine PySem.W.kat_cons (eqAt_plain x y A s _ _ _ _ r t pa'.1 pb'.1 (room_head hu) prog w _ _ ?_)
        rw [dlts] at hq
        cases e : PyData.eqv x y with
        | true =>
          rw [e, if_pos rfl] at hq
          exact PySem.W.kat_yes (kat_cpbs xs ys (i + 1) _ _ _ _ rs ts pa'.2 pb'.2 (c2 e) (room_tail hu) (hf.trans (decide_eq_decide.mpr (by simp only [List.length_cons]; omega))) hq)
        | false =>
          rw [e, if_neg Bool.false_ne_true] at hq
          refine PySem.W.kat_no ?_
          rw [Bool.false_and]
          exact PySem.W.kat_one _ _ (rcLt_cpb x y A s _ _ _ _ r t pa'.1 pb'.1 c1 (cpb_none c1 e) (room_head hu) prog w _ _ hq)
/-- items that stand as data by enc, ordered by tok -/
noncomputable def encKind {β : Type} (h : Heap) (bs : List β) (enc : β → PyData) (tok : β → List (Int ⊕ List Nat)) : PyProof.Rows.KeyKind where
  toKeyOrd := listOrd itemOrd
  keyOf v := open Classical in if q : ∃ b, b ∈ bs ∧ ∃ as, Reads h v (enc b) as then some (tok q.choose) else none
  dflt := ([] : List (Int ⊕ List Nat))
variable {β : Type} {enc : β → PyData} {tok : β → List (Int ⊕ List Nat)} {bs : List β}
theorem encKind_some {h : Heap} (pl : ∀ b ∈ bs, (enc b).plain = true) (inj : ∀ b ∈ bs, ∀ c ∈ bs, enc b = enc c → tok b = tok c) {v : Value} {b : β} {as : List Addr} (hb : b ∈ bs) (r : Reads h v (enc b) as) : (encKind h bs enc tok).keyOf v = some (tok b) := by
  have q : ∃ b, b ∈ bs ∧ ∃ as, Reads h v (enc b) as := ⟨b, hb, as, r⟩
  have e : (encKind h bs enc tok).keyOf v = some (tok q.choose) := dif_pos q
  obtain ⟨h1, as', h2⟩ := q.choose_spec
  rw [e, inj _ h1 _ hb (SeqAt.plain_unique _ _ _ _ _ (pl _ h1) h2 r)]
theorem encKind_inv {h : Heap} {v : Value} {k : List (Int ⊕ List Nat)} (e : (encKind h bs enc tok).keyOf v = some k) : ∃ b as, b ∈ bs ∧ Reads h v (enc b) as ∧ k = tok b := by
  by_cases q : ∃ b, b ∈ bs ∧ ∃ as, Reads h v (enc b) as
  · have e' : (encKind h bs enc tok).keyOf v = some (tok q.choose) := dif_pos q
    obtain ⟨h1, as', h2⟩ := q.choose_spec
    rw [e'] at e
    exact ⟨_, as', h1, h2, (Option.some.inj e).symm⟩
  · have e' : (encKind h bs enc tok).keyOf v = none := dif_neg q
    rw [e'] at e
    cases e
theorem sortsAt_enc {vs : List Value} (e : PySem.W.EachIs (fun v b => ∃ as, Reads s.heap v (enc b) as) vs bs) (pl : ∀ b ∈ bs, (enc b).plain = true) (inj : ∀ b ∈ bs, ∀ c ∈ bs, enc b = enc c → tok b = tok c)
    (tt : ∀ b ∈ bs, ∃ x r, enc b = .tuple (.tuple x :: r)) (cmp : ∀ b ∈ bs, ∀ c ∈ bs, cpb (enc b) (enc c) = true ∧ dlt (enc b) (enc c) = PyProof.Rows.lexLt itemOrd (tok b) (tok c)) (hu : ∀ b ∈ bs, A.units + (enc b).depth < cLine) :
    PySem.W.SortsAt prog w A s (encKind s.heap bs enc tok) vs := by
  refine ⟨fun v hv => ?_, tuples' false, ?_, fun h2 E Q hq => ?_⟩
  · obtain ⟨b, hb, as, r⟩ := e.left v hv
    exact ⟨_, encKind_some pl inj hb r⟩
  · intro E x y a b Q ha hb hq
    obtain ⟨d, as, hd, ra, rfl⟩ := encKind_inv ha
    obtain ⟨c, cs, hc, rb, rfl⟩ := encKind_inv hb
    obtain ⟨c1, c2⟩ := cmp d hd c hc
    have hq' : Q (dlt (enc d) (enc c)) s := by
      rw [c2]
      exact hq
    have p1 := pl d hd
    have p2 := pl c hc
    have room : A.units + min (enc d).depth (enc c).depth < cLine := Nat.lt_of_le_of_lt (Nat.add_le_add_left (Nat.min_le_left _ _) _) (hu d hd)
    obtain ⟨x1, r1, e1⟩ := tt d hd
    obtain ⟨x2, r2, e2⟩ := tt c hc
    rw [e1] at ra hq' c1 p1 room
    rw [e2] at rb hq' c1 p2 room
    cases ra with
    | @tuple l o us n _ _ g1 g2 g3 g4 =>
      cases rb with
      | @tuple l' o' us' n' _ _ k1 k2 k3 k4 =>
        have n1 : us.size = (PyData.tuple x1 :: r1).length := by simpa using ReadsAll.length _ _ _ g4
        have n2 : us'.size = (PyData.tuple x2 :: r2).length := by simpa using ReadsAll.length _ _ _ k4
        exact PySem.W.kat_lt g1 g3 k1 k3 (kat_cpbs _ _ 0 _ _ _ _ g4 k4 p1 p2 c1 (by have z := room_in room; omega) (by rw [n1, n2]) hq')
  · have e3 : PySem.W.EachIs (fun v d => ∃ as, Reads s.heap v d as) vs (bs.map enc) := PySem.W.each_map (R := fun v d => ∃ as, Reads s.heap v d as) enc e
    obtain ⟨fs, t1, t2, t3⟩ := PySem.W.each_katTups e3 (fun d hd => by
      obtain ⟨b, hb, rfl⟩ := List.mem_map.mp hd
      obtain ⟨x, r, e⟩ := tt b hb
      exact ⟨_, _, e⟩)
    refine PySem.W.kat_kind (T := .type "tuple") t1 (by omega) (fun f hf => ?_) (beq_self_eq_true _) ?_
    · obtain ⟨x, r, as, m1, m2⟩ := t3 f hf
      obtain ⟨b, hb, e1⟩ := List.mem_map.mp m1
      obtain ⟨x', r', e2⟩ := tt b hb
      rw [e2] at e1
      injection e1 with e1
      obtain ⟨rfl, _⟩ := List.cons.inj e1
      exact PySem.W.looks_reads m2
    · have z : (Value.type "tuple" != Value.type "tuple") = false := by first | decide +kernel | rfl
      rw [z]
      exact hq
end

/-! ### as a rule of the layer: sorted of a list of data -/
mutual
def noLd : D → Bool
  | .tup ts => noLds ts
  | .at _ => true
  | .lst => false
def noLds : List D → Bool
  | [] => true
  | t :: r => noLd t && noLds r
end
mutual
theorem dp_noL {K : PySem.W.Frag} {H : Hp} : ∀ {v : V} {d : D}, Rep K H v d → noLd d = true → Dp K H v (toPy d)
  | v, _, .at h, _ => by
    cases v with
    | non => exact .non
    | bl b => exact .bl b
    | int i => exact .int i
    | str x => exact .str x
    | byt _ => cases h
    | flt _ => cases h
    | ref _ => cases h
    | ty _ => cases h
  | _, _, .lst _, k => by cases k
  | _, _, .tup h r, k => .tup h.sq (dp_noLs r k)
theorem dp_noLs {K : PySem.W.Frag} {H : Hp} : ∀ {xs : List V} {ds : List D}, Reps K H xs ds → noLds ds = true → DpAll K H xs (toPys ds)
  | _, _, .nil, _ => .nil
  | _, _, .cons h r, k => by
    have k' := Bool.and_eq_true_iff.mp k
    exact .cons (dp_noL h k'.1) (dp_noLs r k'.2)
end
mutual
theorem plain_noL : ∀ d : D, noLd d = true → (toPy d).plain = true
  | .at v, _ => by cases v <;> rfl
  | .lst, k => by cases k
  | .tup ts, k => plain_noLs ts k
theorem plain_noLs : ∀ l : List D, noLds l = true → PyData.plainAll (toPys l) = true
  | [], _ => rfl
  | t :: r, k => by
    have k' := Bool.and_eq_true_iff.mp k
    show ((toPy t).plain && PyData.plainAll (toPys r)) = true
    rw [plain_noL t k'.1, plain_noLs r k'.2]
    rfl
end
mutual
theorem depth_noL : ∀ d : D, (toPy d).depth ≤ dep d + 1
  | .at v => by cases v <;> exact Nat.zero_le _
  | .lst => Nat.zero_le _
  | .tup ts => Nat.succ_le_succ (depth_noLs ts)
theorem depth_noLs : ∀ l : List D, PyData.depthAll (toPys l) ≤ deps l
  | [] => Nat.zero_le _
  | t :: r => by
    have h1 := depth_noL t
    have h2 := depth_noLs r
    show max (toPy t).depth (PyData.depthAll (toPys r)) ≤ max (dep t + 1) (deps r)
    omega
end
section
variable {β : Type} {R : Value → β → Prop}
/-- the items sorted -/
def sortE (tok : β → List (Int ⊕ List Nat)) (bs : List β) : List β := bs.mergeSort (PySem.W.sortLe (listOrd itemOrd) false tok)
theorem sortE_perm (tok : β → List (Int ⊕ List Nat)) (bs : List β) : (sortE tok bs).Perm bs := List.mergeSort_perm _ _
/-- what is to be known of an encoding -/
structure Enc (dat : β → D) (tok : β → List (Int ⊕ List Nat)) (ok : β → Prop) : Prop where
  nol : ∀ b, ok b → noLd (dat b) = true
  dep : ∀ b, ok b → dep (dat b) ≤ 30
  inj : ∀ b c, ok b → ok c → toPy (dat b) = toPy (dat c) → tok b = tok c
  tup : ∀ b, ok b → ∃ x r, dat b = .tup (.tup x :: r)
  cmp : ∀ b c, ok b → ok c → cpb (toPy (dat b)) (toPy (dat c)) = true ∧ dlt (toPy (dat b)) (toPy (dat c)) = PyProof.Rows.lexLt itemOrd (tok b) (tok c)
def rSortE (K : PySem.W.Frag) (dat : β → D) (tok : β → List (Int ⊕ List Nat)) (ok : β → Prop) : List V → Hp → VK → Prop := fun vs H Q => ∃ (a : Addr) (xs : List V) (bs : List β), vs = [V.ref a] ∧ SqL K H a xs ∧ Reps K H xs (bs.map dat) ∧ (∀ b ∈ bs, ok b) ∧
  ∀ (ys : List V) (p : Addr), Reps K H ys ((sortE tok bs).map dat) → H p = none → Q (.ref p) (upd H p (.lst ys))
theorem reps_each {X : Cx} {pins : List (Addr × Obj)} {σ : L2.St} {H : Hp} {s : Shared} (I : Inv X pins σ H s) {dat : β → D} : ∀ {xs : List V} {us : List Value} {bs : List β}, Reps X.K H xs (bs.map dat) → Vals xs us → (∀ b ∈ bs, noLd (dat b) = true) →
    PySem.W.EachIs (fun v b => (∃ as, Reads s.heap v (toPy (dat b)) as) ∧ ∃ x, RelV x v ∧ Rep X.K H x (dat b)) us bs
  | [], us, bs, r, rv, hk => by
    cases rv
    cases bs with
    | nil => exact .nil
    | cons b bs => cases r
  | x :: xs, us, bs, r, rv, hk => by
    cases bs with
    | nil => cases r
    | cons b bs =>
      cases rv with
      | cons rv0 rvs =>
        cases r with
        | cons r0 rs =>
          obtain ⟨as, z⟩ := Dp.reads I (toPy (dat b)) x _ (dp_noL r0 (hk b (List.mem_cons_self ..))) rv0
          exact .cons ⟨⟨as, z⟩, x, rv0, r0⟩ (reps_each I rs rvs fun c hc => hk c (List.mem_cons_of_mem _ hc))
theorem each_back {K : PySem.W.Frag} {H : Hp} {dat : β → D} : ∀ {us : List Value} {bs : List β}, PySem.W.EachIs (fun v b => ∃ x, RelV x v ∧ Rep K H x (dat b)) us bs → ∃ xs, Vals xs us ∧ Reps K H xs (bs.map dat)
  | _, _, .nil => ⟨[], .nil, .nil⟩
  | _, _, .cons ⟨x, h1, h2⟩ t => by
    obtain ⟨xs, r1, r2⟩ := each_back t
    exact ⟨x :: xs, .cons h1 r1, .cons h2 r2⟩
theorem cr_sortE {X : Cx} {dat : β → D} {tok : β → List (Int ⊕ List Nat)} {ok : β → Prop} (hu : X.A.units + 64 < cLine) (N : Enc dat tok ok) : CallR X (.builtin "sorted") (rSortE X.K dat tok ok) := by
  intro pins s σ H vs us Q I r h
  obtain ⟨a, xs, bs, rfl, hs, hr, hok, q⟩ := h
  obtain ⟨its, rv, hl, hz⟩ := I.list hs
  obtain ⟨u, rfl, ru⟩ := vals1 r
  obtain rfl : u = Value.ref a := ru
  have each := reps_each I hr rv fun b hb => N.nol b (hok b hb)
  have hlen : its.length ≤ sizeLine := by
    rw [← rv.length]
    exact hz
  have keep : ∀ b o, s.heap.get? b = some o → (PySem.W.sortingHeap (PySem.W.copyHeap s.heap its) (s.heap.objs.size + 1) its).get? b = some o := fun b o e => PySem.W.sorting_copy_old e
  have S : PySem.W.SortsAt X.prog X.w X.A.in1.in1 { s with heap := PySem.W.sortingHeap (PySem.W.copyHeap s.heap its) (s.heap.objs.size + 1) its } (encKind (PySem.W.sortingHeap (PySem.W.copyHeap s.heap its) (s.heap.objs.size + 1) its) bs (fun b => toPy (dat b)) tok) its := by
    refine sortsAt_enc (each.mono fun v b z => ?_) (fun b hb => plain_noL _ (N.nol b (hok b hb))) (fun b hb c hc => N.inj b c (hok b hb) (hok c hc)) (fun b hb => ?_) (fun b hb c hc => N.cmp b c (hok b hb) (hok c hc)) (fun b hb => ?_)
    · obtain ⟨⟨as, r⟩, _⟩ := z
      exact ⟨as, Reads.keeps keep r⟩
    · obtain ⟨x, r, e⟩ := N.tup b (hok b hb)
      rw [e]
      exact ⟨_, _, rfl⟩
    · have h1 := depth_noL (dat b)
      have h2 := N.dep b (hok b hb)
      show X.A.units + 1 + 1 + (toPy (dat b)).depth < cLine
      omega
  refine PySem.W.sorted_vals hl.isList S hlen ?_
  have out : PySem.W.EachIs (fun v b => ∃ x, RelV x v ∧ Rep X.K H x (dat b)) (PySem.W.sortVals (encKind (PySem.W.sortingHeap (PySem.W.copyHeap s.heap its) (s.heap.objs.size + 1) its) bs (fun b => toPy (dat b)) tok) false its its) (sortE tok bs) := by
    refine PySem.W.sortVals_each (κ := encKind (PySem.W.sortingHeap (PySem.W.copyHeap s.heap its) (s.heap.objs.size + 1) its) bs (fun b => toPy (dat b)) tok) tok (each.mono fun v b z => z.2) ?_
    refine (PySem.W.each_mem each).mono fun v b z => ?_
    obtain ⟨⟨⟨as, r⟩, _⟩, hb⟩ := z
    exact encKind_some (fun b hb => plain_noL _ (N.nol b (hok b hb))) (fun b hb c hc => N.inj b c (hok b hb) (hok c hc)) hb (Reads.keeps keep r)
  obtain ⟨ys, v1, r1⟩ := each_back out
  have hl2 := v1.length
  rw [PySem.W.sortVals_length _ rfl] at hl2
  obtain ⟨n, hn⟩ := PyProof.Rows.sortedAll_at s.heap its (PySem.W.sortVals (encKind (PySem.W.sortingHeap (PySem.W.copyHeap s.heap its) (s.heap.objs.size + 1) its) bs (fun b => toPy (dat b)) tok) false its its).toArray
  refine ⟨.ref _, _, I.laid (t' := s.toks) (o := .lst ys) (fun b o e => PyProof.Rows.sortedAll_old e) (Nat.le_succ _) ⟨?_, _, n, v1, hn⟩, rfl, q ys _ r1 (I.hok.fresh (Nat.le_succ _))⟩
  omega
end
end Pk

set_option maxRecDepth 100000
set_option maxHeartbeats 1000000
/-! a dict whose keys are None, ints and texts, by what it answers -/
namespace Pk
open PySem PySem.Spec PyProof.Rows L2
/-- a key as a value -/
def kVN : Option L2.Key → V
  | none => .non
  | some k => kV k
theorem kVN_is {P : Program} {w : World} {k : Option L2.Key} {u : Value} (r : RelV (kVN k) u) : (noneKind P w).is k u = true := by
  cases k with
  | none =>
    cases r
    rfl
  | some k => exact kV_is (P := P) (w := w) r
/-- at a: a dict of at most n pairs, g what it answers -/
def NkR (P : Program) (w : World) (a : Addr) (g : Option L2.Key → Option V) (n : Nat) (h : Heap) : Prop :=
  (a == sysModules) = false ∧ ∃ vs : List (Option L2.Key × Value), vs.length ≤ n ∧ (∀ k, RelO (g k) (valueAt vs k)) ∧ h.DictOf (noneKind P w) a vs
theorem NkR.at {P : Program} {w : World} {a : Addr} {g : Option L2.Key → Option V} {n : Nat} {h h' : Heap} (r : NkR P w a g n h) (k : ∀ o, h.get? a = some o → h'.get? a = some o) : NkR P w a g n h' := by
  obtain ⟨h1, vs, h2, h3, o, es, ep, h4, h5⟩ := r
  exact ⟨h1, vs, h2, h3, o, es, ep, k _ h4, h5⟩
def NkO (P : Program) (w : World) (a : Addr) (g : Option L2.Key → Option V) (n : Nat) : HO := .ext (NkR P w a g n)
def putN (g : Option L2.Key → Option V) (k : Option L2.Key) (v : V) : Option L2.Key → Option V := fun j => if j = k then some v else g j
theorem nk_ok {P : Program} {w : World} {H : Hp} {h : Heap} {a : Addr} {g : Option L2.Key → Option V} {n : Nat} (r : NkR P w a g n h) : ObjOk P w H h a (NkO P w a g n) := by
  have r' := r
  obtain ⟨h1, vs, h2, h3, o, es, ep, h4, h5⟩ := r
  exact ⟨r', ⟨o, h4⟩, fun x y p k => p.at k⟩
theorem nk_get {X : Cx} {pins : List (Addr × Obj)} {σ : L2.St} {H : Hp} {s : Shared} {a : Addr} {g : Option L2.Key → Option V} {n : Nat} (I : Inv X pins σ H s) (ha : H a = some (NkO X.prog X.w a g n)) : NkR X.prog X.w a g n s.heap := (I.hok a _ ha).1
section
variable {X : Cx}
/-- {None: None} -/
def tNkNew (P : Program) (w : World) : TE := fun σ H Q => ∀ p, H p = none → Q (.ref p) (upd H p (NkO P w p (putN (fun _ => none) none .non) 1))
theorem pe_nkNew {pos p1 p2 : Pos} {i j : Nat} : PE X (.Dict [some (.Constant .none i p1)] [.Constant .none j p2] pos) (tNkNew X.prog X.w) := by
  refine ⟨fun pins s σ H Q I q => ?_⟩
  have hn := I.hok.fresh (Nat.le_refl s.heap.objs.size)
  refine wpAny_Dict_walk (knd := noneKind X.prog X.w) (by rfl) rfl (by simp) (by show 1 ≤ 15; omega) ?_
  refine pairTrees_cons_walk (PyProof.Rows.Constant_none (PyProof.Rows.Constant_none (pairTrees_nil_walk ?_)))
  refine ⟨[(none, .none)], ⟨rfl, rfl, True.intro⟩, Heap.DictOf.new _, fun h' dd hs => ?_⟩
  refine ⟨.ref s.heap.objs.size, upd H s.heap.objs.size (NkO X.prog X.w s.heap.objs.size (putN (fun _ => none) none .non) 1), I.laid (fun b o e => ?_) (Nat.le_refl _) (nk_ok ⟨beq_eq_false_iff_ne.mpr (Ne.symm (Nat.ne_of_lt I.big)), _, ?_, fun k => ?_, dd⟩), rfl, q _ hn⟩
  · rw [hs.2 b (Nat.ne_of_lt (Heap.lt_size e))]
    exact Heap.get?_push_of_some _ e
  · exact Nat.le_refl 1
  · cases k with
    | none => exact rfl
    | some k => exact True.intro
/-- d[i] = v -/
def tNkPut (P : Program) (w : World) (td ty tv : TE) : TS := fun D σ H => tv σ H fun v H1 => td σ H1 fun x H2 => ty σ H2 fun y H3 => ∃ (a : Addr) (g : Option L2.Key → Option V) (n : Nat) (k : Option L2.Key), x = .ref a ∧ y = kVN k ∧ H3 a = some (NkO P w a g n) ∧ n < 1000000 ∧ D.nx σ (upd H3 a (NkO P w a (putN g k v) (n + 1)))
variable {o i value : Expr} {td ty tv : TE} {pos pos' : Pos}
theorem ps_nkPut (ho : PE X o td) (hi : PE X i ty) (hv : PE X value tv) (hs : swapsWith value (some (.Subscript o i pos')) pos.line X.env = pure false) : PS X (.Assign [.Subscript o i pos'] value pos) (tNkPut X.prog X.w td ty tv) := by
  refine ⟨fun pins s σ H D I h => ?_⟩
  refine wpAny_Assign_Subscript (thn (hv.run pins s σ H _ I h) fun r s1 ⟨v, H1, I1, rv, q1⟩ => thn (ho.run pins s1 σ H1 _ I1 q1) fun u s2 ⟨x, H2, I2, rx, q2⟩ => thn (hi.run pins s2 σ H2 _ I2 q2) fun iv s3 ⟨y, H3, I3, ry, a, g, n, k, ex, ey, ha, hn, q3⟩ => ?_) hs
  subst ex ey
  obtain rfl : u = Value.ref a := rx
  have R := nk_get I3 ha
  obtain ⟨h1, vs, h2, h3, dd⟩ := R
  have hz : vs.length ≤ sizeLine := by
    rw [sizeLine_eq]
    omega
  refine wpAny_setItem_pairs (hsz := hz) (kVN_is ry) dd fun h' dd' hs' => ?_
  have he : ∃ q, h'.get? a = some q := let ⟨q, _, _, hq, _⟩ := dd'; ⟨q, hq⟩
  refine ⟨σ, _, I3.write (e := a) (by rw [ha]; trivial) (.inl rfl) (fun b w hb z => (hs'.2 b hb).trans z) he (nk_ok ⟨h1, _, ?_, fun j => ?_, dd'⟩), q3⟩
  · have := stored_length_le vs k r
    omega
  · rw [valueAt_stored]
    unfold putN
    by_cases e : j = k
    · rw [if_pos e, if_pos e]
      exact rv
    · rw [if_neg e, if_neg e]
      exact h3 j
/-- d[i], which is there -/
def tNkGet (P : Program) (w : World) (td ty : TE) : TE := fun σ H Q => td σ H fun x H1 => ty σ H1 fun y H2 => ∃ (a : Addr) (g : Option L2.Key → Option V) (n : Nat) (k : Option L2.Key) (v : V), x = .ref a ∧ y = kVN k ∧ H2 a = some (NkO P w a g n) ∧ g k = some v ∧ Q v H2
theorem pe_nkGet (ho : PE X o td) (hi : PE X i ty) (hs : NoSl i) : PE X (.Subscript o i pos) (tNkGet X.prog X.w td ty) := by
  refine ⟨fun pins s σ H Q I h => ?_⟩
  refine subD_of PySem.F.slot_dict_getitem.lookup hs (thn (ho.run pins s σ H _ I h) fun u s1 ⟨x, H1, I1, rx, q1⟩ => thn (hi.run pins s1 σ H1 _ I1 q1) fun iv s2 ⟨y, H2, I2, ry, a, g, n, k, v, ex, ey, ha, hg, q2⟩ => ?_)
  subst ex ey
  obtain rfl : u = Value.ref a := rx
  obtain ⟨h1, vs, h2, h3, dd⟩ := nk_get I2 ha
  have z := h3 k
  rw [hg] at z
  obtain ⟨w', hw, rw'⟩ := RelO.some_of (v := v) (o := valueAt vs k) z
  exact ⟨dd.typeIs, wpAny_getItem_of (kVN_is ry) dd.mapOf hw ⟨v, H2, I2.tok _, rw', q2⟩⟩
end
end Pk

set_option maxRecDepth 100000
set_option maxHeartbeats 1000000
/-! plays as data -/
namespace Pk
open PySem PySem.Spec PyProof.Rows L2
inductive Mv where
  | ask (p : List Nat)
  | say (v : Nat)
  deriving DecidableEq
structure Stp where
  mv : Mv
  back : Option Nat
  deriving DecidableEq
def numD' (k : Nat) : D := .at (.int (k : Nat))
def plD (p : List Nat) : D := .tup (p.map numD')
def mvD : Mv → D
  | .ask p => .tup [.at (.str "ask"), plD p]
  | .say v => .tup [.at (.str "say"), numD' v]
def bkD : Option Nat → D
  | none => .at .non
  | some j => numD' j
def stD (s : Stp) : D := .tup [mvD s.mv, bkD s.back]
def playD (pl : List Stp) : D := .tup (pl.map stD)
/-! ### steps in order -/
def bkN (s : Stp) : Int := ((s.back.getD 0 : Nat) : Int)
def tokS (s : Stp) : List (Int ⊕ List Nat) := match s.mv with
  | .ask p => .inl 0 :: (p.map (fun k => Sum.inl ((k : Nat) : Int)) ++ [.inl (-1), .inl (bkN s)])
  | .say v => [.inl 1, .inl ((v : Nat) : Int), .inl (bkN s)]
def okS (s : Stp) : Prop := s.back ≠ none
theorem deps_nums : ∀ p : List Nat, deps (p.map numD') ≤ 1
  | [] => Nat.zero_le _
  | k :: r => by
    have := deps_nums r
    show max (0 + 1) (deps (r.map numD')) ≤ 1
    omega
theorem noLd_nums : ∀ p : List Nat, noLds (p.map numD') = true
  | [] => rfl
  | k :: r => noLd_nums r
theorem toPys_inj : ∀ p q : List Nat, toPys (p.map numD') = toPys (q.map numD') → p = q
  | [], [], _ => rfl
  | [], _ :: _, h => by cases h
  | _ :: _, [], h => by cases h
  | a :: p, b :: q, h => by
    injection h with h1 h2
    injection h1 with h1
    rw [toPys_inj p q h2, show a = b by omega]
theorem eqv_nums : ∀ p q : List Nat, PyData.eqvAll (toPys (p.map numD')) (toPys (q.map numD')) = decide (p = q)
  | [], [] => by simp [toPys, PyData.eqvAll]
  | [], _ :: _ => by simp [toPys, PyData.eqvAll]
  | _ :: _, [] => by simp [toPys, PyData.eqvAll]
  | a :: p, b :: q => by
    have := eqv_nums p q
    show PyData.eqvAll (.int (a : Nat) :: toPys (p.map numD')) (.int (b : Nat) :: toPys (q.map numD')) = _
    rw [PyData.eqvAll, this, PyData.eqv]
    by_cases h : a = b
    · subst h
      by_cases h2 : p = q
      · subst h2
        simp
      · rw [decide_eq_false h2, decide_eq_false (fun z => h2 (List.cons.inj z).2), Bool.and_false]
    · rw [decide_eq_false (fun z => h (List.cons.inj z).1)]
      have : ((a : Int) == (b : Int)) = false := by
        rw [beq_eq_false_iff_ne]
        omega
      rw [this, Bool.false_and]
theorem cpb_nums : ∀ p q : List Nat, cpbs (toPys (p.map numD')) (toPys (q.map numD')) = true
  | [], _ => by simp [toPys, cpbs]
  | _ :: _, [] => by simp [toPys, cpbs]
  | a :: p, b :: q => by
    have := cpb_nums p q
    show cpbs (.int (a : Nat) :: toPys (p.map numD')) (.int (b : Nat) :: toPys (q.map numD')) = true
    rw [cpbs, this, cpb, Bool.or_true]
    rfl
theorem dlt_nums (j j' : Int) : ∀ p q : List Nat, PyProof.Rows.lexLt itemOrd (p.map (fun k => Sum.inl ((k : Nat) : Int)) ++ [.inl (-1), .inl j]) (q.map (fun k => Sum.inl ((k : Nat) : Int)) ++ [.inl (-1), .inl j']) = if p = q then decide (j < j') else dlts (toPys (p.map numD')) (toPys (q.map numD'))
  | [], [] => by
    rw [if_pos rfl]
    show PyProof.Rows.lexLt itemOrd [.inl (-1), .inl j] [.inl (-1), .inl j'] = _
    rw [lex_self]
    exact PySem.W.lex_one _ _
  | [], b :: q => by
    rw [if_neg (fun z => by cases z)]
    show PyProof.Rows.lexLt itemOrd (.inl (-1) :: _) (.inl (b : Int) :: _) = dlts [] (_ :: _)
    rw [lex_diff (O := itemOrd) (by intro z; injection z with z; omega), dlts]
    exact decide_eq_true (p := (-1 : Int) < (b : Int)) (by omega)
  | a :: p, [] => by
    rw [if_neg (fun z => by cases z)]
    show PyProof.Rows.lexLt itemOrd (.inl (a : Int) :: _) (.inl (-1) :: _) = dlts (_ :: _) []
    rw [lex_diff (O := itemOrd) (by intro z; injection z with z; omega), dlts]
    exact decide_eq_false (p := (a : Int) < -1) (by omega)
  | a :: p, b :: q => by
    have ih := dlt_nums j j' p q
    show PyProof.Rows.lexLt itemOrd (.inl (a : Int) :: (p.map _ ++ _)) (.inl (b : Int) :: (q.map _ ++ _)) = if a :: p = b :: q then _ else dlts (.int (a : Nat) :: toPys (p.map numD')) (.int (b : Nat) :: toPys (q.map numD'))
    by_cases h : a = b
    · subst h
      rw [lex_self, ih, dlts, PyData.eqv, show ((a : Int) == (a : Int)) = true from beq_self_eq_true _, if_pos rfl]
      by_cases h2 : p = q
      · subst h2
        rw [if_pos rfl, if_pos rfl]
      · rw [if_neg h2, if_neg (fun z => h2 (List.cons.inj z).2)]
    · have hb : ((a : Int) == (b : Int)) = false := by
        rw [beq_eq_false_iff_ne]
        omega
      rw [lex_diff (O := itemOrd) (by intro z; injection z with z; omega), if_neg (fun z => h (List.cons.inj z).1), dlts, PyData.eqv, hb, if_neg Bool.false_ne_true, dlt]
      rfl
theorem str_askSay : PyData.eqv (.str "ask") (.str "say") = false := by decide +kernel
theorem str_sayAsk : PyData.eqv (.str "say") (.str "ask") = false := by decide +kernel
theorem lt_askSay : dlt (.str "ask") (.str "say") = true := by decide +kernel
theorem lt_sayAsk : dlt (.str "say") (.str "ask") = false := by decide +kernel
theorem str_self (x : Str) : PyData.eqv (.str x) (.str x) = true := by
  rw [PyData.eqv]
  exact beq_self_eq_true _
theorem int_eqv (i j : Int) : PyData.eqv (.int i) (.int j) = decide (i = j) := by
  rw [PyData.eqv]
  by_cases h : i = j
  · rw [h, decide_eq_true rfl]
    exact beq_self_eq_true _
  · rw [decide_eq_false h]
    exact beq_eq_false_iff_ne.mpr h
/-- two steps, their moves compared as they must -/
theorem step_cmp {A B : PyData} {j j' : Int} {e l : Bool} (he : PyData.eqv A B = e) (hc : cpb A B = true) (hl : dlt A B = l) :
    cpb (.tuple [A, .int j]) (.tuple [B, .int j']) = true ∧ dlt (.tuple [A, .int j]) (.tuple [B, .int j']) = if e = true then decide (j < j') else l := by
  constructor
  · show cpbs [A, .int j] [B, .int j'] = true
    rw [cpbs, hc, Bool.true_and, he]
    cases e with
    | false => rfl
    | true =>
      show cpbs [.int j] [.int j'] = true
      rw [cpbs, cpb, Bool.true_and]
      show (_ || cpbs [] []) = true
      rw [cpbs, Bool.or_true]
  · show dlts [A, .int j] [B, .int j'] = _
    rw [dlts, he, hl]
    cases e with
    | false => rfl
    | true =>
      rw [if_pos rfl, if_pos rfl, dlts, int_eqv]
      by_cases h : j = j'
      · rw [if_pos (decide_eq_true h), dlts, decide_eq_false (by omega)]
      · rw [if_neg (by rw [decide_eq_false h]; exact Bool.false_ne_true), dlt]
theorem encS : Enc stD tokS okS where
  nol b hb := by
    obtain ⟨m, k⟩ := b
    cases k with
    | none => exact absurd rfl hb
    | some j =>
      cases m with
      | say v => rfl
      | ask p =>
        show ((true && (noLds (p.map numD') && true)) && (true && true)) = true
        rw [noLd_nums]
        rfl
  dep b hb := by
    obtain ⟨m, k⟩ := b
    have hk : dep (bkD k) = 0 := by cases k <;> rfl
    cases m with
    | say v =>
      show max (dep (mvD (.say v)) + 1) (max (dep (bkD k) + 1) 0) ≤ 30
      rw [hk]
      show max (max (0 + 1) (max (0 + 1) 0) + 1) (max (0 + 1) 0) ≤ 30
      omega
    | ask p =>
      have := deps_nums p
      show max (max (0 + 1) (max (deps (p.map numD') + 1) 0) + 1) (max (dep (bkD k) + 1) 0) ≤ 30
      omega
  inj b c hb hc h := by
    obtain ⟨m, k⟩ := b
    obtain ⟨n, l⟩ := c
    cases k with
    | none => exact absurd rfl hb
    | some j =>
      cases l with
      | none => exact absurd rfl hc
      | some i =>
        injection h with h
        injection h with h1 h2
        injection h2 with h2 _
        injection h2 with h2
        have eji : j = i := by omega
        subst eji
        cases m with
        | say v =>
          cases n with
          | say u =>
            injection h1 with h1
            injection h1 with _ h1
            injection h1 with h1 _
            injection h1 with h1
            rw [show v = u by omega]
          | ask q =>
            injection h1 with h1
            injection h1 with _ h1
            injection h1 with h1 _
            cases h1
        | ask p =>
          cases n with
          | say u =>
            injection h1 with h1
            injection h1 with _ h1
            injection h1 with h1 _
            cases h1
          | ask q =>
            injection h1 with h1
            injection h1 with _ h1
            injection h1 with h1 _
            injection h1 with h1
            rw [toPys_inj p q h1]
  tup b hb := by
    obtain ⟨m, k⟩ := b
    cases m <;> exact ⟨_, _, rfl⟩
  cmp b c hb hc := by
    obtain ⟨m, k⟩ := b
    obtain ⟨n, l⟩ := c
    cases k with
    | none => exact absurd rfl hb
    | some j =>
    cases l with
    | none => exact absurd rfl hc
    | some i =>
    cases m with
    | say v =>
      cases n with
      | say u =>
        have h1 : PyData.eqv (toPy (mvD (.say v))) (toPy (mvD (.say u))) = decide ((v : Int) = (u : Int)) := by
          show PyData.eqvAll [.str "say", .int (v : Nat)] [.str "say", .int (u : Nat)] = _
          rw [PyData.eqvAll, str_self, PyData.eqvAll, int_eqv, PyData.eqvAll, Bool.true_and, Bool.and_true]
        have h2 : cpb (toPy (mvD (.say v))) (toPy (mvD (.say u))) = true := by
          show cpbs [.str "say", .int (v : Nat)] [.str "say", .int (u : Nat)] = true
          rw [cpbs, cpb, str_self, cpbs, cpb, cpbs, Bool.or_true]
          rfl
        have h3 : dlt (toPy (mvD (.say v))) (toPy (mvD (.say u))) = if (v : Int) = (u : Int) then false else decide ((v : Int) < (u : Int)) := by
          show dlts [.str "say", .int (v : Nat)] [.str "say", .int (u : Nat)] = _
          rw [dlts, str_self, if_pos rfl, dlts, int_eqv]
          by_cases h : (v : Int) = (u : Int)
          · rw [if_pos (decide_eq_true h), if_pos h, dlts]
          · rw [if_neg (by rw [decide_eq_false h]; exact Bool.false_ne_true), if_neg h, dlt]
        have z := step_cmp (j := (j : Int)) (j' := (i : Int)) h1 h2 h3
        refine ⟨z.1, z.2.trans ?_⟩
        show _ = PyProof.Rows.lexLt itemOrd [.inl 1, .inl (v : Int), .inl (j : Int)] [.inl 1, .inl (u : Int), .inl (i : Int)]
        rw [lex_self]
        by_cases h : (v : Int) = (u : Int)
        · rw [if_pos (decide_eq_true h), h, lex_self, PySem.W.lex_one]
          rfl
        · rw [if_neg (by rw [decide_eq_false h]; exact Bool.false_ne_true), if_neg h, lex_diff (O := itemOrd) (by intro y; injection y with y; exact h y)]
          rfl
      | ask q =>
        have h1 : PyData.eqv (toPy (mvD (.say v))) (toPy (mvD (.ask q))) = false := by
          show PyData.eqvAll [.str "say", .int (v : Nat)] [.str "ask", toPy (plD q)] = _
          rw [PyData.eqvAll, str_sayAsk, Bool.false_and]
        have h2 : cpb (toPy (mvD (.say v))) (toPy (mvD (.ask q))) = true := by
          show cpbs [.str "say", .int (v : Nat)] [.str "ask", toPy (plD q)] = true
          rw [cpbs, cpb, str_sayAsk]
          rfl
        have h3 : dlt (toPy (mvD (.say v))) (toPy (mvD (.ask q))) = false := by
          show dlts [.str "say", .int (v : Nat)] [.str "ask", toPy (plD q)] = _
          rw [dlts, str_sayAsk, if_neg Bool.false_ne_true, lt_sayAsk]
        have z := step_cmp (j := (j : Int)) (j' := (i : Int)) h1 h2 h3
        refine ⟨z.1, z.2.trans ?_⟩
        show false = PyProof.Rows.lexLt itemOrd (.inl 1 :: _) (.inl 0 :: _)
        rw [lex_diff (O := itemOrd) (by intro y; injection y with y; omega)]
        rfl
    | ask p =>
      cases n with
      | say u =>
        have h1 : PyData.eqv (toPy (mvD (.ask p))) (toPy (mvD (.say u))) = false := by
          show PyData.eqvAll [.str "ask", toPy (plD p)] [.str "say", .int (u : Nat)] = _
          rw [PyData.eqvAll, str_askSay, Bool.false_and]
        have h2 : cpb (toPy (mvD (.ask p))) (toPy (mvD (.say u))) = true := by
          show cpbs [.str "ask", toPy (plD p)] [.str "say", .int (u : Nat)] = true
          rw [cpbs, cpb, str_askSay]
          rfl
        have h3 : dlt (toPy (mvD (.ask p))) (toPy (mvD (.say u))) = true := by
          show dlts [.str "ask", toPy (plD p)] [.str "say", .int (u : Nat)] = _
          rw [dlts, str_askSay, if_neg Bool.false_ne_true, lt_askSay]
        have z := step_cmp (j := (j : Int)) (j' := (i : Int)) h1 h2 h3
        refine ⟨z.1, z.2.trans ?_⟩
        show true = PyProof.Rows.lexLt itemOrd (.inl 0 :: _) (.inl 1 :: _)
        rw [lex_diff (O := itemOrd) (by intro y; injection y with y; omega)]
        rfl
      | ask q =>
        have h1 : PyData.eqv (toPy (mvD (.ask p))) (toPy (mvD (.ask q))) = decide (p = q) := by
          show PyData.eqvAll [.str "ask", toPy (plD p)] [.str "ask", toPy (plD q)] = _
          rw [PyData.eqvAll, str_self, PyData.eqvAll, PyData.eqvAll, Bool.true_and, Bool.and_true]
          exact eqv_nums p q
        have h2 : cpb (toPy (mvD (.ask p))) (toPy (mvD (.ask q))) = true := by
          show cpbs [.str "ask", toPy (plD p)] [.str "ask", toPy (plD q)] = true
          rw [cpbs, cpb, str_self, cpbs, cpbs, Bool.or_true, show cpb (toPy (plD p)) (toPy (plD q)) = true from cpb_nums p q]
          rfl
        have h3 : dlt (toPy (mvD (.ask p))) (toPy (mvD (.ask q))) = if p = q then false else dlts (toPys (p.map numD')) (toPys (q.map numD')) := by
          show dlts [.str "ask", toPy (plD p)] [.str "ask", toPy (plD q)] = _
          rw [dlts, str_self, if_pos rfl, dlts, show PyData.eqv (toPy (plD p)) (toPy (plD q)) = decide (p = q) from eqv_nums p q]
          by_cases h : p = q
          · rw [if_pos (decide_eq_true h), if_pos h, dlts]
          · rw [if_neg (by rw [decide_eq_false h]; exact Bool.false_ne_true), if_neg h]
            rfl
        have z := step_cmp (j := (j : Int)) (j' := (i : Int)) h1 h2 h3
        refine ⟨z.1, z.2.trans ?_⟩
        show _ = PyProof.Rows.lexLt itemOrd (.inl 0 :: _) (.inl 0 :: _)
        rw [lex_self]
        refine Eq.trans ?_ (dlt_nums (j : Int) (i : Int) p q).symm
        by_cases h : p = q
        · rw [if_pos (decide_eq_true h), if_pos h]
        · rw [if_neg (by rw [decide_eq_false h]; exact Bool.false_ne_true), if_neg h, if_neg h]
end Pk

set_option maxRecDepth 100000
set_option maxHeartbeats 1000000
/-! open asks, sights, and what stands alone -/
namespace Pk
open PySem PySem.Spec PyProof.Rows L2
/-! ### asks that are open -/
def opnS (rows : List Nat) (n : Nat) (s : Stp) : List Nat := match s.mv with
  | .ask _ => rows ++ [n]
  | .say _ => rows.filter fun j => decide (some j ≠ s.back)
def opens (pl : List Stp) : Nat → List Nat
  | 0 => []
  | m + 1 => match pl[m]? with
    | some s => opnS (opens pl m) m s
    | none => opens pl m
theorem opens_succ {pl : List Stp} {m : Nat} {s : Stp} (h : pl[m]? = some s) : opens pl (m + 1) = opnS (opens pl m) m s := by
  show (match pl[m]? with | some s => opnS (opens pl m) m s | none => opens pl m) = _
  rw [h]
theorem opens_lt (pl : List Stp) : ∀ m, ∀ j ∈ opens pl m, j < m
  | 0, j, h => by cases h
  | m + 1, j, h => by
    have ih := opens_lt pl m
    cases hs : pl[m]? with
    | none =>
      have e : opens pl (m + 1) = opens pl m := by
        show (match pl[m]? with | some s => opnS (opens pl m) m s | none => opens pl m) = _
        rw [hs]
      rw [e] at h
      have := ih j h
      omega
    | some s =>
      rw [opens_succ hs] at h
      unfold opnS at h
      split at h
      · rcases List.mem_append.mp h with h | h
        · have := ih j h
          omega
        · rw [List.mem_singleton.mp h]
          omega
      · have := ih j (List.mem_filter.mp h).1
        omega
theorem opens_up (pl : List Stp) : ∀ m, (opens pl m).Pairwise (· < ·)
  | 0 => List.Pairwise.nil
  | m + 1 => by
    have ih := opens_up pl m
    cases hs : pl[m]? with
    | none =>
      have e : opens pl (m + 1) = opens pl m := by
        show (match pl[m]? with | some s => opnS (opens pl m) m s | none => opens pl m) = _
        rw [hs]
      rw [e]
      exact ih
    | some s =>
      rw [opens_succ hs]
      unfold opnS
      split
      · refine List.pairwise_append.mpr ⟨ih, List.pairwise_singleton _ _, fun a ha b hb => ?_⟩
        rw [List.mem_singleton.mp hb]
        exact opens_lt pl m a ha
      · exact ih.filter _
theorem opens_take (pl : List Stp) (k : Nat) : ∀ m, m ≤ k → opens (pl.take k) m = opens pl m
  | 0, _ => rfl
  | m + 1, h => by
    show (match (pl.take k)[m]? with | some s => opnS (opens (pl.take k) m) m s | none => opens (pl.take k) m) = (match pl[m]? with | some s => opnS (opens pl m) m s | none => opens pl m)
    rw [List.getElem?_take_of_lt (by omega), opens_take pl k m (by omega)]
theorem opens_ask (pl : List Stp) : ∀ m, ∀ j ∈ opens pl m, ∃ p b, pl[j]? = some ⟨.ask p, b⟩
  | 0, j, h => by cases h
  | m + 1, j, h => by
    have ih := opens_ask pl m
    cases hs : pl[m]? with
    | none =>
      have e : opens pl (m + 1) = opens pl m := by
        show (match pl[m]? with | some s => opnS (opens pl m) m s | none => opens pl m) = _
        rw [hs]
      rw [e] at h
      exact ih j h
    | some s =>
      rw [opens_succ hs] at h
      obtain ⟨mv, b⟩ := s
      cases mv with
      | ask p =>
        rcases List.mem_append.mp h with h | h
        · exact ih j h
        · rw [List.mem_singleton.mp h]
          exact ⟨p, b, hs⟩
      | say v => exact ih j (List.mem_filter.mp h).1
/-! ### sights -/
def bk (pl : List Stp) (n : Nat) : Nat := (((pl[n]?).bind Stp.back).getD 0)
def sgt (pl : List Stp) : Nat → Nat → List Nat
  | 0, _ => []
  | f + 1, n => if n = 0 then [0] else if bk pl n = 0 then [0, n] else sgt pl f (bk pl n - 1) ++ [bk pl n, n]
/-- backs go back -/
structure WB (pl : List Stp) : Prop where
  first : ∀ s, pl[0]? = some s → s = ⟨.ask [], none⟩
  later : ∀ n s, 0 < n → pl[n]? = some s → ∃ j, s.back = some j ∧ j < n
theorem WB.bk_lt {pl : List Stp} (h : WB pl) {n : Nat} (h0 : 0 < n) (hn : n < pl.length) : bk pl n < n := by
  obtain ⟨j, e, hj⟩ := h.later n _ h0 (List.getElem?_eq_getElem hn)
  unfold bk
  rw [List.getElem?_eq_getElem hn]
  show (pl[n].back).getD 0 < n
  rw [e]
  exact hj
theorem sgt_fuel {pl : List Stp} (h : WB pl) : ∀ (n f g : Nat), n < pl.length → n < f → n < g → sgt pl f n = sgt pl g n := by
  intro n
  induction n using Nat.strongRecOn with
  | ind n ih =>
    intro f g hn hf hg
    cases f with
    | zero => omega
    | succ f =>
      cases g with
      | zero => omega
      | succ g =>
        unfold sgt
        by_cases h0 : n = 0
        · rw [if_pos h0, if_pos h0]
        · rw [if_neg h0, if_neg h0]
          by_cases h1 : bk pl n = 0
          · rw [if_pos h1, if_pos h1]
          · have hb := h.bk_lt (Nat.pos_of_ne_zero h0) hn
            rw [if_neg h1, if_neg h1, ih (bk pl n - 1) (by omega) f g (by omega) (by omega) (by omega)]
def sight (pl : List Stp) (n : Nat) : List Nat := sgt pl (n + 1) n
theorem sight_zero (pl : List Stp) : sight pl 0 = [0] := rfl
theorem sight_one {pl : List Stp} {n : Nat} (h0 : 0 < n) (hb : bk pl n = 0) : sight pl n = [0, n] := by
  unfold sight sgt
  rw [if_neg (by omega), if_pos hb]
theorem sight_more {pl : List Stp} (h : WB pl) {n : Nat} (h0 : 0 < n) (hn : n < pl.length) (hb : bk pl n ≠ 0) : sight pl n = sight pl (bk pl n - 1) ++ [bk pl n, n] := by
  have hl := h.bk_lt h0 hn
  have e : sight pl n = sgt pl n (bk pl n - 1) ++ [bk pl n, n] := by
    show (if n = 0 then [0] else if bk pl n = 0 then [0, n] else sgt pl n (bk pl n - 1) ++ [bk pl n, n]) = _
    rw [if_neg (by omega), if_neg hb]
  rw [e, sgt_fuel h (bk pl n - 1) n (bk pl n - 1 + 1) (by omega) (by omega) (by omega)]
  rfl
theorem bk_take (pl : List Stp) {k n : Nat} (h : n < k) : bk (pl.take k) n = bk pl n := by
  unfold bk
  rw [List.getElem?_take_of_lt h]
theorem WB.take {pl : List Stp} (h : WB pl) (k : Nat) : WB (pl.take k) :=
  ⟨fun s e => h.first s (by
    have hk : 0 < k := by
      cases k with
      | zero =>
        rw [List.take_zero] at e
        cases e
      | succ k => omega
    rw [List.getElem?_take_of_lt hk] at e
    exact e), fun n s h0 e => h.later n s h0 (by
    by_cases hk : n < k
    · rw [List.getElem?_take_of_lt hk] at e
      exact e
    · rw [List.getElem?_eq_none (by rw [List.length_take]; omega)] at e
      cases e)⟩
theorem sgt_take {pl : List Stp} (h : WB pl) (k : Nat) : ∀ (f n : Nat), n < k → n < pl.length → sgt (pl.take k) f n = sgt pl f n
  | 0, _, _, _ => rfl
  | f + 1, n, hk, hn => by
    unfold sgt
    rw [bk_take pl hk]
    by_cases h0 : n = 0
    · rw [if_pos h0, if_pos h0]
    · rw [if_neg h0, if_neg h0]
      have hb := h.bk_lt (Nat.pos_of_ne_zero h0) hn
      by_cases h1 : bk pl n = 0
      · rw [if_pos h1, if_pos h1]
      · rw [if_neg h1, if_neg h1, sgt_take h k f (bk pl n - 1) (by omega) (by omega)]
theorem sight_take {pl : List Stp} (h : WB pl) {k n : Nat} (hk : n < k) (hn : n < pl.length) : sight (pl.take k) n = sight pl n := sgt_take h k (n + 1) n hk hn
theorem sight_up {pl : List Stp} (h : WB pl) : ∀ n, n < pl.length → (sight pl n).Pairwise (· < ·) ∧ ∀ j ∈ sight pl n, j ≤ n := by
  intro n
  induction n using Nat.strongRecOn with
  | ind n ih =>
    intro hn
    by_cases h0 : n = 0
    · subst h0
      rw [sight_zero]
      exact ⟨List.pairwise_singleton _ _, fun j hj => by rw [List.mem_singleton.mp hj]; exact Nat.le_refl 0⟩
    · have hp := Nat.pos_of_ne_zero h0
      have hb := h.bk_lt hp hn
      by_cases h1 : bk pl n = 0
      · rw [sight_one hp h1]
        refine ⟨List.pairwise_cons.mpr ⟨fun a ha => by rw [List.mem_singleton.mp ha]; exact hp, List.pairwise_singleton _ _⟩, fun j hj => ?_⟩
        simp only [List.mem_cons, List.not_mem_nil, or_false] at hj
        omega
      · obtain ⟨i1, i2⟩ := ih (bk pl n - 1) (by omega) (by omega)
        rw [sight_more h hp hn h1]
        refine ⟨List.pairwise_append.mpr ⟨i1, List.pairwise_cons.mpr ⟨fun a ha => by rw [List.mem_singleton.mp ha]; exact hb, List.pairwise_singleton _ _⟩, fun a ha b hb' => ?_⟩, fun j hj => ?_⟩
        · have := i2 a ha
          simp only [List.mem_cons, List.not_mem_nil, or_false] at hb'
          omega
        · rcases List.mem_append.mp hj with hj | hj
          · have := i2 j hj
            omega
          · simp only [List.mem_cons, List.not_mem_nil, or_false] at hj
            omega
theorem sight_len {pl : List Stp} (h : WB pl) (n : Nat) (hn : n < pl.length) : (sight pl n).length ≤ n + 1 := by
  induction n using Nat.strongRecOn with
  | ind n ih =>
    by_cases h0 : n = 0
    · subst h0
      exact Nat.le_refl 1
    · have hp := Nat.pos_of_ne_zero h0
      have hb := h.bk_lt hp hn
      by_cases h1 : bk pl n = 0
      · rw [sight_one hp h1]
        show 2 ≤ n + 1
        omega
      · have := ih (bk pl n - 1) (by omega) (by omega)
        rw [sight_more h hp hn h1, List.length_append]
        show _ + 2 ≤ n + 1
        omega
/-- each back is in sight -/
def WS (pl : List Stp) : Prop := ∀ n, 0 < n → n < pl.length → bk pl n ∈ sight pl (n - 1)
/-- closed under backs -/
def Cl (pl : List Stp) (ns : List Nat) : Prop := ∀ n ∈ ns, n < pl.length ∧ (n = 0 ∨ bk pl n ∈ ns)
theorem sight_cl {pl : List Stp} (h : WB pl) (w : WS pl) : ∀ n, n < pl.length → Cl pl (sight pl n) := by
  intro n
  induction n using Nat.strongRecOn with
  | ind n ih =>
    intro hn
    by_cases h0 : n = 0
    · subst h0
      intro m hm
      rw [List.mem_singleton.mp hm]
      exact ⟨hn, .inl rfl⟩
    · have hp := Nat.pos_of_ne_zero h0
      have hb := h.bk_lt hp hn
      by_cases h1 : bk pl n = 0
      · rw [sight_one hp h1]
        intro m hm
        simp only [List.mem_cons, List.not_mem_nil, or_false] at hm
        rcases hm with rfl | rfl
        · exact ⟨by omega, .inl rfl⟩
        · exact ⟨hn, .inr (by rw [h1]; exact List.mem_cons_self ..)⟩
      · have i := ih (bk pl n - 1) (by omega) (by omega)
        rw [sight_more h hp hn h1]
        intro m hm
        rcases List.mem_append.mp hm with hm | hm
        · obtain ⟨i1, i2⟩ := i m hm
          exact ⟨i1, i2.imp id (List.mem_append_left _)⟩
        · simp only [List.mem_cons, List.not_mem_nil, or_false] at hm
          rcases hm with rfl | rfl
          · exact ⟨by omega, .inr (List.mem_append_left _ (w _ (Nat.pos_of_ne_zero h1) (by omega)))⟩
          · exact ⟨hn, .inr (List.mem_append_right _ (List.mem_cons_self ..))⟩
/-! ### alone -/
def apS (pl : List Stp) (ns : List Nat) (n : Nat) : Stp := ⟨((pl[n]?).map Stp.mv).getD (.say 0), ((pl[n]?).bind Stp.back).map fun j => ns.idxOf j⟩
def apart (pl : List Stp) (ns : List Nat) : List Stp := ns.map (apS pl ns)
end Pk

set_option maxRecDepth 100000
set_option maxHeartbeats 1000000
/-! one list of signs for each datum, so that sorting data is sorting these lists -/
namespace Pk
open PySem PySem.Spec PyProof.Rows L2
open PySem.SeqAt
abbrev LX := PyProof.Rows.lexLt itemOrd
mutual
def tkD : D → List (Int ⊕ List Nat)
  | .at (.bl b) => [.inl (b2i b)]
  | .at (.int i) => [.inl i]
  | .at (.str x) => [.inr x.cps.toList]
  | .at _ => []
  | .lst => []
  | .tup ts => tkDs ts
def tkDs : List D → List (Int ⊕ List Nat)
  | [] => [.inl 0]
  | t :: r => .inl 1 :: (tkD t ++ tkDs r)
end
theorem str_ext {x y : Str} (h : x.cps.toList = y.cps.toList) : x = y := by
  cases x
  cases y
  exact congrArg _ (Array.toList_inj.mp h)
theorem int_eqv' (i j : Int) : PyData.eqv (.int i) (.int j) = decide (i = j) := by
  rw [PyData.eqv]
  by_cases h : i = j
  · rw [h, decide_eq_true rfl]
    exact beq_self_eq_true _
  · rw [decide_eq_false h]
    exact beq_eq_false_iff_ne.mpr h
theorem b2i_inj {a b : Bool} (h : b2i a = b2i b) : a = b := by
  cases a <;> cases b <;> first | rfl | exact absurd h (by decide)
mutual
theorem tk_lex : ∀ (d e : D), noLd d = true → noLd e = true → cpb (toPy d) (toPy e) = true → ∀ x y, LX (tkD d ++ x) (tkD e ++ y) = if PyData.eqv (toPy d) (toPy e) = true then LX x y else dlt (toPy d) (toPy e)
  | .lst, _, h, _, _, _, _ => by cases h
  | .at v, .lst, _, h, _, _, _ => by cases h
  | .at v, .at u, _, _, h, x, y => by
    cases v with
    | bl a =>
      cases u with
      | bl b =>
        show LX (.inl (b2i a) :: x) (.inl (b2i b) :: y) = if PyData.eqv (.bool a) (.bool b) = true then LX x y else decide (b2i a < b2i b)
        by_cases e : a = b
        · subst e
          rw [if_pos (by cases a <;> simp [PyData.eqv])]
          exact lex_self _ _ _
        · rw [if_neg (by intro z; apply e; cases a <;> cases b <;> simp_all [PyData.eqv])]
          exact lex_diff (O := itemOrd) (by intro z; injection z with z; exact e (b2i_inj z))
      | _ => cases h
    | int i =>
      cases u with
      | int j =>
        show LX (.inl i :: x) (.inl j :: y) = if PyData.eqv (.int i) (.int j) = true then LX x y else decide (i < j)
        rw [int_eqv']
        by_cases e : i = j
        · subst e
          rw [decide_eq_true rfl, if_pos rfl]
          exact lex_self _ _ _
        · rw [decide_eq_false e, if_neg Bool.false_ne_true]
          exact lex_diff (O := itemOrd) (by intro z; injection z with z; exact e z)
      | _ => cases h
    | str a =>
      cases u with
      | str b =>
        show LX (.inr a.cps.toList :: x) (.inr b.cps.toList :: y) = if PyData.eqv (.str a) (.str b) = true then LX x y else decide (a.cps.toList < b.cps.toList)
        by_cases e : a = b
        · subst e
          rw [if_pos (by simp [PyData.eqv])]
          exact lex_self _ _ _
        · rw [if_neg (by intro z; exact e (by simpa [PyData.eqv] using z))]
          refine (lex_diff (O := itemOrd) (by intro z; injection z with z; exact e (str_ext z))).trans ?_
          rfl
      | _ => cases h
    | non =>
      cases u with
      | bl _ => cases h
      | int _ => cases h
      | str _ => cases h
      | _ =>
        show LX x y = if PyData.eqv .none .none = true then LX x y else _
        rw [if_pos (by simp [PyData.eqv])]
    | byt _ =>
      cases u with
      | bl _ => cases h
      | int _ => cases h
      | str _ => cases h
      | _ =>
        show LX x y = if PyData.eqv .none .none = true then LX x y else _
        rw [if_pos (by simp [PyData.eqv])]
    | flt _ =>
      cases u with
      | bl _ => cases h
      | int _ => cases h
      | str _ => cases h
      | _ =>
        show LX x y = if PyData.eqv .none .none = true then LX x y else _
        rw [if_pos (by simp [PyData.eqv])]
    | ref _ =>
      cases u with
      | bl _ => cases h
      | int _ => cases h
      | str _ => cases h
      | _ =>
        show LX x y = if PyData.eqv .none .none = true then LX x y else _
        rw [if_pos (by simp [PyData.eqv])]
    | ty _ =>
      cases u with
      | bl _ => cases h
      | int _ => cases h
      | str _ => cases h
      | _ =>
        show LX x y = if PyData.eqv .none .none = true then LX x y else _
        rw [if_pos (by simp [PyData.eqv])]
  | .at v, .tup _, _, _, h, _, _ => by cases v <;> cases h
  | .tup _, .at v, _, _, h, _, _ => by cases v <;> cases h
  | .tup _, .lst, _, h, _, _, _ => by cases h
  | .tup ts, .tup us, h1, h2, h, x, y => by
    show LX (tkDs ts ++ x) (tkDs us ++ y) = if PyData.eqvAll (toPys ts) (toPys us) = true then LX x y else dlts (toPys ts) (toPys us)
    exact tk_lexs ts us h1 h2 h x y
theorem tk_lexs : ∀ (d e : List D), noLds d = true → noLds e = true → cpbs (toPys d) (toPys e) = true → ∀ x y, LX (tkDs d ++ x) (tkDs e ++ y) = if PyData.eqvAll (toPys d) (toPys e) = true then LX x y else dlts (toPys d) (toPys e)
  | [], [], _, _, _, x, y => by
    show LX (.inl 0 :: x) (.inl 0 :: y) = _
    rw [show PyData.eqvAll (toPys []) (toPys []) = true by simp [toPys, PyData.eqvAll], if_pos rfl]
    exact lex_self _ _ _
  | [], b :: bs, _, _, _, x, y => by
    show LX (.inl 0 :: x) (.inl 1 :: ((tkD b ++ tkDs bs) ++ y)) = _
    rw [show PyData.eqvAll (toPys []) (toPys (b :: bs)) = false by simp [toPys, PyData.eqvAll], if_neg Bool.false_ne_true]
    refine (lex_diff (O := itemOrd) (by intro z; injection z with z; exact absurd z (by decide))).trans ?_
    rfl
  | a :: as, [], _, _, _, x, y => by
    show LX (.inl 1 :: ((tkD a ++ tkDs as) ++ x)) (.inl 0 :: y) = _
    rw [show PyData.eqvAll (toPys (a :: as)) (toPys []) = false by simp [toPys, PyData.eqvAll], if_neg Bool.false_ne_true]
    refine (lex_diff (O := itemOrd) (by intro z; injection z with z; exact absurd z (by decide))).trans ?_
    rfl
  | a :: as, b :: bs, h1, h2, h, x, y => by
    have k1 := Bool.and_eq_true_iff.mp h1
    have k2 := Bool.and_eq_true_iff.mp h2
    obtain ⟨c1, c2⟩ := cpbs_cons (x := toPy a) (y := toPy b) (xs := toPys as) (ys := toPys bs) h
    show LX (.inl 1 :: ((tkD a ++ tkDs as) ++ x)) (.inl 1 :: ((tkD b ++ tkDs bs) ++ y)) = if PyData.eqvAll (toPy a :: toPys as) (toPy b :: toPys bs) = true then LX x y else dlts (toPy a :: toPys as) (toPy b :: toPys bs)
    rw [show LX (.inl 1 :: ((tkD a ++ tkDs as) ++ x)) (.inl 1 :: ((tkD b ++ tkDs bs) ++ y)) = LX ((tkD a ++ tkDs as) ++ x) ((tkD b ++ tkDs bs) ++ y) from lex_self _ _ _, List.append_assoc, List.append_assoc, tk_lex a b k1.1 k2.1 c1, PyData.eqvAll, dlts]
    cases e : PyData.eqv (toPy a) (toPy b) with
    | true =>
      rw [if_pos rfl, if_pos rfl, Bool.true_and]
      exact tk_lexs as bs k1.2 k2.2 (c2 e) x y
    | false => rw [if_neg Bool.false_ne_true, Bool.false_and, if_neg Bool.false_ne_true, if_neg Bool.false_ne_true]
end
mutual
theorem tk_inj : ∀ d e : D, toPy d = toPy e → tkD d = tkD e
  | .lst, e, h => by
    cases e with
    | lst => rfl
    | tup _ => cases h
    | «at» v => cases v <;> first | rfl | cases h
  | .at v, e, h => by
    cases e with
    | lst => cases v <;> first | rfl | cases h
    | tup _ => cases v <;> cases h
    | «at» u =>
      cases v <;> cases u <;> first
        | rfl
        | (cases h; done)
        | (cases h; rfl)
  | .tup ts, e, h => by
    cases e with
    | lst => cases h
    | «at» v => cases v <;> cases h
    | tup us =>
      injection h with h
      exact tks_inj ts us h
theorem tks_inj : ∀ d e : List D, toPys d = toPys e → tkDs d = tkDs e
  | [], [], _ => rfl
  | [], _ :: _, h => by cases h
  | _ :: _, [], h => by cases h
  | a :: as, b :: bs, h => by
    injection h with h1 h2
    show Sum.inl 1 :: (tkD a ++ tkDs as) = .inl 1 :: (tkD b ++ tkDs bs)
    rw [tk_inj a b h1, tks_inj as bs h2]
end
mutual
theorem dlt_eqv : ∀ x y : PyData, PyData.eqv x y = true → cpb x y = true → dlt x y = false
  | .bool a, .bool b, h, _ => by cases a <;> cases b <;> simp_all [PyData.eqv, dlt, b2i]
  | .int a, .int b, h, _ => by
    rw [int_eqv'] at h
    rw [of_decide_eq_true h, dlt]
    exact decide_eq_false (by omega)
  | .str a, .str b, h, _ => by
    have e : a = b := by simpa [PyData.eqv] using h
    rw [e, dlt]
    exact decide_eq_false (List.lt_irrefl _)
  | .tuple as, .tuple bs, h, hc => by
    rw [dlt]
    exact dlts_eqv as bs (by rw [PyData.eqv] at h; exact h) (by rw [cpb] at hc; exact hc)
  | .none, y, _, hc => by cases y <;> first | rfl | cases hc
  | .list _, y, _, hc => by cases y <;> cases hc
  | .dict _, y, _, hc => by cases y <;> cases hc
  | .bool _, .none, _, hc => by cases hc
  | .bool _, .int _, _, hc => by cases hc
  | .bool _, .str _, _, hc => by cases hc
  | .bool _, .tuple _, _, hc => by cases hc
  | .bool _, .list _, _, hc => by cases hc
  | .bool _, .dict _, _, hc => by cases hc
  | .int _, .none, _, hc => by cases hc
  | .int _, .bool _, _, hc => by cases hc
  | .int _, .str _, _, hc => by cases hc
  | .int _, .tuple _, _, hc => by cases hc
  | .int _, .list _, _, hc => by cases hc
  | .int _, .dict _, _, hc => by cases hc
  | .str _, .none, _, hc => by cases hc
  | .str _, .bool _, _, hc => by cases hc
  | .str _, .int _, _, hc => by cases hc
  | .str _, .tuple _, _, hc => by cases hc
  | .str _, .list _, _, hc => by cases hc
  | .str _, .dict _, _, hc => by cases hc
  | .tuple _, .none, _, hc => by cases hc
  | .tuple _, .bool _, _, hc => by cases hc
  | .tuple _, .int _, _, hc => by cases hc
  | .tuple _, .str _, _, hc => by cases hc
  | .tuple _, .list _, _, hc => by cases hc
  | .tuple _, .dict _, _, hc => by cases hc
theorem dlts_eqv : ∀ xs ys : List PyData, PyData.eqvAll xs ys = true → cpbs xs ys = true → dlts xs ys = false
  | [], [], _, _ => rfl
  | [], _ :: _, h, _ => by rw [PyData.eqvAll] at h; cases h
  | _ :: _, [], h, _ => by rw [PyData.eqvAll] at h; cases h
  | x :: xs, y :: ys, h, hc => by
    rw [PyData.eqvAll, Bool.and_eq_true] at h
    obtain ⟨c1, c2⟩ := cpbs_cons hc
    rw [dlts, if_pos h.1]
    exact dlts_eqv xs ys h.2 (c2 h.1)
end
/-- sorting data of a class whose members compare -/
theorem encU {β : Type} {dat : β → D} {ok : β → Prop} (nol : ∀ b, ok b → noLd (dat b) = true) (dp : ∀ b, ok b → dep (dat b) ≤ 30) (tup : ∀ b, ok b → ∃ x r, dat b = .tup (.tup x :: r))
    (cp : ∀ b c, ok b → ok c → cpb (toPy (dat b)) (toPy (dat c)) = true) : Enc dat (fun b => tkD (dat b)) ok where
  nol := nol
  dep := dp
  inj := fun b c _ _ h => tk_inj _ _ h
  tup := tup
  cmp := fun b c hb hc => by
    have h := cp b c hb hc
    refine ⟨h, ?_⟩
    have z := tk_lex (dat b) (dat c) (nol b hb) (nol c hc) h [] []
    rw [List.append_nil, List.append_nil] at z
    refine Eq.trans ?_ z.symm
    cases e : PyData.eqv (toPy (dat b)) (toPy (dat c)) with
    | true =>
      rw [if_pos rfl, dlt_eqv _ _ e h]
      rfl
    | false => rw [if_neg Bool.false_ne_true]
end Pk

set_option maxRecDepth 100000
set_option maxHeartbeats 1000000
/-! dicts whose keys are data: tuples of numbers, texts, None, truth values, and of such -/
namespace Pk
open PySem PySem.Spec PyProof.Rows L2
mutual
/-- data as a key -/
def kyD : D → NestedKey
  | .at .non => .none
  | .at (.int i) => .num i
  | .at (.str x) => .text x
  | .at (.bl b) => .num (if b = true then 1 else 0)
  | .at _ => .none
  | .lst => .none
  | .tup ts => .tup (kyDs ts)
def kyDs : List D → List NestedKey
  | [] => []
  | t :: r => kyD t :: kyDs r
end
mutual
theorem ky_depth : ∀ d : D, (kyD d).depth ≤ dep d + 1
  | .at v => by cases v <;> exact Nat.zero_le _
  | .lst => Nat.zero_le _
  | .tup ts => Nat.succ_le_succ (ky_depths ts)
theorem ky_depths : ∀ l : List D, NestedKey.depthAll (kyDs l) ≤ deps l
  | [] => Nat.le_refl _
  | t :: r => by
    have h1 := ky_depth t
    have h2 := ky_depths r
    show max (kyD t).depth (NestedKey.depthAll (kyDs r)) ≤ max (dep t + 1) (deps r)
    omega
end
section
variable {X : Cx} {pins : List (Addr × Obj)} {σ : L2.St} {H : Hp} {s : Shared}
mutual
theorem nest_is (I : Inv X pins σ H s) : ∀ {v : V} {d : D} {u : Value}, Rep X.K H v d → noLd d = true → RelV v u → NestedIs s.heap (kyD d) u
  | v, _, u, .at h, _, r => by
    cases v with
    | non => cases r; exact .none
    | bl b => cases r; exact .bool rfl
    | int i => obtain ⟨t, rfl⟩ := r; exact .int _ _
    | str x => obtain ⟨t, rfl⟩ := r; exact .text _ _
    | byt _ => cases h
    | flt _ => cases h
    | ref _ => cases h
    | ty _ => cases h
  | _, _, _, .lst _, k, _ => by cases k
  | _, _, u, .tup h rs, k, r => by
    obtain ⟨its, rv, p, hz⟩ := I.tuple h.sq
    obtain ⟨⟨cls, dd, data, sl⟩, ho, hc, n, hd⟩ := p
    cases r
    exact .tup ho hc hd (nest_all I rs k rv)
theorem nest_all (I : Inv X pins σ H s) : ∀ {xs : List V} {ds : List D} {us : List Value}, Reps X.K H xs ds → noLds ds = true → Vals xs us → NestedAll s.heap (kyDs ds) us
  | _, _, _, .nil, _, rv => by cases rv; exact .nil
  | _, _, _, .cons h rs, k, rv => by
    have k' := Bool.and_eq_true_iff.mp k
    cases rv with
    | cons r0 rv => exact .cons (nest_is I h k'.1 r0) (nest_all I rs k'.2 rv)
end
end
/-- the tuple at b is the key k -/
def KeyAt (K : PySem.W.Frag) (H : Hp) (k : NestedKey) (b : Addr) : Prop := ∃ d, Rep K H (.ref b) d ∧ noLd d = true ∧ dep d ≤ 7 ∧ kyD d = k
theorem KeyAt.mono {K : PySem.W.Frag} {H H' : Hp} {k : NestedKey} {b : Addr} (x : KeyAt K H k b) (m : Kx H H') : KeyAt K H' k b :=
  let ⟨d, r, n, z, e⟩ := x; ⟨d, r.mono m, n, z, e⟩
theorem KeyAt.is {X : Cx} {pins : List (Addr × Obj)} {σ : L2.St} {H : Hp} {s : Shared} {k : NestedKey} {b : Addr} (I : Inv X pins σ H s) (x : KeyAt X.K H k b) : (nestedKind X.prog X.w).is s.heap k b := by
  obtain ⟨d, r, n, z, rfl⟩ := x
  refine ⟨nest_is I r n rfl, ?_⟩
  have := ky_depth d
  omega
abbrev Ent := NestedKey × Addr × V
abbrev QR : List Ent → List (NestedKey × Addr × Value) → Prop := Paired fun p q => p.1 = q.1 ∧ p.2.1 = q.2.1 ∧ RelV p.2.2 q.2.2
def atV (xs : List Ent) (k : NestedKey) : Option V := (xs.find? fun x => decide (x.1 = k)).map (·.2.2)
def putV (xs : List Ent) (k : NestedKey) (a : Addr) (v : V) : List Ent :=
  if (atV xs k).isSome then xs.map (fun x => if x.1 = k then (x.1, x.2.1, v) else x) else xs ++ [(k, a, v)]
theorem QR.val : ∀ {xs : List Ent} {vs : List (NestedKey × Addr × Value)}, QR xs vs → ∀ k, RelO (atV xs k) ((atKey vs k).map (·.2))
  | _, _, .nil, k => True.intro
  | x :: xs, y :: vs, .cons ⟨h1, h2, h3⟩ t, k => by
    have ih := QR.val t k
    unfold atV atKey at ih ⊢
    rw [List.find?_cons, List.find?_cons, ← h1]
    by_cases e : x.1 = k
    · rw [decide_eq_true e]
      exact h3
    · rw [decide_eq_false e]
      exact ih
theorem QR.repl {k : NestedKey} {v : V} {r : Value} (rv : RelV v r) : ∀ {xs : List Ent} {vs : List (NestedKey × Addr × Value)}, QR xs vs → QR (xs.map (fun x => if x.1 = k then (x.1, x.2.1, v) else x)) (vs.map (putAt k r))
  | _, _, .nil => .nil
  | x :: xs, y :: vs, .cons ⟨h1, h2, h3⟩ t => by
    refine .cons ?_ (QR.repl rv t)
    unfold putAt
    dsimp only
    rw [← h1]
    by_cases e : x.1 = k
    · rw [if_pos e, if_pos e]
      exact ⟨rfl, h2, rv⟩
    · rw [if_neg e, if_neg e]
      exact ⟨h1, h2, h3⟩
theorem QR.app : ∀ {xs xs' : List Ent} {vs vs' : List (NestedKey × Addr × Value)}, QR xs vs → QR xs' vs' → QR (xs ++ xs') (vs ++ vs')
  | _, _, _, _, .nil, s => s
  | _, _, _, _, .cons h t, s => .cons h (QR.app t s)
theorem isSome_val {o : Option V} {u : Option (Addr × Value)} (h : RelO o (u.map (·.2))) : o.isSome = u.isSome := by
  have := h.isSome_eq
  rwa [Option.isSome_map] at this
theorem QR.put {xs : List Ent} {vs : List (NestedKey × Addr × Value)} (q : QR xs vs) (k : NestedKey) (a : Addr) {v : V} {r : Value} (rv : RelV v r) : QR (putV xs k a v) (storedH vs k a r) := by
  have e := isSome_val (q.val k)
  unfold putV storedH
  rw [e]
  by_cases h : (atKey vs k).isSome = true
  · rw [if_pos h, if_pos h]
    exact q.repl rv
  · rw [if_neg h, if_neg h]
    exact q.app (.cons ⟨rfl, rfl, rv⟩ .nil)
theorem QR.length {xs : List Ent} {vs : List (NestedKey × Addr × Value)} (q : QR xs vs) : xs.length = vs.length := Paired.length q
theorem length_putV (xs : List Ent) (k : NestedKey) (a : Addr) (v : V) : (putV xs k a v).length ≤ xs.length + 1 := by
  unfold putV
  split
  · rw [List.length_map]
    omega
  · rw [List.length_append]
    exact Nat.le_refl _
/-- at a: a dict of these keys, their tuples, their values -/
def DkR (P : Program) (w : World) (a : Addr) (xs : List Ent) (h : Heap) : Prop :=
  (a == sysModules) = false ∧ ∃ vs, QR xs vs ∧ ∃ o es ep, h.get? a = some o ∧ o.ExactDict ∧ o.data = .dict es ep ∧ es.toList = vs.map (entryOfKey (nestedKind P w)) ∧ (vs.map (·.1)).Nodup
def DkO (P : Program) (w : World) (a : Addr) (xs : List Ent) : HO := .ext (DkR P w a xs)
theorem dk_ok {P : Program} {w : World} {H : Hp} {h : Heap} {a : Addr} {xs : List Ent} (r : DkR P w a xs h) : ObjOk P w H h a (DkO P w a xs) := by
  have r' := r
  obtain ⟨h1, vs, q, o, es, ep, h2, h3⟩ := r
  refine ⟨r', ⟨o, h2⟩, fun x y p k => ?_⟩
  obtain ⟨g1, vs, q, o, es, ep, g2, g3⟩ := p
  exact ⟨g1, vs, q, o, es, ep, k _ g2, g3⟩
/-- a dict that may be read at a, its keys as tuples that stand -/
structure DkT (P : Program) (w : World) (K : PySem.W.Frag) (H : Hp) (a : Addr) (xs : List Ent) : Prop where
  rd : Rd H a (DkO P w a xs)
  ks : ∀ e ∈ xs, KeyAt K H e.1 e.2.1
section
variable {X : Cx} {pins : List (Addr × Obj)} {σ : L2.St} {H : Hp} {s : Shared} {a : Addr} {xs : List Ent}
theorem DkT.of (I : Inv X pins σ H s) (d : DkT X.prog X.w X.K H a xs) : (a == sysModules) = false ∧ ∃ vs, QR xs vs ∧ s.heap.DictOfH (nestedKind X.prog X.w) a vs := by
  obtain ⟨h1, vs, q, o, es, ep, h2, h3, h4, h5, h6⟩ := (d.rd.ok I.hok).1
  refine ⟨h1, vs, q, o, es, ep, h2, h3, h4, h5, fun y hy => ?_, h6⟩
  obtain ⟨j, hj⟩ := List.mem_iff_getElem?.mp hy
  have lq := q.length
  have hl := (List.getElem?_eq_some_iff.mp hj).1
  have hx : xs[j]? = some (xs[j]'(by omega)) := List.getElem?_eq_getElem _
  obtain ⟨b, hb, e1, e2, _⟩ := paired_get q hx
  rw [hj] at hb
  cases hb
  have := (d.ks _ (List.mem_of_getElem? hx)).is I
  rw [e1, e2] at this
  exact this
theorem DkT.put_ok {h' : Heap} {k : NestedKey} {b : Addr} {v : V} {r : Value} {vs : List (NestedKey × Addr × Value)} (P : Program) (w : World) (q : QR xs vs) (rv : RelV v r) (hd : (a == sysModules) = false) (d : h'.DictOfH (nestedKind P w) a (storedH vs k b r)) {H' : Hp} : ObjOk P w H' h' a (DkO P w a (putV xs k b v)) := by
  obtain ⟨o, es, ep, h2, h3, h4, h5, _, h6⟩ := d
  exact dk_ok ⟨hd, _, q.put k b rv, o, es, ep, h2, h3, h4, h5, h6⟩
end
/-! ### {} -/
section
variable {X : Cx}
def tDkNew (P : Program) (w : World) : TE := fun _ H Q => ∀ p, H p = none → Q (.ref p) (upd H p (DkO P w p []))
theorem pe_dkNew {pos : Pos} : PE X (.Dict [] [] pos) (tDkNew X.prog X.w) := ⟨fun pins s σ H Q I h =>
  wpAny_Dict_empty ⟨.ref s.heap.objs.size, _, I.laid (a := s.heap.objs.size) (o := DkO X.prog X.w s.heap.objs.size []) (t' := s.toks) (fun _ _ q => Heap.get?_push_of_some _ q) (Nat.le_refl _)
    (dk_ok ⟨beq_eq_false_iff_ne.mpr (Ne.symm (Nat.ne_of_lt I.big)), [], .nil, _, #[], 0, Heap.get?_push_size _ rfl, ⟨rfl, rfl, rfl⟩, rfl, rfl, List.nodup_nil⟩), rfl, h _ (I.hok.fresh (Nat.le_refl _))⟩⟩
variable {o i value : Expr} {td ty tv : TE} {pos pos' : Pos}
/-! ### d[k] -/
def tDkGet (P : Program) (w : World) (K : PySem.W.Frag) (td ty : TE) : TE := fun σ H Q => td σ H fun x H1 => ty σ H1 fun y H2 => ∃ (a b : Addr) (xs : List Ent) (k : NestedKey) (v : V), x = .ref a ∧ y = .ref b ∧ DkT P w K H2 a xs ∧ KeyAt K H2 k b ∧ atV xs k = some v ∧ Q v H2
theorem room8 {A : Around} (hu : A.units + 64 < cLine) : A.in1.units + 8 < cLine := by
  show A.units + 1 + 8 < cLine
  omega
theorem pe_dkGet (hu : X.A.units + 64 < cLine) (ho : PE X o td) (hi : PE X i ty) (hs : NoSl i) : PE X (.Subscript o i pos) (tDkGet X.prog X.w X.K td ty) := by
  refine ⟨fun pins s σ H Q I h => ?_⟩
  refine subD_of PySem.F.slot_dict_getitem.lookup hs (thn (ho.run pins s σ H _ I h) fun u s1 ⟨x, H1, I1, rx, q1⟩ => thn (hi.run pins s1 σ H1 _ I1 q1) fun iv s2 ⟨y, H2, I2, ry, a, b, xs, k, v, ex, ey, hd, hk, hv, q2⟩ => ?_)
  subst ex ey
  obtain rfl : u = Value.ref a := rx
  obtain rfl : iv = Value.ref b := ry
  obtain ⟨h1, vs, q, dd⟩ := hd.of I2
  have z := q.val k
  rw [hv] at z
  obtain ⟨w', hw, rw'⟩ := RelO.some_of (v := v) (o := (atKey vs k).map (·.2)) z
  obtain ⟨p, hp, hp2⟩ := Option.map_eq_some_iff.mp hw
  refine ⟨dd.typeIs, wpAny_getItem_heap (knd := nestedKind X.prog X.w) (room8 hu) (hk.is I2) dd hp ?_⟩
  rw [hp2]
  exact ⟨v, H2, I2.tok _, rw', q2⟩
/-! ### d.get(k) -/
def tDkGet1 (P : Program) (w : World) (K : PySem.W.Frag) (td ty : TE) : TE := fun σ H Q => td σ H fun x H1 => ∃ (a : Addr) (xs : List Ent), x = .ref a ∧ DkT P w K H1 a xs ∧ ty σ H1 fun y H2 => ∃ (b : Addr) (xs : List Ent) (k : NestedKey), y = .ref b ∧ DkT P w K H2 a xs ∧ KeyAt K H2 k b ∧ Q ((atV xs k).getD .non) H2
theorem pe_dkGet1 {e : Expr} {apos cpos : Pos} (hu : X.A.units + 64 < cLine) (ho : PE X o td) (he : PE X e ty) (m : M1 X o "get" apos e cpos) : PE X (.Call (.Attribute o "get" apos) [e] [] cpos) (tDkGet1 X.prog X.w X.K td ty) := by
  refine ⟨fun pins s σ H Q I h => ?_⟩
  refine wpAny_Call_method m.base m.few m.line PySem.F.plainAttrs_dict PySem.F.slot_dict_get PySem.F.type_dict_get (thn (ho.run pins s σ H _ I h) fun u s1 ⟨x, H1, I1, rx, a, xs1, ex, d, q1⟩ => ?_)
  subst ex
  obtain rfl : u = Value.ref a := rx
  obtain ⟨g1, vs1, g2, g3⟩ := d.of I1
  refine ⟨g3.typeIs, fun c q => ?_, ?_⟩
  · cases q
    obtain ⟨ob, _, _, h1, h2, _⟩ := g3
    exact ⟨ob, h1, h2.2.1⟩
  rw [m.trees]
  refine Calls.callWith_builtin rfl (Calls.evalArgs_plain (Calls.spliced_cons (thn (he.run pins s1 σ H1 _ I1 q1) fun iv s2 ⟨y, H2, I2, ry, b, xs, k, ey, hd, hk, q2⟩ => Calls.spliced_nil ?_)))
  subst ey
  obtain rfl : iv = Value.ref b := ry
  obtain ⟨h1, vs, q, dd⟩ := hd.of I2
  refine call_meetsIn PySem.F.slot_dict_get dd.typeIs PySem.F.entry_dict_get (PySem.F.args_dict_get_2 _ _) (meetsH_dict_get (nestedKind X.prog X.w) a b h1) ⟨room8 (A := X.A) (by omega), k, vs, hk.is I2, dd, ⟨_, H2, I2.tok _, ?_, q2⟩⟩
  exact (q.val k).getD rfl
/-! ### k in d, k not in d -/
def tDkIn (P : Program) (w : World) (K : PySem.W.Frag) (neg : Bool) (ty td : TE) : TE := fun σ H Q => ty σ H fun y H1 => td σ H1 fun x H2 => ∃ (a b : Addr) (xs : List Ent) (k : NestedKey), x = .ref a ∧ y = .ref b ∧ DkT P w K H2 a xs ∧ KeyAt K H2 k b ∧ Q (.bl (if neg = true then !(atV xs k).isSome else (atV xs k).isSome)) H2
theorem pc_dkIn (hu : X.A.units + 64 < cLine) (hi : PE X i ty) (ho : PE X o td) : PC X .In i o (tDkIn X.prog X.w X.K false ty td) := by
  refine ⟨fun pins s σ H Q I h => ?_⟩
  refine thn (hi.run pins s σ H _ I h) fun iv s1 ⟨y, H1, I1, ry, q1⟩ => thn (ho.run pins s1 σ H1 _ I1 q1) fun u s2 ⟨x, H2, I2, rx, a, b, xs, k, ex, ey, hd, hk, q2⟩ => ?_
  subst ex ey
  obtain rfl : u = Value.ref a := rx
  obtain rfl : iv = Value.ref b := ry
  obtain ⟨h1, vs, q, dd⟩ := hd.of I2
  refine wpAny_in_heap (knd := nestedKind X.prog X.w) (room8 hu) (hk.is I2) h1 dd ?_
  rw [← isSome_val (q.val k)]
  exact ⟨.bl (atV xs k).isSome, H2, I2.tok _, rfl, q2⟩
theorem pc_dkNotIn (hu : X.A.units + 64 < cLine) (hi : PE X i ty) (ho : PE X o td) : PC X .NotIn i o (tDkIn X.prog X.w X.K true ty td) := by
  refine ⟨fun pins s σ H Q I h => ?_⟩
  refine thn (hi.run pins s σ H _ I h) fun iv s1 ⟨y, H1, I1, ry, q1⟩ => thn (ho.run pins s1 σ H1 _ I1 q1) fun u s2 ⟨x, H2, I2, rx, a, b, xs, k, ex, ey, hd, hk, q2⟩ => ?_
  subst ex ey
  obtain rfl : u = Value.ref a := rx
  obtain rfl : iv = Value.ref b := ry
  obtain ⟨h1, vs, q, dd⟩ := hd.of I2
  refine wpAny_notIn_heap (knd := nestedKind X.prog X.w) (room8 hu) (hk.is I2) h1 dd ?_
  rw [← isSome_val (q.val k)]
  exact ⟨.bl (!(atV xs k).isSome), H2, I2.tok _, rfl, q2⟩
/-! ### d[k] = v -/
def tDkPut (P : Program) (w : World) (K : PySem.W.Frag) (td ty tv : TE) : TS := fun D σ H => tv σ H fun v H1 => td σ H1 fun x H2 => ty σ H2 fun y H3 => ∃ (a b : Addr) (xs : List Ent) (k : NestedKey), x = .ref a ∧ y = .ref b ∧ H3 a = some (DkO P w a xs) ∧ (∀ e ∈ xs, KeyAt K H3 e.1 e.2.1) ∧ KeyAt K H3 k b ∧ xs.length < 1000000 ∧ D.nx σ (upd H3 a (DkO P w a (putV xs k b v)))
theorem ps_dkPut (hu : X.A.units + 64 < cLine) (ho : PE X o td) (hi : PE X i ty) (hv : PE X value tv) (hs : swapsWith value (some (.Subscript o i pos')) pos.line X.env = pure false) : PS X (.Assign [.Subscript o i pos'] value pos) (tDkPut X.prog X.w X.K td ty tv) := by
  refine ⟨fun pins s σ H D I h => ?_⟩
  refine wpAny_Assign_Subscript (thn (hv.run pins s σ H _ I h) fun r s1 ⟨v, H1, I1, rv, q1⟩ => thn (ho.run pins s1 σ H1 _ I1 q1) fun u s2 ⟨x, H2, I2, rx, q2⟩ => thn (hi.run pins s2 σ H2 _ I2 q2) fun iv s3 ⟨y, H3, I3, ry, a, b, xs, k, ex, ey, ha, hks, hk, hn, q3⟩ => ?_) hs
  subst ex ey
  obtain rfl : u = Value.ref a := rx
  obtain rfl : iv = Value.ref b := ry
  obtain ⟨h1, vs, q, dd⟩ := DkT.of I3 ⟨.inl ha, hks⟩
  have hz : vs.length ≤ sizeLine := by
    rw [← q.length, sizeLine_eq]
    omega
  refine wpAny_setItem_heap (knd := nestedKind X.prog X.w) (hsz := hz) (room8 hu) (hk.is I3) dd fun h' dd' hs' => ?_
  have he : ∃ q, h'.get? a = some q := let ⟨q, _, _, hq, _⟩ := dd'; ⟨q, hq⟩
  exact ⟨σ, _, d_write I3 (by rw [ha]; trivial) hs' he (DkT.put_ok _ _ q rv h1 dd'), q3⟩
end
end Pk

set_option maxRecDepth 100000
set_option maxHeartbeats 1000000
/-! walks over such dicts: sorted(d), list(d), for k in d -/
namespace Pk
open PySem PySem.Spec PyProof.Rows L2
open PySem.W PySem.Calls
theorem raw_lt {h : Heap} {d : Addr} {es : Array DictEntry} {ep : Nat} (x : h.DictRaw d es ep) : d < h.objs.size := let ⟨_, ho, _⟩ := x; Heap.lt_size ho
theorem DkT.raw {X : Cx} {pins : List (Addr × Obj)} {σ : L2.St} {H : Hp} {s : Shared} {a : Addr} {xs : List Ent} (I : Inv X pins σ H s) (d : DkT X.prog X.w X.K H a xs) :
    (a == sysModules) = false ∧ ∃ es ep, s.heap.DictRaw a es ep ∧ es.size = xs.length ∧ (∀ i (hi : i < es.size), ∃ e u, xs[i]? = some e ∧ es[i].key = .ref e.2.1 ∧ RelV e.2.2 u ∧ es[i].val = u) := by
  obtain ⟨h1, vs, q, dd⟩ := d.of I
  obtain ⟨es, ep, h2, h3, h4⟩ := dd.raw
  refine ⟨h1, es, ep, h2, by rw [h3, q.length], fun i hi => ?_⟩
  obtain ⟨y, hy, k1, k2, _⟩ := h4 i hi
  have lq := q.length
  have hl := (List.getElem?_eq_some_iff.mp hy).1
  have hx : xs[i]? = some (xs[i]'(by omega)) := List.getElem?_eq_getElem _
  obtain ⟨b, hb, e1, e2, e3⟩ := paired_get q hx
  rw [hy] at hb
  cases hb
  exact ⟨_, _, hx, by rw [k1, e2], e3, k2⟩
theorem src_raw {prog : Program} {w : World} {d : Addr} {es : Array DictEntry} {ep : Nat} (lo : (d == sysModules) = false) : KdlSrc prog w "dict" d d es.size (fun i v => ∃ hi : i < es.size, v = es[i].key) (fun h => h.DictRaw d es ep) where
  type := fun _ hm => hm.typeIs
  there := fun _ hm => ⟨raw_lt hm, raw_lt hm⟩
  keep := fun _ _ hm hk => hm.at fun o e => hk d (.inl rfl) o e
  notList := by decide
  notTuple := by decide
  hint := fun _ _ _ _ hm hq => kdl_hint_dict hm.typeIs hq
  iter := fun _ _ hh hm => ⟨_, _, (fun _ _ hq => wpAny_pyIter_dict_raw lo hm hq), Walks.rawKeys hh _ d (Nat.ne_of_lt (raw_lt hm)) es ep, ⟨⟨_, Heap.get?_push_size _ rfl, rfl, rfl⟩, hm.at fun _ e => Heap.get?_push_of_some _ e⟩⟩
theorem acc_keys {xs : List Ent} {es : Array DictEntry} {acc : Array Value} (hs : es.size = xs.length) (hx : ∀ i (hi : i < es.size), ∃ e u, xs[i]? = some e ∧ es[i].key = .ref e.2.1 ∧ RelV e.2.2 u ∧ es[i].val = u) (ha : ItemsOf (fun i v => ∃ hi : i < es.size, v = es[i].key) acc es.size) :
    acc.toList = xs.map fun e => Value.ref e.2.1 := by
  refine List.ext_getElem? fun i => ?_
  by_cases hi : i < es.size
  · obtain ⟨e, u, h1, h2, _⟩ := hx i hi
    have hl : i < acc.size := by rw [ha.1]; exact hi
    have e1 : acc[i]? = some acc[i] := Array.getElem?_eq_getElem hl
    obtain ⟨_, h3⟩ := ha.2 i _ e1
    rw [Array.getElem?_toList, e1, List.getElem?_map, h1, h3, h2]
    rfl
  · rw [List.getElem?_eq_none (by rw [Array.length_toList, ha.1]; omega), List.getElem?_eq_none (by rw [List.length_map]; omega)]
theorem vals_keys : ∀ xs : List Ent, Vals (xs.map fun e => V.ref e.2.1) (xs.map fun e => Value.ref e.2.1)
  | [] => .nil
  | _ :: r => .cons rfl (vals_keys r)
section
variable {X : Cx} {β : Type}
def rSortDk (P : Program) (w : World) (K : PySem.W.Frag) (dat : β → D) (tok : β → List (Int ⊕ List Nat)) (ok : β → Prop) : List V → Hp → VK → Prop := fun vs H Q => ∃ (a : Addr) (xs : List Ent) (bs : List β), vs = [V.ref a] ∧ DkT P w K H a xs ∧ xs.length ≤ 1000000 ∧
  Reps K H (xs.map fun e => V.ref e.2.1) (bs.map dat) ∧ (∀ b ∈ bs, ok b) ∧ ∀ (ys : List V) (p : Addr), Reps K H ys ((sortE tok bs).map dat) → H p = none → Q (.ref p) (upd H p (.lst ys))
theorem cr_sortDk {dat : β → D} {tok : β → List (Int ⊕ List Nat)} {ok : β → Prop} (hc : X.calm = true) (hu : X.A.units + 64 < cLine) (N : Enc dat tok ok) : CallR X (.builtin "sorted") (rSortDk X.prog X.w X.K dat tok ok) := by
  intro pins s σ H vs us Q I r h
  obtain ⟨a, xs, bs, rfl, hd, hlen, hr, hok, q⟩ := h
  obtain ⟨u, rfl, ru⟩ := vals1 r
  obtain rfl : u = Value.ref a := ru
  obtain ⟨lo, es, ep, hraw, hes, hx⟩ := hd.raw I
  have hn : es.size ≤ sizeLine := by
    rw [sizeLine_eq]
    omega
  refine call_function_entry kind_sorted plain_sorted entry_sorted (args_sorted1 _) ?_
  unfold Builtin.«sorted»
  refine wpAny_bind (m := checkCount "sorted" 1 1 _) (wpAny_pure ?_)
  refine wpAny_bind (kdu_collect (A := X.A.in1) (src_raw lo) (I.ok.hd hc) hraw hn fun h' tk acc hk hacc => ?_)
  have eacc := acc_keys hes hx hacc
  rw [eacc]
  have I1 : Inv X pins σ H { s with heap := h', toks := tk } := I.kept (t' := tk) hk
  have hl : (xs.map fun e => Value.ref e.2.1).length ≤ sizeLine := by
    rw [List.length_map, ← hes]
    exact hn
  generalize hvs : (xs.map fun e => Value.ref e.2.1) = vs at hl
  have rv : Vals (xs.map fun e => V.ref e.2.1) vs := by
    rw [← hvs]
    exact vals_keys xs
  have each := reps_each I1 hr rv fun b hb => N.nol b (hok b hb)
  refine wpAny_bind (wpAny_newList ?_ hl)
  have ho : (h'.push (seqObj "list" vs.toArray 0)).get? h'.objs.size = some (seqObj "list" vs.toArray 0) := Heap.get?_push_size _ rfl
  have keep : ∀ b o, h'.get? b = some o → (sortingHeap (h'.push (seqObj "list" vs.toArray 0)) h'.objs.size vs).get? b = some o := fun b o e => sortingHeap_old (Nat.ne_of_lt (Heap.lt_size e)) (Heap.get?_push_of_some _ e)
  have S : SortsAt X.prog X.w X.A.in1.in1 { s with heap := sortingHeap (h'.push (seqObj "list" vs.toArray 0)) h'.objs.size vs, toks := tk } (encKind (sortingHeap (h'.push (seqObj "list" vs.toArray 0)) h'.objs.size vs) bs (fun b => toPy (dat b)) tok) vs := by
    refine sortsAt_enc (each.mono fun v b z => ?_) (fun b hb => plain_noL _ (N.nol b (hok b hb))) (fun b hb c hc => N.inj b c (hok b hb) (hok c hc)) (fun b hb => ?_) (fun b hb c hc => N.cmp b c (hok b hb) (hok c hc)) (fun b hb => ?_)
    · obtain ⟨⟨as, r⟩, _⟩ := z
      exact ⟨as, Reads.keeps keep r⟩
    · obtain ⟨x, r, e⟩ := N.tup b (hok b hb)
      rw [e]
      exact ⟨_, _, rfl⟩
    · have h1 := depth_noL (dat b)
      have h2 := N.dep b (hok b hb)
      show X.A.units + 1 + 1 + (toPy (dat b)).depth < cLine
      omega
  have out : EachIs (fun v b => ∃ x, RelV x v ∧ Rep X.K H x (dat b)) (sortVals (encKind (sortingHeap (h'.push (seqObj "list" vs.toArray 0)) h'.objs.size vs) bs (fun b => toPy (dat b)) tok) false vs vs) (sortE tok bs) := by
    refine sortVals_each (κ := encKind (sortingHeap (h'.push (seqObj "list" vs.toArray 0)) h'.objs.size vs) bs (fun b => toPy (dat b)) tok) tok (each.mono fun v b z => z.2) ?_
    refine (each_mem each).mono fun v b z => ?_
    obtain ⟨⟨⟨as, r⟩, _⟩, hb⟩ := z
    exact encKind_some (fun b hb => plain_noL _ (N.nol b (hok b hb))) (fun b hb c hc => N.inj b c (hok b hb) (hok c hc)) hb (Reads.keeps keep r)
  obtain ⟨ys, v1, r1⟩ := each_back out
  have hl2 := v1.length
  rw [sortVals_length _ rfl] at hl2
  obtain ⟨n, hn⟩ := PyProof.Rows.sortedHeap_at (out := (sortVals (encKind (sortingHeap (h'.push (seqObj "list" vs.toArray 0)) h'.objs.size vs) bs (fun b => toPy (dat b)) tok) false vs vs).toArray) ho
  refine wpAny_bind (wpAny_holding (wpAny_call_entry slot_list_sort ⟨_, ho, rfl⟩ entry_list_sort ?_ (args_list_sort _)))
  refine wpAny_mono (list_sort_vals (s := { s with heap := h'.push (seqObj "list" vs.toArray 0), toks := tk }) (P := fun f s' => f = .done (.ret .none) ∧ s' = { s with heap := PyProof.Rows.sortedHeap (h'.push (seqObj "list" vs.toArray 0)) h'.objs.size vs (sortVals (encKind (sortingHeap (h'.push (seqObj "list" vs.toArray 0)) h'.objs.size vs) bs (fun b => toPy (dat b)) tok) false vs vs).toArray, toks := tk }) ho S hl ⟨rfl, rfl⟩) (fun f s' hf => ?_) fun _ _ e => e
  obtain ⟨rfl, rfl⟩ := hf
  refine ⟨_, rfl, wpAny_pure ⟨_, rfl, ?_⟩⟩
  refine ⟨.ref _, _, I1.laid (a := h'.objs.size) (t' := tk) (o := .lst ys) (fun b o e => ?_) (Nat.le_refl _) ⟨by omega, _, n, v1, hn⟩, rfl, q ys _ r1 (I1.hok.fresh (Nat.le_refl _))⟩
  rw [PyProof.Rows.sortedHeap_old (Nat.ne_of_lt (Heap.lt_size e)) (by rw [Heap.size_push]; exact Nat.lt_succ_of_lt (Heap.lt_size e))]
  exact Heap.get?_push_of_some _ e
end
end Pk

set_option maxRecDepth 100000
set_option maxHeartbeats 2000000
/-! a lambda of one parameter, handed to a def behind its first argument and called there -/
namespace Pk
open PySem PySem.Spec PyProof.Rows L2 LamX
/-- one parameter, a plain local; captured names and globals besides -/
structure LamP (sc scope : Scope) (a : Str) : Prop where
  fun_ : scope.kind = .function
  noC : scope.isCoroutine = false
  noG : scope.isGenerator = false
  par : scope.names.lookup a = some .local
  own : ∀ y ∈ scope.names, y.2 ≠ .cell ∧ (y.2 = .local → y.1 = a)
  caught : ∀ y ∈ scope.names, y.2 = .free → sc.names.lookup y.1 = some .cell ∨ sc.names.lookup y.1 = some .free
def lamPB (sc scope : Scope) (a : Str) : Bool :=
  decide (scope.kind = .function) && (!scope.isCoroutine && (!scope.isGenerator && (decide (scope.names.lookup a = some .local) && scope.names.all fun y => !decide (y.2 = .cell) && ((!decide (y.2 = .local) || decide (y.1 = a)) && (!decide (y.2 = .free) || (decide (sc.names.lookup y.1 = some .cell) || decide (sc.names.lookup y.1 = some .free)))))))
theorem lamP_by {sc scope : Scope} {a : Str} (h : lamPB sc scope a = true) : LamP sc scope a := by
  unfold lamPB at h
  simp only [Bool.and_eq_true, Bool.or_eq_true, Bool.not_eq_true', decide_eq_true_eq, decide_eq_false_iff_not, List.all_eq_true] at h
  obtain ⟨k, c, g, p, o⟩ := h
  refine ⟨k, c, g, p, fun y hy => ⟨(o y hy).1, fun e => ?_⟩, fun y hy e => ?_⟩
  · rcases (o y hy).2.1 with z | z
    · exact absurd e z
    · exact z
  · rcases (o y hy).2.2 with z | z
    · exact absurd e z
    · exact z
theorem LamP.has {X : Cx} {scope : Scope} {a : Str} (L : LamP X.env.scope scope a) (ok : X.Ok) : ∀ y ∈ scope.names, y.2 = .free → ∃ c, X.env.cells.lookup y.1 = some c := by
  intro y hy e
  exact ok.has _ (L.caught y hy e)
section
variable {X : Cx} {pins : List (Addr × Obj)} {σ : L2.St} {H HZ : Hp} {s s1 : Shared}
/-- the lambda's body begins: what was captured stands in the slots, the argument at j -/
theorem lamP_start {A : Around} {outer : List Env} {E : XK} {scope : Scope} {a : Str} {f c' : Addr} {h₁ : Heap} {tk j : Nat} {v : V} {u : Value} (I : Inv X pins σ H s) (L : LamP X.env.scope scope a) (hj : X.N[j]? = some a) (hN : X.N.Nodup) (rv : RelV v u)
    (e0 : Env0 X.prog X.w X.K X.mg X.base A outer s1 HZ) (hd : A.handled = none) (un : Un (frs X.stack) [] H HZ s.heap s1.heap) (hns : h₁.Ns s1.heap.objs.size fun y => ([(a, u)] : List (Str × Value)).reverse.lookup y) (kp : ∀ b o, s1.heap.get? b = some o → h₁.get? b = some o) :
    Inv (lamCx X A outer s1 HZ E scope f c') [] (σ.set j (some v)) HZ { s1 with heap := h₁, toks := tk } := by
  have caught := L.has I.ok
  have back : ∀ {y c}, (cloFrom X.env.cells scope.names []).lookup y = some c → X.env.cells.lookup y = some c := by
    intro y c e
    rcases cloFrom_mem (PySem.mem_of_lookup e) with m | ⟨m1, m2⟩
    · cases m
    · obtain ⟨c1, hc⟩ := caught _ m1 rfl
      have hc : X.env.cells.lookup y = some c1 := hc
      have : c = c1 := by
        rw [m2, hc] <;> rfl
      rw [this]
      exact hc
  have there : ∀ {y}, scope.names.lookup y = some .free → ∃ c, (cloFrom X.env.cells scope.names []).lookup y = some c := by
    intro y hl
    have my : (y, NameKind.free) ∈ scope.names := PySem.mem_of_lookup hl
    exact mem_lookup (cloFrom_has (cells := X.env.cells) (acc := []) my)
  have cells : ∀ {c : Addr} {z : Option Value}, H c = none → s.heap.IsCell c z → h₁.IsCell c z := by
    intro c z n hz
    obtain ⟨o, ho, hdt⟩ := hz
    obtain ⟨sl, q⟩ := un.any ho n (by simp)
    exact ⟨_, kp _ _ q, hdt⟩
  have noEx : ∀ b : Addr, b ∉ (lamCx X A outer s1 HZ E scope f c').ex := fun b z => by
    cases (show b ∈ ([] : List Addr) from z)
  have lj : j < σ.length := by
    rw [I.len]
    exact (List.getElem?_eq_some_iff.mp hj).1
  refine { ok := ?_, os := rfl, bare := e0.bare, base := Un.kept kp, loc := ⟨_, hns, ?_⟩, cell := ?_, free := e0.hok.fresh (Nat.le_refl _), freeC := ?_, pin := ?_, hok := e0.hok.kept kp, len := by rw [List.length_set]; exact I.len }
  · refine { mod := e0.mod, kind := L.fun_, glob := rfl, blt := rfl, above := Nat.le_refl _, inj := fun y z c e1 e2 => I.ok.inj y z c (back e1) (back e2), has := ?_, cab := ?_, hd := fun _ => hd, frames := Around.frames_deeper e0.frames, stk := .inr ⟨rfl, rfl⟩, exf := fun b z => absurd z (noEx b), bs := e0.bs, bsz := e0.bsz, noex := fun b _ _ => noEx b, exfs := fun b z => absurd z (noEx b), funs := e0.funs, frf := e0.frf }
    · intro y hy
      have hy : scope.names.lookup y = some .cell ∨ scope.names.lookup y = some .free := hy
      rcases hy with hy | hy
      · exact absurd rfl (L.own _ (PySem.mem_of_lookup hy)).1
      · exact there hy
    · intro y c z _
      cases (show false = true from z)
  · intro i y v' e1 e2 e3
    have e1 : X.N[i]? = some y := e1
    by_cases hij : i = j
    · subst hij
      rw [hj] at e1
      obtain rfl := Option.some.inj e1
      rw [List.getElem?_set_self lj] at e2
      obtain rfl := Option.some.inj (Option.some.inj e2)
      refine ⟨u, rv, .inl ⟨L.par, ?_⟩⟩
      show ([(a, u)] : List (Str × Value)).lookup a = some u
      simp [List.lookup]
    · rw [List.getElem?_set_ne (Ne.symm hij)] at e2
      have ya : y ≠ a := fun z => by
        subst z
        have hi := (List.getElem?_eq_some_iff.mp e1).1
        have hj' := (List.getElem?_eq_some_iff.mp hj).1
        rw [List.getElem?_eq_getElem hi] at e1
        rw [List.getElem?_eq_getElem hj'] at hj
        exact hij ((List.getElem_inj hN).mp ((Option.some.inj e1).trans (Option.some.inj hj).symm))
      have e3 : Vis scope y := e3
      rcases e3 with k | k | k
      · exact absurd ((L.own _ (PySem.mem_of_lookup k)).2 rfl) ya
      · exact absurd rfl (L.own _ (PySem.mem_of_lookup k)).1
      · obtain ⟨m, hn, hl⟩ := I.loc
        have vis : Vis X.env.scope y := (L.caught _ (PySem.mem_of_lookup k) rfl).elim (fun k => .inr (.inl k)) (fun k => .inr (.inr k))
        obtain ⟨w', r, q⟩ := hl i y v' e1 e2 vis
        obtain ⟨c2, h2⟩ := there k
        refine ⟨w', r, .inr ⟨.inr k, c2, h2, ?_⟩⟩
        have c1 := back h2
        rcases q with ⟨k', _⟩ | ⟨_, c3, e', z⟩
        · have k' : X.env.scope.names.lookup y = some .local := k'
          rcases L.caught _ (PySem.mem_of_lookup k) rfl with k2 | k2
          · rw [show X.env.scope.names.lookup y = _ from k2] at k'
            cases k'
          · rw [show X.env.scope.names.lookup y = _ from k2] at k'
            cases k'
        · rw [c1] at e'
          obtain rfl := Option.some.inj e'
          exact cells (I.freeC y _ c1) z
  · intro y c e
    obtain ⟨w', z⟩ := I.cell y c (back e)
    exact ⟨w', cells (I.freeC y c (back e)) z⟩
  · intro y c e
    obtain ⟨v, o, ho, hdt⟩ := I.cell y c (back e)
    exact un.free c o ho (I.freeC y c (back e)) (by simp)
  · intro q hq
    cases (show q ∈ ([] : List (Addr × Obj)) ++ [] from hq)
/-- changed(e), in the def that got the lambda: that def's context was entered at s, right behind the making -/
theorem pe_actP {CXg : CXT} {Eg : XK} {Ng : List Str} {qg : Str} {sg : Scope} {g f c' : Addr} {cdg pm ctv : Value} {params : Arguments} {body e : Expr} {scope : Scope} {k i j : Nat} {a x : Str} {ta tb : TE} {p1 p2 : Pos}
    (I : Inv X pins σ H s) (L : LamP X.env.scope scope a) (hj : X.N[j]? = some a) (hND : X.N.Nodup) (hf : s.heap.get? f = some (PySem.W.kla_obj "<lambda>" (X.env.qual ++ "<lambda>") params body scope (cloFrom X.env.cells scope.names []) pm c' ctv)) (hfn : H f = none) (hfr : f ∉ frs X.stack)
    (hbind : ∀ u : Value, bindArgs (PySem.W.kla_fn "<lambda>" (X.env.qual ++ "<lambda>") params body scope (cloFrom X.env.cells scope.names []) pm (.ref c') ctv) ⟨[u], []⟩ = pure [(a, u)])
    (hr : Room (k + 1) (X.A.deeper (envOfC qg sg s.heap.objs.size g cdg)))
    (hbody : ∀ (A : Around) (outer : List Env) (s : Shared) (H : Hp), Room k (A.deeper (lamEnv X scope s.heap.objs.size f c')) → PE (lamCx X A outer s H E0 scope f c').nox body tb)
    (ha : PE (cxOf CXg X.prog X.w X.K X.mg X.base Ng qg sg g cdg X.A X.stack s H Eg).nox e ta)
    (hN : Ng[i]? = some x) (hv : Vis sg x) (hd : (x == ("__debug__" : Str)) = false := by decide) (hcd : (x == ("__classdict__" : Str)) = false := by decide)
    (hs : starEach [e] (cxOf CXg X.prog X.w X.K X.mg X.base Ng qg sg g cdg X.A X.stack s H Eg).nox.env = (false, eval e (cxOf CXg X.prog X.w X.K X.mg X.base Ng qg sg g cdg X.A X.stack s H Eg).nox.env) :: starEach [] (cxOf CXg X.prog X.w X.K X.mg X.base Ng qg sg g cdg X.A X.stack s H Eg).nox.env := by rfl) :
    PE (cxOf CXg X.prog X.w X.K X.mg X.base Ng qg sg g cdg X.A X.stack s H Eg).nox (.Call (.Name x p1) [e] [] p2)
      (fun σZ HZ Q => σZ[i]? = some (some (.ref f)) ∧ ta σZ HZ fun v H1 => H1 c' = some (CodeO c' (X.env.qual ++ "<lambda>")) ∧ tb (σ.set j (some v)) H1 Q) := by
  refine ⟨fun pinsZ sZ σZ HZ Q IZ h => ?_⟩
  obtain ⟨hslot, ht⟩ := h
  refine wpAny_Call_Name_kw (thn ((pe_var (pos := p1) (i := i) hN hv hd hcd).run pinsZ sZ σZ HZ (fun v H1 => v = .ref f ∧ H1 = HZ) IZ ⟨.ref f, hslot, rfl, rfl⟩) fun u0 s1 ⟨v0, H1, I1, r1, q1⟩ => ?_)
  obtain ⟨rfl, rfl⟩ := q1
  obtain rfl : u0 = Value.ref f := r1
  have keepF : ∀ {s2 : Shared} {σ2 : L2.St} {H2 : Hp} {ps2 : List (Addr × Obj)}, Inv (cxOf CXg X.prog X.w X.K X.mg X.base Ng qg sg g cdg X.A X.stack s H Eg).nox ps2 σ2 H2 s2 → s2.heap.get? f = some (PySem.W.kla_obj "<lambda>" (X.env.qual ++ "<lambda>") params body scope (cloFrom X.env.cells scope.names []) pm c' ctv) := by
    intro s2 σ2 H2 ps2 I2
    exact I2.base.keep f _ hf hfn hfr (fun z => nomatch (show f ∈ ([] : List Addr) from z))
  refine PySem.W.callWith_F (first := []) ⟨_, _, _, _, keepF I1⟩ ?_ hs rfl
  rw [hs]
  show wpAny _ _ (spliced ((false, eval e _) :: backTo p2 (starEach [] _))) _ _ s1
  refine Calls.spliced_cons (thn (ha.run pinsZ s1 σZ _ _ I1 ht) fun u s2 ⟨v, H2, I2, r2, hc, q2⟩ => Calls.spliced_nil ⟨⟨_, _, _, _, keepF I2⟩, ?_⟩)
  have un : Un (frs X.stack) [] H H2 s.heap s2.heap := I2.base
  obtain ⟨⟨oc, vs, t, hoc, hdc, hvc⟩, _, _⟩ := I2.hok c' _ hc
  have rc : codeAny (model X.prog X.w) (X.A.deeper (envOfC qg sg s.heap.objs.size g cdg)) (.call (.ref f) ⟨[u], []⟩) (CR CX0 (envOfC qg sg s.heap.objs.size g cdg :: X.stack) X.prog X.w H2 s2 Q E0) s2 := by
    refine PySem.W.kla_callFunE hr.depth (keepF I2) rfl L.noC L.noG rfl ⟨c', oc, vs, t, rfl, hoc, hdc, hvc⟩ ?_
    rw [hbind u]
    refine wpAny_pure (wpAny_newFunctionEnv (fun y hy => (L.own y hy).1) (fun y hy => ?_) (fun h₁ hns hsb => ⟨I2.nolimit.fresh _ hsb, ?_⟩) L.fun_)
    · rw [List.mem_singleton.mp hy]
      exact L.par
    · show codeAny _ _ (.expr body (lamEnv X scope s2.heap.objs.size f c')) _ _
      have kp : ∀ b o, s2.heap.get? b = some o → h₁.get? b = some o := fun b o e => hsb.extBut b o (Nat.ne_of_lt (Heap.lt_size e)) (Heap.get?_push_of_some _ e)
      have J : Inv (lamCx X (X.A.deeper (envOfC qg sg s.heap.objs.size g cdg)) (envOfC qg sg s.heap.objs.size g cdg :: X.stack) s2 H2 E0 scope f c').nox [] (σ.set j (some v)) H2 { s2 with heap := h₁, toks := s2.toks + ([(a, u)] : List (Str × Value)).length } :=
        (lamP_start I L hj hND r2 I2.env0 hr.hd un hns kp).wish _
      refine PySem.W.kla_codeExpr (wpAny_mono ((hbody _ _ s2 H2 (hr.deeper _)).run [] _ _ H2 Q J q2) (fun w' s' hq => ?_) fun e' s' hq => hq.elim)
      obtain ⟨z, H', J', rv, q⟩ := hq
      exact ⟨z, H', J'.os, J'.bare, J'.base, J'.hok, rv, q⟩
  refine wpAny_call (codeAny_mono rc fun r s' hq => ?_)
  cases r with
  | error e' => exact hq.elim
  | ok fl =>
    cases fl with
    | ret z => exact I2.after hq
    | next => exact False.elim hq
    | brk => exact False.elim hq
    | cont => exact False.elim hq
end
/-- the context of the def x that gets the lambda, entered at s from X -/
abbrev zCx (X : Cx) (Ng : List Str) (x : Str) (sg : Scope) (g : Addr) (cdg : Value) (s : Shared) (H : Hp) : Cx := (cxOf CX0 X.prog X.w X.K X.mg X.base Ng x sg g cdg X.A X.stack s H E0).nox
/-- what x makes of its first argument and of the lambda's reading tl: TT; x calls the lambda by its own name pf -/
def GivesP (X : Cx) (Ng : List Str) (x : Str) (sg : Scope) (g : Addr) (cdg : Value) (bg : List Stmt) (i : Nat) (pf q : Str) (TT : V → (V → Hp → VK → Prop) → Hp → VK → Prop) : Prop :=
  ∀ (f c' : Addr) (s : Shared) (H : Hp) (Q : VK) (v1 : V) (tl : V → Hp → VK → Prop),
    (∀ (e : Expr) (ta : TE) (p1 p2 : Pos), PE (zCx X Ng x sg g cdg s H) e ta → starEach [e] (zCx X Ng x sg g cdg s H).env = (false, eval e (zCx X Ng x sg g cdg s H).env) :: starEach [] (zCx X Ng x sg g cdg s H).env →
      PE (zCx X Ng x sg g cdg s H) (.Call (.Name pf p1) [e] [] p2) (fun σZ HZ Q => σZ[i]? = some (some (.ref f)) ∧ ta σZ HZ fun v H1 => H1 c' = some (CodeO c' q) ∧ tl v H1 Q)) →
    H c' = some (CodeO c' q) → TT v1 tl H Q →
    ∃ t, PSs (zCx X Ng x sg g cdg s H) bg t ∧ t { nx := fun _ H' => Q .non H', rt := Q } (L2.start Ng [v1, .ref f]) H
def tLamP (T : List (Addr × Str)) (j : Nat) (TT : V → (V → Hp → VK → Prop) → Hp → VK → Prop) (t1 tb : TE) : TE := fun σ H Q => t1 σ H fun v1 H1 => Tabs T H1 ∧ ∀ H2, ExtN H1 H2 → Tabs T H2 → TT v1 (fun v H' Q' => tb (σ.set j (some v)) H' Q') H2 Q
section
variable {X : Cx}
/-- x(e1, lambda a: body) -/
theorem pe_lamcallP {T : List (Addr × Str)} {TT : V → (V → Hp → VK → Prop) → Hp → VK → Prop} {x a p1n pf : Str} {g c P : Addr} {k i j : Nat} {pg : Arguments} {bg : List Stmt} {sg : Scope} {fdg : FuncData} {Ng : List Str} {params : Arguments} {body e1 : Expr} {scope : Scope} {t1 tb : TE} {p lpos pos : Pos}
    (F : FunD X.K x x pg bg sg [] [] g fdg) (hb : L2.Binds X.K fdg [p1n, pf] []) (hg : Gl X x) (hm : X.mg x = some (.ref g)) (Sg : FnScope Ng [p1n, pf] sg) (hNg : Ng[i]? = some pf) (hv : Vis sg pf)
    (hG : ∀ cdg, GivesP X Ng x sg g cdg bg i pf (X.env.qual ++ "<lambda>") TT) (TB : TabB X.base X.mg c P) (hcode : X.env.code = .ref c) (hmT : (P, X.env.qual ++ "<lambda>") ∈ T) (hu : ∀ p ∈ T, p.1 = P → p.2 = X.env.qual ++ "<lambda>") (hr : Room (k + 2) X.A)
    (L : LamP X.env.scope scope a) (hj : X.N[j]? = some a) (hND : X.N.Nodup) (hdef : defaultsOf params X.env = ([], []))
    (hbind : ∀ (q : Str) (cl : List (Str × Addr)) (pm cv ctv u : Value), bindArgs (PySem.W.kla_fn "<lambda>" q params body scope cl pm cv ctv) ⟨[u], []⟩ = pure [(a, u)])
    (h1 : PE X e1 t1) (hbody : ∀ (A : Around) (outer : List Env) (s : Shared) (H : Hp) (f c' : Addr) (B : Addr), Room k (A.deeper (lamEnv X scope B f c')) → PE (lamCx X A outer s H E0 scope f c').nox body tb)
    (hs1 : starEach [e1, .Lambda params body scope lpos] X.env = (false, eval e1 X.env) :: starEach [.Lambda params body scope lpos] X.env := by rfl)
    (hdb : (x == ("__debug__" : Str)) = false := by decide) (hd : (pf == ("__debug__" : Str)) = false := by decide) (hcd : (pf == ("__classdict__" : Str)) = false := by decide) :
    PE X (.Call (.Name x p) [e1, .Lambda params body scope lpos] [] pos) (tLamP T j TT t1 tb) := by
  obtain ⟨oc, od, dV, kV, doc, pm, an, cdv, ct, osl, rfl, lk, hcdv, _, _⟩ := F.ex
  refine ⟨fun pins s σ H Q I h => ?_⟩
  refine wpAny_Call_Name_kw (ld_glob I hg hm ?_ hdb)
  refine PySem.W.callWith_K (h₀ := X.base) I.ok.mod.kin F.kp ?_ hs1 (by rfl)
  rw [hs1]
  show wpAny _ _ (spliced ((false, eval e1 X.env) :: (false, eval (.Lambda params body scope lpos) X.env) :: backTo pos (starEach [] X.env))) _ _ s
  refine Calls.spliced_cons (thn (h1.run pins s σ H _ I h) fun u1 s1 ⟨v1, H1, I1, r1, hT, q1⟩ => Calls.spliced_cons (lam_make2 I1 TB hcode hmT hu hT hdef (L.has I1.ok) fun f c' pm' ctv H2 s' I2 eN T1 hf hfn hfr hco => Calls.spliced_nil ⟨I2.kIn, ?_⟩))
  have rc : codeAny (model X.prog X.w) X.A (.call (.ref g) ⟨[u1, .ref f], []⟩) (CR CX0 X.stack X.prog X.w H2 s' Q E0) s' := by
    refine run_ofS (N := Ng) (ps := [p1n, pf]) (us := [u1, .ref f]) (vs := [v1, .ref f]) lk hcdv Sg hr I2.env0 (hb s' [u1, .ref f] I2.kIn rfl) (.cons r1 (.cons rfl .nil)) rfl fun hr' => ?_
    obtain ⟨t', ht', hq'⟩ := hG cdv f c' s' H2 Q v1 (fun v H' Q' => tb (σ.set j (some v)) H' Q') (fun e ta p1 p2 he hs => pe_actP (i := i) (k := k) I2 L hj hND hf hfn hfr (fun u => hbind _ _ _ _ _ u) hr' (fun A outer s H hr2 => hbody A outer s H f c' _ hr2) he hNg hv hd hcd hs) hco (q1 H2 eN T1)
    exact ⟨t', ht'.nox, hq'⟩
  refine wpAny_call (codeAny_mono rc fun r s2 hq => ?_)
  cases r with
  | error e' => exact hq.elim
  | ok fl =>
    cases fl with
    | ret z => exact I2.after hq
    | next => exact False.elim hq
    | brk => exact False.elim hq
    | cont => exact False.elim hq
end
end Pk

set_option maxRecDepth 100000
set_option maxHeartbeats 2000000
/-! {e}, a set of one whole number -/
namespace Pk
open PySem PySem.Spec PyProof.Rows L2
section
variable {X : Cx}
def tSet1 (w : World) (te : TE) : TE := fun σ H Q => ∀ p, H p = none → te σ (upd H p (SetO w p (fun _ => false) 0)) fun x H1 => ∃ k : Int, x = .int k ∧ H1 p = some (SetO w p (fun _ => false) 0) ∧ Q (.ref p) (upd H1 p (SetO w p (fun j => decide (j = k)) 1))
theorem pe_set1 {e : Expr} {te : TE} {pos : Pos} (hcd : PySem.W.kdsCode X.K X.env.code = true) (he : PE X e te) (hp : [e].all PySem.W.kdsPlain = true) : PE X (.Set [e] 0 pos) (tSet1 X.w te) := by
  refine ⟨fun pins s σ H Q I h => ?_⟩
  rw [arm_eval_Set]
  refine wpAny_bind (wpAny_standAt ?_)
  refine wpAny_bind (PySem.W.kds_main I.kIn hcd fun b => ?_)
  rw [PySem.W.kds_star [e] hp, List.map_map]
  unfold setDisplay
  dsimp only
  rw [if_neg (by show ¬(DisplayRoad.oneByOne == DisplayRoad.constants) = true; decide)]
  refine wpAny_bind (wpAny_newSet_raw fun led hled => ?_)
  dsimp only
  refine wpAny_bind (wpAny_holding ?_)
  rw [show (List.map _ (evalEach [e] X.env)) = [(false, eval e X.env >>= fun v => standAt pos >>= fun _ => pure v)] from rfl]
  subst hled
  have nP : H s.heap.objs.size = none := I.hok.fresh (Nat.le_refl _)
  have I1 : Inv X pins σ (upd H s.heap.objs.size (SetO X.w s.heap.objs.size (fun _ => false) 0)) { s with heap := s.heap.push { cls := .type "set", dict := none, data := .set #[] 0 (.fresh 0 0 (!X.w.params.followText "set-order")) }, toks := s.toks } :=
    I.laid (t' := s.toks) (fun b u e => Heap.get?_push_of_some _ e) (Nat.le_refl _) (setO_new (setR_fresh X.w))
  refine wpAny_bind ?_
  show wpAny _ _ (evalAll [eval e X.env >>= fun v => standAt pos >>= fun _ => pure v]) _ _ _
  refine PySem.W.kds_all pos [e] _ _ ?_
  show wpAny _ _ (eval e X.env) _ _ _
  refine thn (he.run pins _ σ _ _ I1 (h _ nP)) fun v s1 ⟨x, H1, I2, rx, k, ex, hS, q⟩ => ?_
  subst ex
  obtain ⟨tk, rfl⟩ := rx
  have R := setO_get I2 hS
  show wpAny _ _ (holding [Value.int k tk] _ >>= _) _ _ _
  refine wpAny_bind (wpAny_holding ?_)
  refine wpAny_bind ?_
  rw [List.forIn_cons]
  refine wpAny_bind (wpAny_bind ?_)
  unfold setAdd
  refine wpAny_holding ?_
  refine wpAny_bind ((intKind X.prog X.w).pyHash (intKind_is X.prog X.w k tk) ?_)
  refine setR_add_hashed (s := { s1 with toks := s1.toks + 1 }) R (by decide) fun h' sb r => ?_
  refine wpAny_pure ?_
  dsimp only
  rw [List.forIn_nil]
  refine wpAny_pure ?_
  rw [if_neg (by show ¬(DisplayRoad.oneByOne == DisplayRoad.unsure) = true; decide)]
  refine wpAny_pure ?_
  have new : SetR X.w h' s.heap.objs.size (fun j => decide (j = k)) 1 := by
    have := r
    simpa using this
  have there : ∃ u, h'.get? s.heap.objs.size = some u := by
    obtain ⟨o, _, _, _, ho, _⟩ := new
    exact ⟨o, ho⟩
  have I3 : Inv X pins σ (upd H1 s.heap.objs.size (SetO X.w s.heap.objs.size (fun j => decide (j = k)) 1)) { s1 with heap := h', toks := s1.toks + 1 } :=
    I2.write (e := s.heap.objs.size) (t' := s1.toks + 1) (by rw [hS]; trivial) (.inl rfl) (fun b u hb hu => (sb.2 b hb).trans hu) there (setO_new new)
  show wpAny _ _ (forIn (List.drop 1 [(false, eval e X.env >>= fun v => standAt pos >>= fun _ => pure v)]) PUnit.unit _ >>= fun _ => pure _) _ _ _
  refine wpAny_bind ?_
  show wpAny _ _ (forIn [] PUnit.unit _) _ _ _
  rw [List.forIn_nil]
  exact wpAny_pure (wpAny_pure (wpAny_pure ⟨.ref s.heap.objs.size, _, I3, rfl, q⟩))
end
end Pk

set_option maxRecDepth 100000
set_option maxHeartbeats 4000000
set_option pp.maxSteps 600
namespace Pk
open PySem PySem.Spec PyProof.Rows L2
def top (i : Nat) : Stmt := PySem.Challenge.pw_playsense_k55_threads.main.body.getD i (.Pass ⟨0, 0, 0, 0⟩)
abbrev s_alone : Stmt := top 2
abbrev s_thread : Stmt := top 4
abbrev s__argument_of : Stmt := top 5
abbrev s__with_place : Stmt := top 6
abbrev s__moved_on : Stmt := top 7
abbrev s__without_argument : Stmt := top 8
abbrev s__from_within : Stmt := top 9
abbrev s_told_alone : Stmt := top 10
abbrev s_seen : Stmt := top 11
abbrev s__law_cell : Stmt := top 13
abbrev s__law_digits : Stmt := top 14
abbrev s__law_draw : Stmt := top 15
abbrev s__law_box : Stmt := top 16
abbrev s__law_same : Stmt := top 17
abbrev s__law_kind : Stmt := top 18
abbrev s__law_sight : Stmt := top 19
abbrev s__law_asker_sight : Stmt := top 20
abbrev s__law_alone : Stmt := top 21
abbrev s__law_open : Stmt := top 22
abbrev s__law_at : Stmt := top 23
abbrev s__law_goes_on : Stmt := top 24
abbrev s__law_after : Stmt := top 25
abbrev s__law_reply : Stmt := top 26
abbrev s__law_play : Stmt := top 27
abbrev s__law_thread : Stmt := top 28
abbrev s__law_told : Stmt := top 29
abbrev s__law_lower : Stmt := top 30
abbrev s_law : Stmt := top 31
-- alone: slots 0 play, 1 numbers, 2 anew, 3 at, 4 number; cells ['play', 'anew']
theorem c_alone : FnScope ["play", "numbers", "anew", "at", "number"] ["play", "numbers"] (defScope s_alone) := ⟨rfl, rfl, rfl, by decide +kernel, rfl, by decide +kernel, by decide +kernel⟩
-- thread: slots 0 play, 1 n, 2 numbers, 3 number; cells []
theorem c_thread : FnScope ["play", "n", "numbers", "number"] ["play", "n"] (defScope s_thread) := ⟨rfl, rfl, rfl, by decide +kernel, rfl, by decide +kernel, by decide +kernel⟩
-- _argument_of: slots 0 play, 1 step, 2 word, 3 told, 4 back, 5 place; cells []
theorem c__argument_of : FnScope ["play", "step", "word", "told", "back", "place"] ["play", "step"] (defScope s__argument_of) := ⟨rfl, rfl, rfl, by decide +kernel, rfl, by decide +kernel, by decide +kernel⟩
-- _with_place: slots 0 move, 1 changed, 2 word, 3 told; cells []
theorem c__with_place : FnScope ["move", "changed", "word", "told"] ["move", "changed"] (defScope s__with_place) := ⟨rfl, rfl, rfl, by decide +kernel, rfl, by decide +kernel, by decide +kernel⟩
-- _moved_on: slots 0 place, 1 k, 2 by; cells []
theorem c__moved_on : FnScope ["place", "k", "by"] ["place", "k", "by"] (defScope s__moved_on) := ⟨rfl, rfl, rfl, by decide +kernel, rfl, by decide +kernel, by decide +kernel⟩
-- _without_argument: slots 0 move, 1 k, 2 place; cells ['k']
theorem c__without_argument : FnScope ["move", "k", "place"] ["move", "k"] (defScope s__without_argument) := ⟨rfl, rfl, rfl, by decide +kernel, rfl, by decide +kernel, by decide +kernel⟩
-- _from_within: slots 0 play, 1 later, 2 move, 3 back, 4 place; cells []
theorem c__from_within : FnScope ["play", "later", "move", "back", "place"] ["play"] (defScope s__from_within) := ⟨rfl, rfl, rfl, by decide +kernel, rfl, by decide +kernel, by decide +kernel⟩
-- told_alone: slots 0 play, 1 n; cells []
theorem c_told_alone : FnScope ["play", "n"] ["play", "n"] (defScope s_told_alone) := ⟨rfl, rfl, rfl, by decide +kernel, rfl, by decide +kernel, by decide +kernel⟩
-- seen: slots 0 talk, 1 k, 2 numbers, 3 number, 4 step, 5 move, 6 back; cells ['talk', 'k']
theorem c_seen : FnScope ["talk", "k", "numbers", "number", "step", "move", "back"] ["talk", "k"] (defScope s_seen) := ⟨rfl, rfl, rfl, by decide +kernel, rfl, by decide +kernel, by decide +kernel⟩
-- _law_cell: slots 0 script, 1 k; cells []
theorem c__law_cell : FnScope ["script", "k"] ["script", "k"] (defScope s__law_cell) := ⟨rfl, rfl, rfl, by decide +kernel, rfl, by decide +kernel, by decide +kernel⟩
-- _law_digits: slots 0 script, 1 first, 2 last, 3 digits, 4 k, 5 cell, 6 turn, 7 seed; cells []
theorem c__law_digits : FnScope ["script", "first", "last", "digits", "k", "cell", "turn", "seed"] ["script", "first", "last"] (defScope s__law_digits) := ⟨rfl, rfl, rfl, by decide +kernel, rfl, by decide +kernel, by decide +kernel⟩
-- _law_draw: slots 0 box, 1 many, 2 at; cells []
theorem c__law_draw : FnScope ["box", "many", "at"] ["box", "many"] (defScope s__law_draw) := ⟨rfl, rfl, rfl, by decide +kernel, rfl, by decide +kernel, by decide +kernel⟩
-- _law_box: slots 0 script, 1 first, 2 last; cells []
theorem c__law_box : FnScope ["script", "first", "last"] ["script", "first", "last"] (defScope s__law_box) := ⟨rfl, rfl, rfl, by decide +kernel, rfl, by decide +kernel, by decide +kernel⟩
-- _law_same: slots 0 actual, 1 expected, 2 k; cells []
theorem c__law_same : FnScope ["actual", "expected", "k"] ["actual", "expected"] (defScope s__law_same) := ⟨rfl, rfl, rfl, by decide +kernel, rfl, by decide +kernel, by decide +kernel⟩
-- _law_kind: slots 0 box, 1 depth, 2 budget, 3 parts, 4 k; cells []
theorem c__law_kind : FnScope ["box", "depth", "budget", "parts", "k"] ["box", "depth", "budget"] (defScope s__law_kind) := ⟨rfl, rfl, rfl, by decide +kernel, rfl, by decide +kernel, by decide +kernel⟩
-- _law_sight: slots 0 play, 1 n, 2 j; cells []
theorem c__law_sight : FnScope ["play", "n", "j"] ["play"] (defScope s__law_sight) := ⟨rfl, rfl, rfl, by decide +kernel, rfl, by decide +kernel, by decide +kernel⟩
-- _law_asker_sight: slots 0 play, 1 n, 2 j, 3 before; cells []
theorem c__law_asker_sight : FnScope ["play", "n", "j", "before"] ["play"] (defScope s__law_asker_sight) := ⟨rfl, rfl, rfl, by decide +kernel, rfl, by decide +kernel, by decide +kernel⟩
-- _law_alone: slots 0 play, 1 numbers, 2 found, 3 n, 4 back; cells []
theorem c__law_alone : FnScope ["play", "numbers", "found", "n", "back"] ["play", "numbers"] (defScope s__law_alone) := ⟨rfl, rfl, rfl, by decide +kernel, rfl, by decide +kernel, by decide +kernel⟩
-- _law_open: slots 0 play, 1 still, 2 n; cells []
theorem c__law_open : FnScope ["play", "still", "n"] ["play"] (defScope s__law_open) := ⟨rfl, rfl, rfl, by decide +kernel, rfl, by decide +kernel, by decide +kernel⟩
-- _law_at: slots 0 kind, 1 place, 2 k; cells []
theorem c__law_at : FnScope ["kind", "place", "k"] ["kind", "place"] (defScope s__law_at) := ⟨rfl, rfl, rfl, by decide +kernel, rfl, by decide +kernel, by decide +kernel⟩
-- _law_goes_on: slots 0 kind, 1 play, 2 step, 3 n, 4 move, 5 back, 6 place, 7 still; cells []
theorem c__law_goes_on : FnScope ["kind", "play", "step", "n", "move", "back", "place", "still"] ["kind", "play", "step"] (defScope s__law_goes_on) := ⟨rfl, rfl, rfl, by decide +kernel, rfl, by decide +kernel, by decide +kernel⟩
-- _law_after: slots 0 kind, 1 play, 2 found, 3 back, 4 moves, 5 place, 6 move, 7 k; cells ['kind', 'play', 'back', 'place']
theorem c__law_after : FnScope ["kind", "play", "found", "back", "moves", "place", "move", "k"] ["kind", "play"] (defScope s__law_after) := ⟨rfl, rfl, rfl, by decide +kernel, rfl, by decide +kernel, by decide +kernel⟩
-- _law_reply: slots 0 rows, 1 play, 2 numbers, 3 step; cells []
theorem c__law_reply : FnScope ["rows", "play", "numbers", "step"] ["rows", "play"] (defScope s__law_reply) := ⟨rfl, rfl, rfl, by decide +kernel, rfl, by decide +kernel, by decide +kernel⟩
-- _law_play: slots 0 box, 1 kind, 2 rows, 3 most, 4 free, 5 play, 6 turn, 7 steps, 8 step; cells []
theorem c__law_play : FnScope ["box", "kind", "rows", "most", "free", "play", "turn", "steps", "step"] ["box", "kind", "rows", "most", "free"] (defScope s__law_play) := ⟨rfl, rfl, rfl, by decide +kernel, rfl, by decide +kernel, by decide +kernel⟩
-- _law_thread: slots 0 play, 1 n, 2 found, 3 m; cells []
theorem c__law_thread : FnScope ["play", "n", "found", "m"] ["play", "n"] (defScope s__law_thread) := ⟨rfl, rfl, rfl, by decide +kernel, rfl, by decide +kernel, by decide +kernel⟩
-- _law_told: slots 0 play, 1 numbers, 2 found, 3 n, 4 move, 5 back; cells []
theorem c__law_told : FnScope ["play", "numbers", "found", "n", "move", "back"] ["play", "numbers"] (defScope s__law_told) := ⟨rfl, rfl, rfl, by decide +kernel, rfl, by decide +kernel, by decide +kernel⟩
-- _law_lower: slots 0 k, 1 move; cells []
theorem c__law_lower : FnScope ["k", "move"] ["k", "move"] (defScope s__law_lower) := ⟨rfl, rfl, rfl, by decide +kernel, rfl, by decide +kernel, by decide +kernel⟩
-- law: slots 0 script, 1 box, 2 turn, 3 kind, 4 play, 5 hidden, 6 k, 7 n, 8 numbers, 9 rest, 10 due, 11 move, 12 back; cells ['hidden', 'k']
theorem c_law : FnScope ["script", "box", "turn", "kind", "play", "hidden", "k", "n", "numbers", "rest", "due", "move", "back"] ["script"] (defScope s_law) := ⟨rfl, rfl, rfl, by decide +kernel, rfl, by decide +kernel, by decide +kernel⟩
structure Bt (mg : Str → Option Value) : Prop where
  b_enumerate : mg "enumerate" = none
  b_tuple : mg "tuple" = none
  b_range : mg "range" = none
  b_len : mg "len" = none
  b_sorted : mg "sorted" = none
  b_int : mg "int" = none
  b_isinstance : mg "isinstance" = none
  b_bool : mg "bool" = none
  b_str : mg "str" = none
  b_max : mg "max" = none
/-- a def of the text: its object, how it is bound, its name -/
structure Df (K : PySem.W.Frag) (mg : Str → Option Value) (x : Str) (st : Stmt) (ps : List Str) (f : Addr) (fd : FuncData) : Prop where
  F : FunD K x x (defArgs st) (defBody st) (defScope st) [] [] f fd
  b : Binds K fd ps []
  m : mg x = some (.ref f)
theorem Df.kp {K : PySem.W.Frag} {mg : Str → Option Value} {x : Str} {st : Stmt} {ps : List Str} {f : Addr} {fd : FuncData} (D : Df K mg x st ps f fd) : PySem.W.keepIn K (.ref f) = true := D.F.kp
theorem Df.ok {P : Program} {w : World} {K : PySem.W.Frag} {mg : Str → Option Value} {base : Heap} {x : Str} {st : Stmt} {ps : List Str} {f : Addr} {fd : FuncData} {N : List Str} {k : Nat} {sp : Sp} (D : Df K mg x st ps f fd) (S : FnScope N ps (defScope st)) (len : ∀ vs H Q E, sp vs H Q E → vs.length = ps.length)
    (hbody : ∀ (cdv : Value) (A : Around) (outer : List Env) (s : Shared) (H : Hp) (vs : List V) (Q : VK) (E : XK), Room k (A.deeper (envOfC x (defScope st) s.heap.objs.size f cdv)) → sp vs H Q E →
      ∃ t, PSs (cxOf CX0 P w K mg base N x (defScope st) f cdv A outer s H E).nox (defBody st) t ∧ t { nx := fun _ H' => Q .non H', rt := Q } (start N vs) H) : FnOk P w K mg base CX0 (k + 1) f fd ps sp :=
  D.F.ok S len fun cdv A outer s H vs Q E hr hsp => let ⟨t, h, q⟩ := hbody cdv A outer s H vs Q E hr hsp; ⟨t, h.nox, q⟩
/-- what stood stands, a new list at p besides -/
structure Nw (p : Addr) (H0 H : Hp) (xs : List V) : Prop where
  s : Same H0 H
  n : H0 p = none
  h : H p = some (.lst xs)
theorem Nw.put {p : Addr} {H0 H : Hp} {xs : List V} (w : Nw p H0 H xs) (ys : List V) : Nw p H0 (upd H p (.lst ys)) ys :=
  ⟨fun b o e => by rw [upd_ne (ne_of_none e w.n)]; exact w.s b o e, w.n, upd_same⟩
theorem Nw.app {p : Addr} {H0 H : Hp} {ds : List Int} {x : Int} (w : Nw p H0 H (ds.map V.int)) : Nw p H0 (upd H p (.lst (ds.map V.int ++ [V.int x]))) ((ds ++ [x]).map V.int) := by
  have e : (ds ++ [x]).map V.int = ds.map V.int ++ [V.int x] := by rw [List.map_append] <;> rfl
  rw [e]
  exact w.put _
theorem Nw.new {p : Addr} {H : Hp} (n : H p = none) (xs : List V) : Nw p H (upd H p (.lst xs)) xs := ⟨same_new n _, n, upd_same⟩
theorem Nw.step {p : Addr} {H0 H H1 : Hp} {xs : List V} (w : Nw p H0 H xs) (s : Same H H1) : Nw p H0 H1 xs := ⟨w.s.trans s, w.n, s _ _ w.h⟩
theorem Same.tup {K : PySem.W.Frag} {H H' : Hp} {a : Addr} {xs : List V} (e : Same H H') (h : SqT K H a xs) : SqT K H' a xs := by
  rcases h with (h | ⟨o, h⟩) | h
  · exact .inl (.inl (e _ _ h))
  · exact .inl (.inr ⟨o, e _ _ h⟩)
  · exact .inr h
theorem small6 {n : Nat} (h : n ≤ 1000000) : n < sizeLine := by rw [sizeLine_eq]; omega
theorem small6' {n : Nat} (h : n ≤ 1000000) : n ≤ sizeLine := by rw [sizeLine_eq]; omega
theorem yes_go {σ : L2.St} {H : Hp} {A B : Hp → Prop} (h : A H) : tYes σ H fun b H3 => if b = true then A H3 else B H3 := by
  show (if true = true then A H else B H)
  exact iteT h
section
variable {P : Program} {w : World} {K : PySem.W.Frag} {mg : Str → Option Value} {base : Heap}
/-! ### _law_cell -/
def spCell (K : PySem.W.Frag) : Sp := fun vs H Q _ => ∃ (a : Addr) (ns : List Int) (k : Int), vs = [.ref a, .int k] ∧ SqL K H a (ns.map V.int) ∧ 0 ≤ k ∧ ∀ i : Int, Q (.int i) H
theorem ok_cell {f : Addr} {fd : FuncData} (D : Df K mg "_law_cell" s__law_cell ["script", "k"] f fd) (B : Bt mg) : FnOk P w K mg base CX0 1 f fd ["script", "k"] (spCell K) := by
  refine D.ok c__law_cell (fun vs H Q E h => ?_) (fun cdv A outer s H vs Q E hr h => ?_)
  · obtain ⟨a, ns, k, rfl, _⟩ := h
    rfl
  obtain ⟨a, ns, k, rfl, hS, h0, q⟩ := h
  have nd := c__law_cell.nd
  refine ⟨_, (pss_cons (ps_if (pt_cmpR op_lt (pv 1) (pe_callB call_len_seq (by rfl) B.b_len PySem.boot_len (pa_cons (pv 0) pa_nil)) (nomark _)) (pss_one (ps_ret (pe_ix ix_list (pv 0) (pv 1) (fun _ _ => rfl)))) pss_nil)
  (pss_one (ps_ret pe_int))), ?_⟩
  have hl : (ns.map V.int).length = ns.length := List.length_map _
  refine ⟨_, rfl, _, rfl, a, _, rfl, .inl hS, _, _, rfl, rfl, _, rfl, ?_⟩
  refine ite2 (fun c => ?_) (fun c => ?_)
  · have c' : k < (((ns.map V.int).length : Nat) : Int) := of_decide_eq_true c
    rw [hl] at c'
    have hk : k.toNat < ns.length := by omega
    have ek : k = ((k.toNat : Nat) : Int) := by omega
    have q1 : atI (ns.map V.int) ((k.toNat : Nat) : Int) = some (.int ns[k.toNat]) := atI_nat (by rw [List.getElem?_map, List.getElem?_eq_getElem hk] <;> rfl)
    rw [← ek] at q1
    exact ⟨_, rfl, _, rfl, a, _, _, _, rfl, rfl, hS, q1, q _⟩
  · exact q _
/-! ### _law_digits -/
def spDigits (K : PySem.W.Frag) : Sp := fun vs H Q _ => ∃ (a : Addr) (ns : List Int) (lo n : Nat), vs = [.ref a, .int lo, .int ((lo : Int) + n)] ∧ SqL K H a (ns.map V.int) ∧ lo ≤ 100 ∧ n ≤ 100 ∧
  ∀ (p : Addr) (H' : Hp) (ds : List Int), Nw p H H' (ds.map V.int) → Q (.ref p) H'
theorem ok_digits {f g : Addr} {fd gd : FuncData} (D : Df K mg "_law_digits" s__law_digits ["script", "first", "last"] f fd) (B : Bt mg)
    (D__law_cell : Df K mg "_law_cell" s__law_cell ["script", "k"] g gd) : FnOk P w K mg base CX0 2 f fd ["script", "first", "last"] (spDigits K) := by
  have G__law_cell : FnOk P w K mg base CX0 1 g gd ["script", "k"] (spCell K) := ok_cell D__law_cell B
  refine D.ok c__law_digits (fun vs H Q E h => ?_) (fun cdv A outer s H vs Q E hr h => ?_)
  · obtain ⟨a, ns, lo, n, rfl, _⟩ := h
    rfl
  obtain ⟨a, ns, lo, n, rfl, hS, hlo, hn, q⟩ := h
  have nd := c__law_digits.nd
  refine ⟨_, (pss_cons (ps_set (i := 3) nd rfl (Or.inl rfl) (pe_lst pa_nil))
  (pss_cons (ps_for PassesOwn.never rfl (pi_range2 (by rfl) B.b_range (pa_cons (pv 1) (pa_cons (pv 2) pa_nil))) (pg_name (i := 4) nd rfl (Or.inl rfl)) (pss_cons (ps_set (i := 5) nd rfl (Or.inl rfl) (pe_call G__law_cell (hr.mono (by first | decide | omega)) (by rfl) D__law_cell.m D__law_cell.kp D__law_cell.b .nil pass0 (pa_cons (pv 0) (pa_cons (pv 4) pa_nil))))
  (pss_cons (ps_if (pt_cmpR op_lt (pv 5) pe_int (nomark _)) (pss_one (ps_set (i := 5) nd rfl (Or.inl rfl) (pe_op op_sub pe_int (pe_op op_mul pe_int (pv 5))))) pss_nil)
  (pss_one (ps_if (pt_cmpR op_ge (pv 5) (pe_op op_pow pe_int pe_int) (nomark _)) (pss_one (ps_for PassesOwn.never rfl (pi_range1 (by rfl) B.b_range (pa_cons pe_int pa_nil)) (pg_name (i := 6) nd rfl (Or.inl rfl)) (pss_one (ps_if (pt_cmpR op_gt (pv 5) pe_int (nomark _)) (pss_cons (ps_expr (pe_bm PySem.F.plainAttrs_list PySem.F.slot_list_append PySem.F.type_list_append mt_append (pv 3) (pa_cons (pe_op op_mod (pe_callTy call_int1 (by rfl) B.b_int (by decide +kernel) (pa_cons (pv 5) pa_nil)) pe_int) pa_nil)))
  (pss_one (ps_set (i := 5) nd rfl (Or.inl rfl) (pe_op op_fdiv (pv 5) pe_int)))) pss_nil)))) (pss_cons (ps_set (i := 7) nd rfl (Or.inl rfl) (pe_op op_mod (pe_callTy call_int1 (by rfl) B.b_int (by decide +kernel) (pa_cons (pe_op op_add (pe_op op_add (pe_op op_mul (pv 5) pe_int) (pe_op op_mul (pv 4) pe_int)) pe_int) pa_nil)) pe_int))
  (pss_one (ps_for PassesOwn.never rfl (pi_range1 (by rfl) B.b_range (pa_cons pe_int pa_nil)) (pg_name (i := 6) nd rfl (Or.inl rfl)) (pss_cons (ps_set (i := 7) nd rfl (Or.inl rfl) (pe_op op_mod (pe_callTy call_int1 (by rfl) B.b_int (by decide +kernel) (pa_cons (pe_op op_add (pe_op op_add (pe_op op_mul (pv 7) pe_int) (pe_op op_mul pe_int (pv 6))) pe_int) pa_nil)) pe_int))
  (pss_one (ps_expr (pe_bm PySem.F.plainAttrs_list PySem.F.slot_list_append PySem.F.type_list_append mt_append (pv 3) (pa_cons (pe_op op_mod (pe_callTy call_int1 (by rfl) B.b_int (by decide +kernel) (pa_cons (pe_op op_fdiv (pv 7) pe_int) pa_nil)) pe_int) pa_nil)))))))))))))
  (pss_one (ps_ret (pv 3))))), ?_⟩
  refine ⟨Nat.zero_le _, fun p np => ?_⟩
  refine ⟨_, rfl, _, rfl, _, _, rfl, ⟨by omega, by omega, by omega, by omega⟩, ?_⟩
  refine for_range (lo := (lo : Int)) (n := ((lo : Int) + n - lo).toNat) (fun i σ H' => ∃ (ds : List Int) (y4 y5 y6 y7 : Option V), σ = [some (.ref a), some (.int lo), some (.int ((lo : Int) + n)), some (.ref p), y4, y5, y6, y7] ∧ Nw p H H' (ds.map V.int) ∧ ds.length ≤ 60 * i)
    ⟨[], none, none, none, none, rfl, Nw.new np _, Nat.zero_le _⟩ ?_ ?_
  · rintro i σ H1 hi ⟨ds, y4, y5, y6, y7, rfl, hw, hd⟩
    have hi2 : i < n := by omega
    refine ⟨_, rfl, _, rfl, a, ns, (lo : Int) + i, rfl, hw.s.seq hS, by omega, fun c => ?_⟩
    refine ⟨_, rfl, _, _, rfl, rfl, _, rfl, ite2 (fun e1 => ⟨_, rfl, _, _, rfl, rfl, .inl ⟨by decide, by decide⟩, _, _, rfl, rfl, ?_⟩) (fun e1 => ?_)⟩
    all_goals
      refine ⟨_, rfl, _, _, rfl, rfl, ⟨by decide, by decide, by decide⟩, _, _, rfl, rfl, _, rfl, ite2 (fun e2 => ?_) (fun e2 => ?_)⟩
      · refine ⟨60, rfl, by decide, by decide, for_range (n := 60) (fun j σ H' => ∃ (es : List Int) (c' : Int) (y6 y7 : Option V), σ = [some (.ref a), some (.int lo), some (.int ((lo : Int) + n)), some (.ref p), some (.int ((lo : Int) + i)), some (.int c'), y6, y7] ∧ Nw p H H' (es.map V.int) ∧ es.length ≤ 60 * i + j)
          ⟨ds, _, _, _, rfl, hw, hd⟩ ?_ ?_⟩
        · rintro j σ H2 hj ⟨es, c', y6, y7, rfl, hw2, he⟩
          refine ⟨_, rfl, _, _, rfl, rfl, _, rfl, ite2 (fun e3 => ?_) (fun e3 => ⟨es, c', _, _, rfl, hw2, by omega⟩)⟩
          refine ⟨_, rfl, .inl ⟨rfl, _, SqL.of hw2.h⟩, _, rfl, .inl ⟨_, rfl, _, _, rfl, rfl, (by show (0 : Int) < 1000; decide), _, _, _, rfl, rfl, hw2.h, small6 (by rw [List.length_map]; omega), ?_⟩⟩
          refine ⟨_, rfl, _, _, rfl, rfl, ⟨by decide, by decide⟩, es ++ [_], _, _, _, rfl, hw2.app, ?_⟩
          rw [List.length_append, List.length_singleton]
          omega
        · rintro σ H2 ⟨es, c', y6, y7, rfl, hw2, he⟩
          exact ⟨es, _, _, _, _, rfl, hw2, by omega⟩
      · refine ⟨_, rfl, _, _, rfl, rfl, .inr ⟨by decide, by decide⟩, _, rfl, _, _, rfl, rfl, .inr ⟨by decide, by decide⟩, _, _, rfl, rfl, _, _, rfl, rfl, .inl ⟨_, rfl, _, _, rfl, rfl, (by show (0 : Int) < 2147483647; decide), ?_⟩⟩
        refine ⟨12, rfl, by decide, by decide, for_range (n := 12) (fun j σ H' => ∃ (es : List Int) (c' z : Int) (y6 : Option V), σ = [some (.ref a), some (.int lo), some (.int ((lo : Int) + n)), some (.ref p), some (.int ((lo : Int) + i)), some (.int c'), y6, some (.int z)] ∧ Nw p H H' (es.map V.int) ∧ es.length ≤ 60 * i + j)
          ⟨ds, _, _, _, rfl, hw, hd⟩ ?_ ?_⟩
        · rintro j σ H2 hj ⟨es, c', z, y6, rfl, hw2, he⟩
          refine ⟨_, rfl, _, _, rfl, rfl, .inr ⟨by decide, by decide⟩, _, rfl, _, _, rfl, rfl, .inl ⟨by decide, by decide⟩, _, _, rfl, rfl, _, _, rfl, rfl, .inl ⟨_, rfl, _, _, rfl, rfl, (by show (0 : Int) < 2147483647; decide), ?_⟩⟩
          refine ⟨_, rfl, .inl ⟨rfl, _, SqL.of hw2.h⟩, _, rfl, _, _, rfl, rfl, ⟨by decide, by decide⟩, .inl ⟨_, rfl, _, _, rfl, rfl, (by show (0 : Int) < 1000; decide), _, _, _, rfl, rfl, hw2.h, small6 (by rw [List.length_map]; omega), ?_⟩⟩
          refine ⟨es ++ [_], _, _, _, rfl, hw2.app, ?_⟩
          rw [List.length_append, List.length_singleton]
          omega
        · rintro σ H2 ⟨es, c', z, y6, rfl, hw2, he⟩
          exact ⟨es, _, _, _, _, rfl, hw2, by omega⟩
  · rintro σ H1 ⟨ds, y4, y5, y6, y7, rfl, hw, hd⟩
    exact ⟨_, rfl, q p H1 ds hw⟩
end

/-! ### the box -/
def BoxAt (H : Hp) (b d : Addr) : Prop := ∃ (ds : List Int) (n : Int), H b = some (.lst [.ref d, .int n]) ∧ H d = some (.lst (ds.map V.int)) ∧ d ≠ b ∧ 0 ≤ n
theorem BoxAt.lst {H : Hp} {b d : Addr} (x : BoxAt H b d) : ∃ xs, H b = some (.lst xs) := let ⟨_, _, h, _⟩ := x; ⟨_, h⟩
theorem BoxAt.dst {H : Hp} {b d : Addr} (x : BoxAt H b d) : ∃ xs, H d = some (.lst xs) := let ⟨_, _, _, h, _⟩ := x; ⟨_, h⟩
theorem BoxAt.keep {H H' : Hp} {b d : Addr} (x : BoxAt H b d) (h1 : ∀ o, H b = some o → H' b = some o) (h2 : ∀ o, H d = some o → H' d = some o) : BoxAt H' b d := let ⟨ds, n, a1, a2, a3, a4⟩ := x; ⟨ds, n, h1 _ a1, h2 _ a2, a3, a4⟩
theorem BoxAt.same {H H' : Hp} {b d : Addr} (x : BoxAt H b d) (s : Same H H') : BoxAt H' b d := x.keep (fun _ => s _ _) (fun _ => s _ _)
theorem BoxAt.other {H : Hp} {b d u : Addr} (o : HO) (x : BoxAt H b d) (hb : u ≠ b) (hd : u ≠ d) : BoxAt (upd H u o) b d := x.keep (fun _ h => by rw [upd_ne hb.symm]; exact h) (fun _ h => by rw [upd_ne hd.symm]; exact h)
theorem box_kx {H H' : Hp} {b d : Addr} (x : BoxAt H b d) (y : BoxAt H' b d) (s : SB b H H') : Kx H H' := let ⟨_, h⟩ := x.lst; let ⟨_, h'⟩ := y.lst; sb_kx s h h'
section
variable {P : Program} {w : World} {K : PySem.W.Frag} {mg : Str → Option Value} {base : Heap}
def spDraw : Sp := fun vs H Q _ => ∃ (b d : Addr) (m : Int), vs = [.ref b, .int m] ∧ BoxAt H b d ∧ 0 < m ∧ ∀ (r : Int) (H' : Hp), 0 ≤ r → r < m → BoxAt H' b d → SB b H H' → Q (.int r) H'
theorem ok_draw {f : Addr} {fd : FuncData} (D : Df K mg "_law_draw" s__law_draw ["box", "many"] f fd) (B : Bt mg) : FnOk P w K mg base CX0 1 f fd ["box", "many"] spDraw := by
  refine D.ok c__law_draw (fun vs H Q E h => ?_) (fun cdv A outer s H vs Q E hr h => ?_)
  · obtain ⟨b, d, m, rfl, _⟩ := h
    rfl
  obtain ⟨b, d, m, rfl, ⟨ds, n, hb, hd, hdb, hn⟩, hm, q⟩ := h
  have nd := c__law_draw.nd
  refine ⟨_, (pss_cons (ps_set (i := 2) nd rfl (Or.inl rfl) (pe_ix ix_list (pv 0) pe_int (fun _ _ => rfl)))
  (pss_cons (ps_asg (pe_op op_add (pv 2) pe_int) (pg_sub (pv 0) pe_int set_list))
  (pss_cons (ps_if (pt_cmpR op_lt (pv 2) (pe_callB call_len_seq (by rfl) B.b_len PySem.boot_len (pa_cons (pe_ix ix_list (pv 0) pe_int (fun _ _ => rfl)) pa_nil)) (nomark _)) (pss_one (ps_ret (pe_op op_mod (pe_callTy call_int1 (by rfl) B.b_int (by decide +kernel) (pa_cons (pe_ix ix_list (pe_ix ix_list (pv 0) pe_int (fun _ _ => rfl)) (pv 2) (fun _ _ => rfl)) pa_nil)) (pv 1)))) pss_nil)
  (pss_one (ps_ret pe_int))))), ?_⟩
  refine ⟨_, rfl, b, _, 1, _, rfl, rfl, SqL.of hb, rfl, ?_⟩
  refine ⟨_, rfl, _, _, rfl, rfl, _, rfl, b, _, 1, 1, rfl, rfl, hb, rfl, ?_⟩
  have hb' : (upd H b (.lst [.ref d, .int (n + 1)])) b = some (.lst [.ref d, .int (n + 1)]) := upd_same
  have hd' : (upd H b (.lst [.ref d, .int (n + 1)])) d = some (.lst (ds.map V.int)) := by rw [upd_ne hdb]; exact hd
  have hB : BoxAt (upd H b (.lst [.ref d, .int (n + 1)])) b d := ⟨ds, n + 1, hb', hd', hdb, by omega⟩
  refine ⟨_, rfl, _, rfl, b, _, 0, _, rfl, rfl, SqL.of hb', rfl, d, _, rfl, .inl (SqL.of hd'), _, _, rfl, rfl, _, rfl, ite2 (fun c => ?_) (fun c => ?_)⟩
  · have c' : n < (((ds.map V.int).length : Nat) : Int) := of_decide_eq_true c
    rw [List.length_map] at c'
    have hk : n.toNat < ds.length := by omega
    have q1 : atI (ds.map V.int) ((n.toNat : Nat) : Int) = some (.int ds[n.toNat]) := atI_nat (by rw [List.getElem?_map, List.getElem?_eq_getElem hk] <;> rfl)
    have ek : ((n.toNat : Nat) : Int) = n := by omega
    rw [ek] at q1
    refine ⟨_, rfl, b, _, 0, _, rfl, rfl, SqL.of hb', rfl, _, rfl, d, _, _, _, rfl, rfl, SqL.of hd', q1, .inl ⟨_, rfl, _, rfl, _, _, rfl, rfl, hm, ?_⟩⟩
    exact q _ _ (Int.emod_nonneg _ (by omega)) (Int.emod_lt_of_pos _ hm) hB (sb_upd _)
  · exact q 0 _ (Int.le_refl _) hm hB (sb_upd _)
def spBox (K : PySem.W.Frag) : Sp := fun vs H Q _ => ∃ (a : Addr) (ns : List Int) (lo n : Nat), vs = [.ref a, .int lo, .int ((lo : Int) + n)] ∧ SqL K H a (ns.map V.int) ∧ lo ≤ 100 ∧ n ≤ 100 ∧
  ∀ (p d : Addr) (H' : Hp), Same H H' → H p = none → H d = none → BoxAt H' p d → Q (.ref p) H'
theorem ok_box {f g e : Addr} {fd gd ed : FuncData} (D : Df K mg "_law_box" s__law_box ["script", "first", "last"] f fd) (D__law_digits : Df K mg "_law_digits" s__law_digits ["script", "first", "last"] g gd) (D__law_cell : Df K mg "_law_cell" s__law_cell ["script", "k"] e ed) (B : Bt mg) :
    FnOk P w K mg base CX0 3 f fd ["script", "first", "last"] (spBox K) := by
  have G__law_digits : FnOk P w K mg base CX0 2 g gd ["script", "first", "last"] (spDigits K) := ok_digits D__law_digits B D__law_cell
  refine D.ok c__law_box (fun vs H Q E h => ?_) (fun cdv A outer s H vs Q E hr h => ?_)
  · obtain ⟨a, ns, lo, n, rfl, _⟩ := h
    rfl
  obtain ⟨a, ns, lo, n, rfl, hS, hlo, hn, q⟩ := h
  have nd := c__law_box.nd
  refine ⟨_, (pss_one (ps_ret (pe_lst (pa_cons (pe_call G__law_digits (hr.mono (by first | decide | omega)) (by rfl) D__law_digits.m D__law_digits.kp D__law_digits.b .nil pass0 (pa_cons (pv 0) (pa_cons (pv 1) (pa_cons (pv 2) pa_nil)))) (pa_cons pe_int pa_nil))))), ?_⟩
  refine ⟨_, rfl, _, rfl, _, rfl, a, ns, lo, n, rfl, hS, hlo, hn, fun p H1 ds hw => ⟨(by show 2 ≤ sizeLine; decide), fun r hr' => ?_⟩⟩
  have hne : p ≠ r := ne_of_none hw.h hr'
  have s1 : Same H1 (upd H1 r (.lst [.ref p, .int 0])) := same_new hr' _
  exact q r p _ (hw.s.trans s1) (hw.s.free hr') hw.n ⟨ds, 0, upd_same, s1 _ _ hw.h, hne, Int.le_refl _⟩
end
/-! ### isinstance -/
def tyD : D → String
  | .at .non => "NoneType"
  | .at (.bl _) => "bool"
  | .at (.int _) => "int"
  | .at _ => "str"
  | .lst => "list"
  | .tup _ => "tuple"
def isTup : D → Bool
  | .tup _ => true
  | _ => false
def isBool : D → Bool
  | .at (.bl _) => true
  | _ => false
def isInt : D → Bool
  | .at (.int _) => true
  | .at (.bl _) => true
  | _ => false
def isStr : D → Bool
  | .at .non => false
  | .at (.bl _) => false
  | .at (.int _) => false
  | .at _ => true
  | _ => false
theorem tup_ty {K : PySem.W.Frag} {H : Hp} {a : Addr} {xs : List V} (h : TupAt K H a xs) : TyX K H (.ref a) (.type "tuple") := by
  rcases h with h | ⟨o, its, n, h, c, _⟩
  · exact .base (.tup h)
  · exact .kTuple h c
theorem rep_ty {K : PySem.W.Frag} {H : Hp} {x : V} {d : D} (r : Rep K H x d) : TyX K H x (.type (tyD d)) := by
  cases r with
  | lst h => exact .base (.lst h)
  | tup h _ => exact tup_ty h
  | «at» h =>
    cases x with
    | non => exact .base .non
    | bl b => exact .base (.bl b)
    | int i => exact .base (.int i)
    | str s => exact .base (.str s)
    | byt _ => cases h
    | flt _ => cases h
    | ref _ => cases h
    | ty _ => cases h
theorem kit_tup (d : D) : kitB (tyD d) "tuple" = some (isTup d) := by
  have h_NoneType : kitB "NoneType" "tuple" = some false := by decide +kernel
  have h_bool : kitB "bool" "tuple" = some false := by decide +kernel
  have h_int : kitB "int" "tuple" = some false := by decide +kernel
  have h_str : kitB "str" "tuple" = some false := by decide +kernel
  have h_list : kitB "list" "tuple" = some false := by decide +kernel
  have h_tuple : kitB "tuple" "tuple" = some true := by decide +kernel
  cases d with
  | tup _ => exact h_tuple
  | lst => exact h_list
  | «at» v =>
    cases v with
    | non => exact h_NoneType
    | bl _ => exact h_bool
    | int _ => exact h_int
    | _ => exact h_str
theorem kit_bool (d : D) : kitB (tyD d) "bool" = some (isBool d) := by
  have h_NoneType : kitB "NoneType" "bool" = some false := by decide +kernel
  have h_bool : kitB "bool" "bool" = some true := by decide +kernel
  have h_int : kitB "int" "bool" = some false := by decide +kernel
  have h_str : kitB "str" "bool" = some false := by decide +kernel
  have h_list : kitB "list" "bool" = some false := by decide +kernel
  have h_tuple : kitB "tuple" "bool" = some false := by decide +kernel
  cases d with
  | tup _ => exact h_tuple
  | lst => exact h_list
  | «at» v =>
    cases v with
    | non => exact h_NoneType
    | bl _ => exact h_bool
    | int _ => exact h_int
    | _ => exact h_str
theorem kit_int (d : D) : kitB (tyD d) "int" = some (isInt d) := by
  have h_NoneType : kitB "NoneType" "int" = some false := by decide +kernel
  have h_bool : kitB "bool" "int" = some true := by decide +kernel
  have h_int : kitB "int" "int" = some true := by decide +kernel
  have h_str : kitB "str" "int" = some false := by decide +kernel
  have h_list : kitB "list" "int" = some false := by decide +kernel
  have h_tuple : kitB "tuple" "int" = some false := by decide +kernel
  cases d with
  | tup _ => exact h_tuple
  | lst => exact h_list
  | «at» v =>
    cases v with
    | non => exact h_NoneType
    | bl _ => exact h_bool
    | int _ => exact h_int
    | _ => exact h_str
theorem kit_str (d : D) : kitB (tyD d) "str" = some (isStr d) := by
  have h_NoneType : kitB "NoneType" "str" = some false := by decide +kernel
  have h_bool : kitB "bool" "str" = some false := by decide +kernel
  have h_int : kitB "int" "str" = some false := by decide +kernel
  have h_str : kitB "str" "str" = some true := by decide +kernel
  have h_list : kitB "list" "str" = some false := by decide +kernel
  have h_tuple : kitB "tuple" "str" = some false := by decide +kernel
  cases d with
  | tup _ => exact h_tuple
  | lst => exact h_list
  | «at» v =>
    cases v with
    | non => exact h_NoneType
    | bl _ => exact h_bool
    | int _ => exact h_int
    | _ => exact h_str
theorem isi {K : PySem.W.Frag} {H : Hp} {x : V} {d : D} {T : String} {b : Bool} {Q : VK} (r : Rep K H x d) (h : kitB (tyD d) T = some b) (q : Q (.bl b) H) : rIsi K [x, .ty T] H Q :=
  ⟨x, .ty T, .type (tyD d), .type T, b, rfl, .ty T, rep_ty r, kit_ty h, q⟩
/-! ### data without lists -/
mutual
def noL : D → Bool
  | .tup ts => noLs ts
  | .lst => false
  | .at _ => true
def noLs : List D → Bool
  | [] => true
  | t :: r => noL t && noLs r
end
theorem noL_mem : ∀ {l : List D}, noLs l = true → ∀ {d : D}, d ∈ l → noL d = true
  | t :: r, hk, d, h => by
    have hk' : (noL t && noLs r) = true := hk
    rw [Bool.and_eq_true] at hk'
    rcases List.mem_cons.mp h with e | h
    · rw [e]
      exact hk'.1
    · exact noL_mem hk'.2 h
/-! ### _law_same -/
section
variable {P : Program} {w : World} {K : PySem.W.Frag} {mg : Str → Option Value} {base : Heap}
def spSame (K : PySem.W.Frag) (n : Nat) : Sp := fun vs H Q _ => ∃ (x y : V) (d e : D), vs = [x, y] ∧ Rep K H x d ∧ Rep K H y e ∧ noL e = true ∧ dep e < n ∧ szs [e] ≤ 1000000 ∧ ∀ r : Bool, (r = true ↔ d = e) → Q (.bl r) H
theorem ok_same0 {f : Addr} {fd : FuncData} : FnOk P w K mg base CX0 0 f fd ["actual", "expected"] (spSame K 0) := by
  have no : ∀ vs H Q E, ¬ spSame K 0 vs H Q E := fun vs H Q E h => by
    obtain ⟨x, y, d, e, _, _, _, _, h1, _⟩ := h
    omega
  exact ⟨fun vs H Q E h => absurd h (no vs H Q E), fun A outer s H args us vs Q E _ _ _ _ h => absurd h (no vs H Q E)⟩
theorem ok_same {f : Addr} {fd : FuncData} (D__law_same : Df K mg "_law_same" s__law_same ["actual", "expected"] f fd) (B : Bt mg) : ∀ n : Nat, FnOk P w K mg base CX0 n f fd ["actual", "expected"] (spSame K n)
  | 0 => ok_same0
  | n + 1 => by
    have G__law_same := ok_same D__law_same B n
    refine D__law_same.ok c__law_same (fun vs H Q E h => ?_) (fun cdv A outer s H vs Q E hr h => ?_)
    · obtain ⟨x, y, d, e, rfl, _⟩ := h
      rfl
    obtain ⟨x, y, d, e, rfl, rx, ry, hnl, hdp, hsz, q⟩ := h
    have nd := c__law_same.nd
    refine ⟨_, (pss_cons (ps_if (pt_val (pe_callB call_isi (by rfl) B.b_isinstance (by decide +kernel) (pa_cons (pv 1) (pa_cons (pe_bltn (v := .ty "tuple") (by rfl) B.b_tuple (by decide +kernel) rfl) pa_nil)))) (pss_cons (ps_if (PW.pt (pw_or (pt_not (pt_val (pe_callB call_isi (by rfl) B.b_isinstance (by decide +kernel) (pa_cons (pv 0) (pa_cons (pe_bltn (v := .ty "tuple") (by rfl) B.b_tuple (by decide +kernel) rfl) pa_nil))))) (pw_or1 (pt_cmpR op_ne (pe_callB call_len_seq (by rfl) B.b_len PySem.boot_len (pa_cons (pv 0) pa_nil)) (pe_callB call_len_seq (by rfl) B.b_len PySem.boot_len (pa_cons (pv 1) pa_nil)) (nomark _))))) (pss_one (ps_ret pe_bl)) pss_nil)
  (pss_cons (ps_for PassesOwn.never rfl (pi_range1 (by rfl) B.b_range (pa_cons (pe_callB call_len_seq (by rfl) B.b_len PySem.boot_len (pa_cons (pv 1) pa_nil)) pa_nil)) (pg_name (i := 2) nd rfl (Or.inl rfl)) (pss_one (ps_if (pt_not (pt_val (pe_call G__law_same hr (by rfl) D__law_same.m D__law_same.kp D__law_same.b .nil pass0 (pa_cons (pe_ix ix_tup (pv 0) (pv 2) (fun _ _ => rfl)) (pa_cons (pe_ix ix_tup (pv 1) (pv 2) (fun _ _ => rfl)) pa_nil))))) (pss_one (ps_ret pe_bl)) pss_nil)))
  (pss_one (ps_ret pe_bl)))) pss_nil)
  (pss_cons (ps_if (pt_cmpR op_isN (pv 1) pe_non (nomark _)) (pss_one (ps_ret (pe_cmpR op_isN (pv 0) pe_non (nomark _)))) pss_nil)
  (pss_cons (ps_if (pt_val (pe_callB call_isi (by rfl) B.b_isinstance (by decide +kernel) (pa_cons (pv 1) (pa_cons (pe_bltn (v := .ty "bool") (by rfl) B.b_bool (by decide +kernel) rfl) pa_nil)))) (pss_one (ps_ret (pe_and (pe_callB call_isi (by rfl) B.b_isinstance (by decide +kernel) (pa_cons (pv 0) (pa_cons (pe_bltn (v := .ty "bool") (by rfl) B.b_bool (by decide +kernel) rfl) pa_nil))) (pe_one (pe_cmpR op_eq (pv 0) (pv 1) (nomark _)))))) pss_nil)
  (pss_cons (ps_if (pt_val (pe_callB call_isi (by rfl) B.b_isinstance (by decide +kernel) (pa_cons (pv 1) (pa_cons (pe_bltn (v := .ty "int") (by rfl) B.b_int (by decide +kernel) rfl) pa_nil)))) (pss_one (ps_ret (pe_and (pe_callB call_isi (by rfl) B.b_isinstance (by decide +kernel) (pa_cons (pv 0) (pa_cons (pe_bltn (v := .ty "int") (by rfl) B.b_int (by decide +kernel) rfl) pa_nil))) (pe_and (pe_not (pe_callB call_isi (by rfl) B.b_isinstance (by decide +kernel) (pa_cons (pv 0) (pa_cons (pe_bltn (v := .ty "bool") (by rfl) B.b_bool (by decide +kernel) rfl) pa_nil)))) (pe_one (pe_cmpR op_eq (pv 0) (pv 1) (nomark _))))))) pss_nil)
  (pss_one (ps_ret (pe_and (pe_callB call_isi (by rfl) B.b_isinstance (by decide +kernel) (pa_cons (pv 0) (pa_cons (pe_bltn (v := .ty "str") (by rfl) B.b_str (by decide +kernel) rfl) pa_nil))) (pe_one (pe_cmpR op_eq (pv 0) (pv 1) (nomark _)))))))))), ?_⟩
    refine ⟨y, rfl, _, _, _, _, _, rfl, .ty _, rep_ty ry, kit_ty (kit_tup _), ⟨_, rfl, ?_⟩⟩
    cases e with
    | lst => cases hnl
    | tup ts =>
      refine iteT ?_
      refine ⟨x, rfl, _, _, _, _, _, rfl, .ty _, rep_ty rx, kit_ty (kit_tup _), ⟨_, rfl, ?_⟩⟩
      obtain ⟨b, ys, rfl, hy, ry'⟩ := ry.inv
      have hts : ts.length ≤ 1000000 := by
        have h1 := len_szs ts
        have h2 : szs ts + 1 + 0 ≤ 1000000 := hsz
        omega
      have lts : (ts.length : Int) ≤ 1000000 := by omega
      cases d with
      | lst => exact iteT (q false ⟨fun z => (nomatch z), fun z => (nomatch z)⟩)
      | «at» v => exact iteT (q false ⟨fun z => (nomatch z), fun z => (nomatch z)⟩)
      | tup us =>
        obtain ⟨a, xs, rfl, hx, rx'⟩ := rx.inv
        have lx := rx'.length
        have ly := ry'.length
        refine iteF ?_
        refine ⟨_, rfl, a, xs, rfl, .inr (hx.sq), _, rfl, b, ys, rfl, .inr (hy.sq), rfl, _, rfl, ite2 (fun c => ?_) (fun c => ?_)⟩
        · refine q false ⟨fun z => (nomatch z), fun z => ?_⟩
          cases z
          rw [lx, ly, decide_eq_true rfl] at c
          cases c
        · have el : xs.length = ys.length := by
            by_cases z : V.int ((xs.length : Nat) : Int) = V.int ((ys.length : Nat) : Int)
            · exact Int.ofNat.inj (V.int.inj z)
            · rw [decide_eq_false z] at c
              exact absurd rfl c
          refine ⟨_, rfl, b, ys, rfl, .inr (hy.sq), _, rfl, by omega, by omega, for_range (n := ((ys.length : Nat) : Int).toNat) (fun i σ H' => H' = H ∧ us.take i = ts.take i ∧ ∃ y2, σ = [some (.ref a), some (.ref b), y2])
            ⟨rfl, rfl, _, rfl⟩ ?_ ?_⟩
          · rintro i σ H' hi ⟨rfl, ht, y2, rfl⟩
            have hi' : i < ys.length := by omega
            have iy : ys[i]? = some ys[i] := List.getElem?_eq_getElem hi'
            have ix : xs[i]? = some (xs[i]'(by omega)) := List.getElem?_eq_getElem (by omega)
            obtain ⟨du, hdu, ru⟩ := rx'.get ix
            obtain ⟨dt, hdt, rt⟩ := ry'.get iy
            have mt : dt ∈ ts := List.mem_of_getElem? hdt
            have ez : (0 : Int) + (i : Nat) = ((i : Nat) : Int) := by omega
            have ax : atI xs ((0 : Int) + (i : Nat)) = some (xs[i]'(by omega)) := by rw [ez]; exact atI_nat ix
            have ay : atI ys ((0 : Int) + (i : Nat)) = some ys[i] := by rw [ez]; exact atI_nat iy
            have z1 := dep_mem mt
            have z2 := sz_mem mt
            have z3 : deps ts < n + 1 := hdp
            have z4 : szs ts + 1 + 0 ≤ 1000000 := hsz
            refine ⟨_, rfl, _, rfl, a, xs, _, _, rfl, rfl, hx.sq, ax, _, rfl, _, rfl, b, ys, _, _, rfl, rfl, hy.sq, ay, _, _, du, dt, rfl, ru, rt, noL_mem hnl mt, by omega, by show sz dt + 0 ≤ 1000000; omega, fun r hr => ⟨_, rfl, ?_⟩⟩
            cases r with
            | true =>
              refine iteF ⟨rfl, ?_, _, rfl⟩
              rw [List.take_add_one, List.take_add_one, hdu, hdt, ht, hr.mp rfl]
            | false =>
              refine iteT (q false ⟨fun z => (nomatch z), fun z => ?_⟩)
              cases z
              rw [hdu] at hdt
              cases hdt
              exact hr.mpr rfl
          · rintro σ H' ⟨rfl, ht, y2, rfl⟩
            refine q true ⟨fun _ => ?_, fun _ => rfl⟩
            have e1 : us.take ((ys.length : Nat) : Int).toNat = us := List.take_of_length_le (by omega)
            have e2 : ts.take ((ys.length : Nat) : Int).toNat = ts := List.take_of_length_le (by omega)
            rw [← e1, ← e2, ht]
    | «at» v =>
      obtain ⟨rfl, hf⟩ := ry.inva
      refine iteF ?_
      refine ⟨_, rfl, rfl, _, rfl, ite2 (fun c => ?_) (fun c => ?_)⟩
      · have ev : y = .non := of_decide_eq_true c
        subst ev
        refine ⟨_, rfl, rfl, ?_⟩
        refine q _ ⟨fun z => ?_, fun z => ?_⟩
        · have ex : x = .non := of_decide_eq_true z
          subst ex
          cases rx
          rfl
        · subst z
          obtain ⟨rfl, _⟩ := rx.inva
          exact decide_eq_true rfl
      have hv : y ≠ .non := fun z => c (decide_eq_true z)
      refine ⟨y, rfl, _, _, _, _, _, rfl, .ty _, rep_ty ry, kit_ty (kit_bool _), ⟨_, rfl, ?_⟩⟩
      cases y with
      | non => exact absurd rfl hv
      | byt _ => cases hf
      | flt _ => cases hf
      | ref _ => cases hf
      | ty _ => cases hf
      | bl b =>
        refine iteT ⟨x, rfl, _, _, _, _, _, rfl, .ty _, rep_ty rx, kit_ty (kit_bool _), ⟨_, rfl, ?_⟩⟩
        cases d with
        | tup _ => exact iteF (q false ⟨fun z => (nomatch z), fun z => (nomatch z)⟩)
        | lst => exact iteF (q false ⟨fun z => (nomatch z), fun z => (nomatch z)⟩)
        | «at» v =>
          obtain ⟨rfl, _⟩ := rx.inva
          cases x with
          | bl b2 =>
            refine iteT ⟨_, rfl, _, rfl, rfl, q _ ⟨fun z => ?_, fun z => ?_⟩⟩
            · rw [of_decide_eq_true z]
            · cases z
              exact decide_eq_true rfl
          | _ => exact iteF (q false ⟨fun z => (nomatch z), fun z => (nomatch z)⟩)
      | int i =>
        refine iteF ⟨_, rfl, _, _, _, _, _, rfl, .ty _, rep_ty ry, kit_ty (kit_int _), ⟨_, rfl, iteT ⟨x, rfl, _, _, _, _, _, rfl, .ty _, rep_ty rx, kit_ty (kit_int _), ⟨_, rfl, ?_⟩⟩⟩⟩
        cases d with
        | tup _ => exact iteF (q false ⟨fun z => (nomatch z), fun z => (nomatch z)⟩)
        | lst => exact iteF (q false ⟨fun z => (nomatch z), fun z => (nomatch z)⟩)
        | «at» v =>
          obtain ⟨rfl, _⟩ := rx.inva
          cases x with
          | bl b2 => exact iteT ⟨_, rfl, _, _, _, _, _, rfl, .ty _, rep_ty rx, kit_ty (kit_bool _), ⟨_, rfl, ⟨_, rfl, iteF (q false ⟨fun z => (nomatch z), fun z => (nomatch z)⟩)⟩⟩⟩
          | int i2 =>
            refine iteT ⟨_, rfl, _, _, _, _, _, rfl, .ty _, rep_ty rx, kit_ty (kit_bool _), ⟨_, rfl, ⟨_, rfl, iteT ?_⟩⟩⟩
            refine ⟨_, rfl, _, rfl, rfl, q _ ⟨fun z => ?_, fun z => ?_⟩⟩
            · rw [of_decide_eq_true z]
            · cases z
              exact decide_eq_true rfl
          | _ => exact iteF (q false ⟨fun z => (nomatch z), fun z => (nomatch z)⟩)
      | str z =>
        refine iteF ⟨_, rfl, _, _, _, _, _, rfl, .ty _, rep_ty ry, kit_ty (kit_int _), ⟨_, rfl, iteF ⟨x, rfl, _, _, _, _, _, rfl, .ty _, rep_ty rx, kit_ty (kit_str _), ⟨_, rfl, ?_⟩⟩⟩⟩
        cases d with
        | tup _ => exact iteF (q false ⟨fun z => (nomatch z), fun z => (nomatch z)⟩)
        | lst => exact iteF (q false ⟨fun z => (nomatch z), fun z => (nomatch z)⟩)
        | «at» v =>
          obtain ⟨rfl, _⟩ := rx.inva
          cases x with
          | str b2 =>
            refine iteT ⟨_, rfl, _, rfl, rfl, q _ ⟨fun z => ?_, fun z => ?_⟩⟩
            · rw [of_decide_eq_true z]
            · cases z
              exact decide_eq_true rfl
          | byt _ => cases rx with | «at» hh => cases hh
          | flt _ => cases rx with | «at» hh => cases hh
          | ref _ => cases rx with | «at» hh => cases hh
          | ty _ => cases rx with | «at» hh => cases hh
          | _ => exact iteF (q false ⟨fun z => (nomatch z), fun z => (nomatch z)⟩)
end
end Pk

set_option maxRecDepth 100000
set_option maxHeartbeats 4000000
set_option pp.maxSteps 600
namespace Pk
open PySem PySem.Spec PyProof.Rows L2
theorem fn_none {P : Program} {w : World} {K : PySem.W.Frag} {mg : Str → Option Value} {base : Heap} {f : Addr} {fd : FuncData} {ps : List Str} {sp : Sp} (no : ∀ vs H Q E, ¬ sp vs H Q E) : FnOk P w K mg base CX0 0 f fd ps sp :=
  ⟨fun vs H Q E h => absurd h (no vs H Q E), fun A outer s H args us vs Q E _ _ _ _ h => absurd h (no vs H Q E)⟩
/-! ### _law_kind -/
section
variable {P : Program} {w : World} {K : PySem.W.Frag} {mg : Str → Option Value} {base : Heap}
/-- all but what stands at b and at u is as it was -/
def SB2 (b u : Addr) (H H' : Hp) : Prop := ∀ q o, q ≠ b → q ≠ u → H q = some o → H' q = some o
def spKind (K : PySem.W.Frag) (n : Nat) : Sp := fun vs H Q _ => ∃ (b c u : Addr) (dp : Int) (g : Nat), vs = [.ref b, .int dp, .ref u] ∧ BoxAt H b c ∧ H u = some (.lst [.int g]) ∧ 0 ≤ dp ∧ dp < n ∧ g ≤ 100 ∧ b ≠ u ∧ c ≠ u ∧
  ∀ (v : V) (H' : Hp) (d : D) (g' : Nat), Rep K H' v d → isK d = true → (dep d : Int) ≤ dp → sz d + g' ≤ g + 1 → H' u = some (.lst [.int g']) → BoxAt H' b c → SB2 b u H H' → Q v H'
theorem ok_kind0 {f : Addr} {fd : FuncData} : FnOk P w K mg base CX0 0 f fd ["box", "depth", "budget"] (spKind K 0) := by
  have no : ∀ vs H Q E, ¬ spKind K 0 vs H Q E := fun vs H Q E h => by
    obtain ⟨b, c, u, dp, g, _, _, _, h0, h1, _⟩ := h
    omega
  exact ⟨fun vs H Q E h => absurd h (no vs H Q E), fun A outer s H args us vs Q E _ _ _ _ h => absurd h (no vs H Q E)⟩
theorem sb2_kx {b u d : Addr} {H H' : Hp} (x : BoxAt H b d) (y : BoxAt H' b d) {us vs : List V} (hu : H u = some (.lst us)) (hu' : H' u = some (.lst vs)) (s : SB2 b u H H') : Kx H H' := by
  obtain ⟨bs, hb⟩ := x.lst
  obtain ⟨bs', hb'⟩ := y.lst
  refine ⟨fun a zs e => s _ _ (ne_of e hb (by intro q; cases q)) (ne_of e hu (by intro q; cases q)) e, fun a zs e => ?_⟩
  by_cases ha : a = b
  · subst ha
    exact ⟨bs', hb'⟩
  · by_cases ha' : a = u
    · subst ha'
      exact ⟨vs, hu'⟩
    · exact ⟨zs, s _ _ ha ha' e⟩
theorem ok_kind {f e : Addr} {fd ed : FuncData} (D__law_kind : Df K mg "_law_kind" s__law_kind ["box", "depth", "budget"] f fd) (D__law_draw : Df K mg "_law_draw" s__law_draw ["box", "many"] e ed) (B : Bt mg) :
    ∀ n : Nat, FnOk P w K mg base CX0 (n + 1) f fd ["box", "depth", "budget"] (spKind K n)
  | 0 => (ok_kind0 (f := f) (fd := fd)).mono (by omega)
  | n + 1 => by
    have G__law_kind := ok_kind D__law_kind D__law_draw B n
    have G__law_draw : FnOk P w K mg base CX0 1 e ed ["box", "many"] spDraw := ok_draw D__law_draw B
    refine D__law_kind.ok c__law_kind (fun vs H Q E h => ?_) (fun cdv A outer s H vs Q E hr h => ?_)
    · obtain ⟨b, c, u, dp, g, rfl, _⟩ := h
      rfl
    obtain ⟨b, c, u, dp, g, rfl, hB, hu, h0, h1, hg, hbu, hcu, q⟩ := h
    have nd := c__law_kind.nd
    refine ⟨_, (pss_cons (ps_set (i := 3) nd rfl (Or.inl rfl) (pe_lst pa_nil))
  (pss_cons (ps_if (pt_cmpR op_gt (pv 1) pe_int (nomark _)) (pss_one (ps_for PassesOwn.never rfl (pi_range1 (by rfl) B.b_range (pa_cons (pe_call G__law_draw (hr.mono (by first | decide | omega)) (by rfl) D__law_draw.m D__law_draw.kp D__law_draw.b .nil pass0 (pa_cons (pv 0) (pa_cons pe_int pa_nil))) pa_nil)) (pg_name (i := 4) nd rfl (Or.inl rfl)) (pss_one (ps_if (pt_cmpR op_gt (pe_ix ix_list (pv 2) pe_int (fun _ _ => rfl)) pe_int (nomark _)) (pss_cons (ps_asg (pe_op op_sub (pe_ix ix_list (pv 2) pe_int (fun _ _ => rfl)) pe_int) (pg_sub (pv 2) pe_int set_list))
  (pss_one (ps_expr (pe_bm PySem.F.plainAttrs_list PySem.F.slot_list_append PySem.F.type_list_append mt_append (pv 3) (pa_cons (pe_call G__law_kind hr (by rfl) D__law_kind.m D__law_kind.kp D__law_kind.b .nil pass0 (pa_cons (pv 0) (pa_cons (pe_op op_sub (pv 1) pe_int) (pa_cons (pv 2) pa_nil)))) pa_nil))))) pss_nil)))) pss_nil)
  (pss_one (ps_ret (pe_callTy call_tuple_of (by rfl) B.b_tuple (by decide +kernel) (pa_cons (pv 3) pa_nil)))))), ?_⟩
    refine ⟨Nat.zero_le _, fun p np => ?_⟩
    have hbl := hB.lst
    obtain ⟨bs, hbs⟩ := hbl
    have npb : b ≠ p := ne_of_none hbs np
    have npu : u ≠ p := ne_of_none hu np
    have s1 : Same H (upd H p (.lst [])) := same_new np _
    obtain ⟨cs, hcs⟩ := hB.dst
    have npc : c ≠ p := ne_of_none hcs np
    have fin : ∀ (y4 : Option V) (xs : List V) (ds : List D) (g' : Nat) (H1 : Hp), H1 p = some (.lst xs) → Reps K H1 xs ds → isKs ds = true → (deps ds : Int) ≤ dp → szs ds + g' ≤ g → H1 u = some (.lst [.int g']) → BoxAt H1 b c → SB2 b u H H1 →
        ∃ a ys, [V.ref p] = [.ref a] ∧ ((SqL K H1 a ys ∧ ∀ l, H1 l = none → Q (.ref l) (upd H1 l (.tup ys))) ∨ (SqT K H1 a ys ∧ Q (.ref a) H1)) := by
      intro y4 xs ds g' H1 hp hr' hk hd hs hu1 hb1 hsb
      refine ⟨p, xs, rfl, .inl ⟨SqL.of hp, fun l hl => ?_⟩⟩
      have sl : Same H1 (upd H1 l (.tup xs)) := same_new hl _
      refine q _ _ (.tup ds) g' (.tup' upd_same (hr'.mono (kx_same sl))) hk hd (by show szs ds + 1 + g' ≤ g + 1; omega) (sl _ _ hu1) (hb1.same sl) (fun z o n1 n2 e => sl _ _ (hsb z o n1 n2 e))
    refine ⟨_, rfl, _, _, rfl, rfl, _, rfl, ite2 (fun z => ?_) (fun z => ?_)⟩
    · have c' : (0 : Int) < dp := of_decide_eq_true z
      refine ⟨_, rfl, b, c, 4, rfl, hB.same s1, by decide, fun r H1 hr0 hr5 hB1 hs1 => ⟨r, rfl, by omega, by omega, ?_⟩⟩
      refine for_range (n := r.toNat) (fun i σ H' => ∃ (xs : List V) (ds : List D) (g' : Nat) (y4 : Option V), σ = [some (.ref b), some (.int dp), some (.ref u), some (.ref p), y4] ∧ H' p = some (.lst xs) ∧ Reps K H' xs ds ∧ isKs ds = true ∧ (deps ds : Int) ≤ dp ∧ szs ds + g' ≤ g ∧ H' u = some (.lst [.int g']) ∧ BoxAt H' b c ∧ SB2 b u H H')
        ⟨[], [], g, none, rfl, hs1 _ _ npb.symm upd_same, .nil, rfl, h0, by show 0 + g ≤ g; omega, hs1 _ _ hbu.symm (s1 _ _ hu), hB1, fun z o n1 n2 e => hs1 _ _ n1 (s1 _ _ e)⟩ ?_ ?_
      · rintro i σ H2 hi ⟨xs, ds, g', y4, rfl, hp, hrs, hk, hd, hs, hu2, hb2, hsb⟩
        refine ⟨_, rfl, u, _, 0, _, rfl, rfl, SqL.of hu2, rfl, _, _, rfl, rfl, _, rfl, ite2 (fun e => ?_) (fun e => ⟨xs, ds, g', _, rfl, hp, hrs, hk, hd, hs, hu2, hb2, hsb⟩)⟩
        have e' : (0 : Int) < (g' : Int) := of_decide_eq_true e
        have eg : (g' : Int) - 1 = ((g' - 1 : Nat) : Int) := by omega
        refine ⟨_, rfl, u, _, 0, _, rfl, rfl, SqL.of hu2, rfl, _, _, rfl, rfl, _, rfl, u, _, 0, 0, rfl, rfl, hu2, rfl, ?_⟩
        have hu3 : (upd H2 u (.lst [.int ((g' : Int) - 1)])) u = some (.lst [.int ((g' - 1 : Nat) : Int)]) := by rw [upd_same, eg]
        have hp3 : (upd H2 u (.lst [.int ((g' : Int) - 1)])) p = some (.lst xs) := by rw [upd_ne npu.symm]; exact hp
        have hb3 : BoxAt (upd H2 u (.lst [.int ((g' : Int) - 1)])) b c := hb2.other _ hbu.symm hcu.symm
        have k3 : Kx H2 (upd H2 u (.lst [.int ((g' : Int) - 1)])) := kx_list hu2 _
        refine ⟨_, rfl, .inl ⟨rfl, _, SqL.of hp3⟩, _, rfl, _, rfl, _, _, rfl, rfl, _, rfl, b, c, u, dp - 1, g' - 1, rfl, hb3, hu3, by omega, by omega, by omega, hbu, hcu, fun v H4 d g4 rv kv dv sv hu4 hb4 hsb4 => ?_⟩
        have hp4 : H4 p = some (.lst xs) := hsb4 _ _ npb.symm npu.symm hp3
        have k4 := sb2_kx hb3 hb4 hu3 hu4 hsb4
        have hrs4 := hrs.mono (k3.trans k4)
        have hlen := hrs.length
        have hlz := len_szs ds
        refine ⟨p, xs, v, rfl, rfl, hp4, small6 (by omega), ?_⟩
        have k5 : Kx H4 (upd H4 p (.lst (xs ++ [v]))) := kx_list hp4 _
        refine ⟨xs ++ [v], ds ++ [d], g4, _, rfl, upd_same, (hrs4.append (.one rv)).mono k5, ?_, ?_, ?_, by rw [upd_ne npu]; exact hu4, ?_, ?_⟩
        · rw [isKs_append, hk]
          show (true && (isK d && true)) = true
          rw [kv]
          rfl
        · rw [deps_append]
          show ((max (deps ds) (max (dep d + 1) 0) : Nat) : Int) ≤ dp
          omega
        · rw [szs_append]
          show szs ds + (sz d + 0) + g4 ≤ g
          omega
        · exact hb4.other _ npb.symm npc.symm
        · intro z o n1 n2 e1
          rw [upd_ne (ne_of_none e1 np)]
          refine hsb4 _ _ n1 n2 ?_
          rw [upd_ne n2]
          exact hsb z o n1 n2 e1
      · rintro σ H2 ⟨xs, ds, g', y4, rfl, hp, hrs, hk, hd, hs, hu2, hb2, hsb⟩
        exact ⟨_, rfl, fin y4 xs ds g' H2 hp hrs hk hd hs hu2 hb2 hsb⟩
    · exact ⟨_, rfl, fin none [] [] g _ upd_same .nil rfl h0 (by show 0 + g ≤ g; omega) (s1 _ _ hu) (hB.same s1) (fun z o _ _ e => s1 _ _ e)⟩
end
/-! ### programs as the laws write them -/
inductive T where
  | say (v : Nat)
  | stop
  | ask (up k : Nat) (as : List T) (zero one : T)
  | prog (many : Nat) (b : T)
mutual
def toD : T → D
  | .say v => .tup [.at (.str "say"), .at (.int (v : Nat))]
  | .stop => .tup [.at (.str "stop")]
  | .ask up k as z o => .tup [.at (.str "ask"), .at (.int (up : Nat)), .at (.int (k : Nat)), .tup (toDs as), toD z, toD o]
  | .prog m b => .tup [.at (.str "program"), .at (.int (m : Nat)), toD b]
def toDs : List T → List D
  | [] => []
  | t :: r => toD t :: toDs r
end
def args : D → List D
  | .tup ts => ts
  | _ => []
mutual
/-- a body, the kinds of the programs around it from the innermost on -/
def wfB : List D → T → Bool
  | _, .say v => decide (v < 2)
  | _, .stop => true
  | ks, .ask up k as z o => (match ks[up]? with
    | some kd => (match (args kd)[k]? with
      | some a => wfPs ks (args a) as
      | none => false)
    | none => false) && (wfB ks z && wfB ks o)
  | _, .prog _ _ => false
def wfP : List D → D → T → Bool
  | ks, kd, .prog m b => decide (m = (args kd).length) && wfB (kd :: ks) b
  | _, _, _ => false
def wfPs : List D → List D → List T → Bool
  | _, [], [] => true
  | ks, d :: ds, t :: ts => wfP ks d t && wfPs ks ds ts
  | _, _, _ => false
end
mutual
def nasks : T → Nat
  | .say _ => 0
  | .stop => 0
  | .ask _ _ as z o => 1 + (nasksL as + (nasks z + nasks o))
  | .prog _ b => nasks b
def nasksL : List T → Nat
  | [] => 0
  | t :: r => nasks t + nasksL r
end
/-! ### _law_body -/
theorem toDs_append : ∀ a b : List T, toDs (a ++ b) = toDs a ++ toDs b
  | [], b => rfl
  | t :: r, b => by
    show toD t :: toDs (r ++ b) = toD t :: (toDs r ++ toDs b)
    rw [toDs_append r b]
theorem toDs_len : ∀ a : List T, (toDs a).length = a.length
  | [] => rfl
  | t :: r => congrArg Nat.succ (toDs_len r)
theorem nasksL_append : ∀ a b : List T, nasksL (a ++ b) = nasksL a + nasksL b
  | [], b => by show nasksL b = 0 + nasksL b; omega
  | t :: r, b => by
    show nasks t + nasksL (r ++ b) = (nasks t + nasksL r) + nasksL b
    rw [nasksL_append r b]
    omega
theorem wfPs_snoc {ks : List D} : ∀ {ds : List D} {ts : List T} {d : D} {t : T}, wfPs ks ds ts = true → wfP ks d t = true → wfPs ks (ds ++ [d]) (ts ++ [t]) = true
  | [], [], d, t, _, h => by
    show (wfP ks d t && wfPs ks [] []) = true
    rw [h]
    rfl
  | a :: ds, b :: ts, d, t, h1, h2 => by
    have k := Bool.and_eq_true_iff.mp h1
    show (wfP ks a b && wfPs ks (ds ++ [d]) (ts ++ [t])) = true
    rw [k.1, wfPs_snoc k.2 h2]
    rfl
  | [], _ :: _, _, _, h, _ => by cases h
  | _ :: _, [], _, _, h, _ => by cases h
def upkD (x : Nat × Nat) : D := .tup [.at (.int (x.1 : Nat)), .at (.int (x.2 : Nat))]
/-- a kind of the laws: its size is bounded -/
def Kd (d : D) : Prop := isK d = true ∧ sz d ≤ 1000
theorem Kd.sub {d a : D} {k : Nat} (h : Kd d) (e : (args d)[k]? = some a) : Kd a := by
  obtain ⟨ts, rfl, hks⟩ := isK_inv h.1
  have m : a ∈ ts := List.mem_of_getElem? e
  have := sz_mem m
  have h2 : szs ts + 1 ≤ 1000 := h.2
  exact ⟨isK_mem hks m, by omega⟩
theorem rev_at {α : Type} (l : List α) (i : Nat) (h : i < l.length) : l.reverse[l.length - 1 - i]? = l[i]? := by
  rw [List.getElem?_reverse (by omega)]
  congr 1
  omega
theorem up_at {K : PySem.W.Frag} {H : Hp} {xs : List V} {ks : List D} (rx : Reps K H xs ks.reverse) {i : Nat} (hi : i < ks.length) {z : Int} (hz : z = ((xs.length : Nat) : Int) - 1 - (i : Nat)) :
    ∃ x kd, atI xs z = some x ∧ ks[i]? = some kd ∧ Rep K H x kd := by
  have lx := rx.length
  rw [List.length_reverse] at lx
  have hk : xs.length - 1 - i < xs.length := by omega
  obtain ⟨kd, h1, h2⟩ := rx.get (List.getElem?_eq_getElem hk)
  have q := atI_nat (List.getElem?_eq_getElem hk)
  rw [show ((xs.length - 1 - i : Nat) : Int) = z by omega] at q
  rw [lx, rev_at ks i hi] at h1
  exact ⟨_, kd, q, h1, h2⟩
theorem pickP {K : PySem.W.Frag} {H : Hp} {xs : List V} {ds : List D} {r : Int} (h : Reps K H xs ds) (h0 : 0 ≤ r) (h1 : r < (xs.length : Nat)) : ∃ (v : V) (e : D) (i : Nat), atI xs r = some v ∧ ds[i]? = some e ∧ Rep K H v e := by
  have hk : r.toNat < xs.length := by omega
  obtain ⟨e, he, re⟩ := h.get (List.getElem?_eq_getElem hk)
  have q := atI_nat (List.getElem?_eq_getElem hk)
  rw [show ((r.toNat : Nat) : Int) = r by omega] at q
  exact ⟨_, e, r.toNat, q, he, re⟩
theorem toDs_at : ∀ {l : List T} {i : Nat} {e : D}, (toDs l)[i]? = some e → ∃ t, l[i]? = some t ∧ e = toD t
  | [], _, _, h => by simp [toDs] at h
  | t :: r, 0, e, h => ⟨t, rfl, (Option.some.inj h).symm⟩
  | t :: r, i + 1, e, h => toDs_at (l := r) (i := i) h
theorem say_reps {K : PySem.W.Frag} {M : Hp} {t1 t2 t3 t4 t5 : Addr} (h1 : M t1 = some (.tup [.str "say", .int 0])) (h2 : M t2 = some (.tup [.str "say", .int 1])) (h3 : M t3 = some (.tup [.str "say", .int 0])) (h4 : M t4 = some (.tup [.str "say", .int 1])) (h5 : M t5 = some (.tup [.str "stop"])) :
    Reps K M [.ref t1, .ref t2, .ref t3, .ref t4, .ref t5] (toDs [.say 0, .say 1, .say 0, .say 1, .stop]) :=
  .cons (.tup' h1 (.cons (.at rfl) (.one (.at rfl)))) (.cons (.tup' h2 (.cons (.at rfl) (.one (.at rfl)))) (.cons (.tup' h3 (.cons (.at rfl) (.one (.at rfl)))) (.cons (.tup' h4 (.cons (.at rfl) (.one (.at rfl)))) (.one (.tup' h5 (.one (.at rfl)))))))
theorem say_ok {ks : List D} {i : Nat} {t : T} (h : ([.say 0, .say 1, .say 0, .say 1, .stop] : List T)[i]? = some t) : wfB ks t = true ∧ nasks t = 0 := by
  have m : t ∈ ([.say 0, .say 1, .say 0, .say 1, .stop] : List T) := List.mem_of_getElem? h
  simp only [List.mem_cons, List.not_mem_nil, or_false] at m
  rcases m with rfl | rfl | rfl | rfl | rfl <;> exact ⟨by simp [wfB], rfl⟩
section
variable {P : Program} {w : World} {K : PySem.W.Frag} {mg : Str → Option Value} {base : Heap}
def spBody (K : PySem.W.Frag) (n : Nat) : Sp := fun vs H Q _ => ∃ (b c u : Addr) (v : V) (ks : List D) (g : Nat), vs = [.ref b, v, .ref u] ∧ BoxAt H b c ∧ H u = some (.lst [.int g]) ∧ Rep K H v (.tup ks.reverse) ∧ (∀ k ∈ ks, Kd k) ∧ ks.length + g ≤ 200 ∧ g < n ∧ b ≠ u ∧ c ≠ u ∧
  ∀ (z : V) (H' : Hp) (t : T) (g' : Nat), Rep K H' z (toD t) → wfB ks t = true → nasks t + g' ≤ g → H' u = some (.lst [.int g']) → BoxAt H' b c → SB2 b u H H' → Q z H'
theorem SB2.refl (b u : Addr) (H : Hp) : SB2 b u H H := fun _ _ _ _ h => h
theorem SB2.trans {b u : Addr} {H H1 H2 : Hp} (x : SB2 b u H H1) (y : SB2 b u H1 H2) : SB2 b u H H2 := fun q o n1 n2 h => y q o n1 n2 (x q o n1 n2 h)
theorem sb2_same {b u : Addr} {H H' : Hp} (s : Same H H') : SB2 b u H H' := fun q o _ _ h => s q o h
theorem sb2_sb {b u : Addr} {H H' : Hp} (s : SB b H H') : SB2 b u H H' := fun q o n _ h => s q o n h
end
/-! ### _law_program -/
section
variable {P : Program} {w : World} {K : PySem.W.Frag} {mg : Str → Option Value} {base : Heap}
def spProg (K : PySem.W.Frag) : Sp := fun vs H Q _ => ∃ (b c : Addr) (v : V) (d : D) (m : Nat), vs = [.ref b, v, .int m] ∧ BoxAt H b c ∧ Rep K H v d ∧ Kd d ∧ m ≤ 100 ∧
  ∀ (z : V) (H' : Hp) (t : T), Rep K H' z (toD t) → wfP [] d t = true → nasks t ≤ m → BoxAt H' b c → SB b H H' → Q z H'
end
end Pk

set_option maxRecDepth 100000
set_option maxHeartbeats 4000000
set_option pp.maxSteps 600
namespace Pk
open PySem PySem.Spec PyProof.Rows L2
/-! ### rows of programs -/
abbrev Row := List Stp × Stp
def BEG : Stp := ⟨.ask [], none⟩
def plc (s : List Stp) (c : Nat) : List Nat := match s[c]? with
  | some ⟨.ask p, _⟩ => p
  | _ => []
def asK (s : List Stp) (c k : Nat) : Stp := ⟨.ask (plc s c ++ [k]), some c⟩
mutual
/-- the rows of a body behind the sight s; cs: the calls of the programs around it, the innermost first -/
def rowsB : T → List Stp → List Nat → List Row
  | .say v, s, cs => [(s, ⟨.say v, some (cs.getD 0 0)⟩)]
  | .stop, _, _ => []
  | .ask up k as z o, s, cs => (s, asK s (cs.getD up 0) k) :: (rowsB z (s ++ [asK s (cs.getD up 0) k] ++ [⟨.say 0, some s.length⟩]) cs ++ (rowsB o (s ++ [asK s (cs.getD up 0) k] ++ [⟨.say 1, some s.length⟩]) cs ++
      rowsPs as (plc s (cs.getD up 0) ++ [k]) (s ++ [asK s (cs.getD up 0) k]) s.length cs 0))
  | .prog _ _, _, _ => []
def rowsPs : List T → List Nat → List Stp → Nat → List Nat → Nat → List Row
  | [], _, _, _, _, _ => []
  | .prog _ b :: r, p, l, n, cs, i => rowsB b (l ++ [⟨.ask (p ++ [i]), some n⟩]) ((n + 1) :: cs) ++ rowsPs r p l n cs (i + 1)
  | .say _ :: r, p, l, n, cs, i => rowsPs r p l n cs (i + 1)
  | .stop :: r, p, l, n, cs, i => rowsPs r p l n cs (i + 1)
  | .ask _ _ _ _ _ :: r, p, l, n, cs, i => rowsPs r p l n cs (i + 1)
end
theorem pre_snoc {s t : List Stp} {x : List Stp} (h : s ++ x <+: t) : s <+: t := (List.prefix_append s x).trans h
mutual
theorem rowsB_pre : ∀ (t : T) (s : List Stp) (cs : List Nat), ∀ e ∈ rowsB t s cs, s <+: e.1
  | .say v, s, cs, e, h => by
    rw [List.mem_singleton.mp h]
    exact List.prefix_refl s
  | .stop, s, cs, e, h => by cases h
  | .prog _ _, s, cs, e, h => by cases h
  | .ask up k as z o, s, cs, e, h => by
    rcases List.mem_cons.mp h with h | h
    · rw [h]
      exact List.prefix_refl s
    rcases List.mem_append.mp h with h | h
    · exact pre_snoc (pre_snoc (rowsB_pre z _ _ e h))
    rcases List.mem_append.mp h with h | h
    · exact pre_snoc (pre_snoc (rowsB_pre o _ _ e h))
    · obtain ⟨j, _, _, h⟩ := rowsPs_pre as _ _ _ _ _ e h
      exact pre_snoc (pre_snoc h)
theorem rowsPs_pre : ∀ (ts : List T) (p : List Nat) (l : List Stp) (n : Nat) (cs : List Nat) (i : Nat), ∀ e ∈ rowsPs ts p l n cs i, ∃ j, i ≤ j ∧ j < i + ts.length ∧ l ++ [⟨.ask (p ++ [j]), some n⟩] <+: e.1
  | [], _, _, _, _, _, _, h => by cases h
  | .prog _ b :: r, p, l, n, cs, i, e, h => by
    rw [List.length_cons]
    rcases List.mem_append.mp h with h | h
    · exact ⟨i, Nat.le_refl _, by omega, rowsB_pre b _ _ e h⟩
    · obtain ⟨j, h1, h3, h2⟩ := rowsPs_pre r p l n cs (i + 1) e h
      exact ⟨j, by omega, by omega, h2⟩
  | .say _ :: r, p, l, n, cs, i, e, h => by
    rw [List.length_cons]
    obtain ⟨j, h1, h3, h2⟩ := rowsPs_pre r p l n cs (i + 1) e h
    exact ⟨j, by omega, by omega, h2⟩
  | .stop :: r, p, l, n, cs, i, e, h => by
    rw [List.length_cons]
    obtain ⟨j, h1, h3, h2⟩ := rowsPs_pre r p l n cs (i + 1) e h
    exact ⟨j, by omega, by omega, h2⟩
  | .ask _ _ _ _ _ :: r, p, l, n, cs, i, e, h => by
    rw [List.length_cons]
    obtain ⟨j, h1, h3, h2⟩ := rowsPs_pre r p l n cs (i + 1) e h
    exact ⟨j, by omega, by omega, h2⟩
end
/-- two that go on in different ways from one have nothing behind them in common -/
theorem pre_two {l t : List Stp} {a b : Stp} (h1 : l ++ [a] <+: t) (h2 : l ++ [b] <+: t) : a = b := by
  obtain ⟨x, rfl⟩ := h1
  obtain ⟨y, hy⟩ := h2
  rw [List.append_assoc, List.append_assoc] at hy
  have := List.append_cancel_left hy
  injection this with h _
  exact h.symm
theorem pre_long {l t : List Stp} {a : Stp} (h1 : l ++ [a] <+: t) : t ≠ l := fun e => by
  subst e
  have := h1.length_le
  rw [List.length_append, List.length_singleton] at this
  omega
abbrev keysR (rows : List Row) : List (List Stp) := rows.map Prod.fst
theorem mem_keys {rows : List Row} {s : List Stp} (h : s ∈ keysR rows) : ∃ e ∈ rows, e.1 = s := List.mem_map.mp h
mutual
theorem rowsB_nodup : ∀ (t : T) (s : List Stp) (cs : List Nat), (keysR (rowsB t s cs)).Nodup
  | .say v, s, cs => by
    show [s].Nodup
    exact List.pairwise_singleton _ _
  | .stop, s, cs => List.Pairwise.nil
  | .prog _ _, s, cs => List.Pairwise.nil
  | .ask up k as z o, s, cs => by
    show (s :: keysR (_ ++ (_ ++ _))).Nodup
    unfold keysR
    rw [List.map_append, List.map_append]
    refine List.nodup_cons.mpr ⟨fun h => ?_, List.nodup_append.mpr ⟨rowsB_nodup z _ _, List.nodup_append.mpr ⟨rowsB_nodup o _ _, rowsPs_nodup as _ _ _ _ _, fun a ha b hb e => ?_⟩, fun a ha b hb e => ?_⟩⟩
    · rcases List.mem_append.mp h with h | h
      · obtain ⟨e, he, h⟩ := mem_keys h
        exact pre_long (l := s) (a := _) (pre_snoc (rowsB_pre z _ _ e he)) h
      rcases List.mem_append.mp h with h | h
      · obtain ⟨e, he, h⟩ := mem_keys h
        exact pre_long (l := s) (a := _) (pre_snoc (rowsB_pre o _ _ e he)) h
      · obtain ⟨e, he, h⟩ := mem_keys h
        obtain ⟨j, _, _, q⟩ := rowsPs_pre as _ _ _ _ _ e he
        exact pre_long (l := s) (a := _) (pre_snoc q) h
    · subst e
      obtain ⟨e1, h1, rfl⟩ := mem_keys ha
      obtain ⟨e2, h2, q⟩ := mem_keys hb
      obtain ⟨j, _, _, p2⟩ := rowsPs_pre as _ _ _ _ _ e2 h2
      rw [q] at p2
      have := pre_two (rowsB_pre o _ _ e1 h1) p2
      injection this with this _
      cases this
    · subst e
      obtain ⟨e1, h1, rfl⟩ := mem_keys ha
      rcases List.mem_append.mp hb with hb | hb
      · obtain ⟨e2, h2, q⟩ := mem_keys hb
        have p2 := rowsB_pre o _ _ e2 h2
        rw [q] at p2
        have := pre_two (rowsB_pre z _ _ e1 h1) p2
        injection this with this _
        injection this with this
        cases this
      · obtain ⟨e2, h2, q⟩ := mem_keys hb
        obtain ⟨j, _, _, p2⟩ := rowsPs_pre as _ _ _ _ _ e2 h2
        rw [q] at p2
        have := pre_two (rowsB_pre z _ _ e1 h1) p2
        injection this with this _
        cases this
theorem rowsPs_nodup : ∀ (ts : List T) (p : List Nat) (l : List Stp) (n : Nat) (cs : List Nat) (i : Nat), (keysR (rowsPs ts p l n cs i)).Nodup
  | [], _, _, _, _, _ => List.Pairwise.nil
  | .prog _ b :: r, p, l, n, cs, i => by
    show (keysR (_ ++ _)).Nodup
    unfold keysR
    rw [List.map_append]
    refine List.nodup_append.mpr ⟨rowsB_nodup b _ _, rowsPs_nodup r p l n cs (i + 1), fun a ha b2 hb e => ?_⟩
    subst e
    obtain ⟨e1, h1, rfl⟩ := mem_keys ha
    obtain ⟨e2, h2, q⟩ := mem_keys hb
    obtain ⟨j, hj, _, p2⟩ := rowsPs_pre r _ _ _ _ _ e2 h2
    rw [q] at p2
    have := pre_two (rowsB_pre b _ _ e1 h1) p2
    injection this with this _
    injection this with this
    have := List.append_cancel_left this
    injection this with this _
    omega
  | .say _ :: r, p, l, n, cs, i => rowsPs_nodup r p l n cs (i + 1)
  | .stop :: r, p, l, n, cs, i => rowsPs_nodup r p l n cs (i + 1)
  | .ask _ _ _ _ _ :: r, p, l, n, cs, i => rowsPs_nodup r p l n cs (i + 1)
end
/-! ### sights: the beginning, then steps with a back; places no longer than the steps before -/
structure OkS (s : List Stp) : Prop where
  beg : s[0]? = some BEG
  bk : ∀ (i : Nat) (x : Stp), 0 < i → s[i]? = some x → x.back ≠ none
  pl : ∀ (i : Nat) (p : List Nat) (b : Option Nat), s[i]? = some ⟨.ask p, b⟩ → p.length ≤ i
theorem OkS.snoc {s : List Stp} (h : OkS s) {x : Stp} (hb : x.back ≠ none) (hp : ∀ p, x.mv = .ask p → p.length ≤ s.length) : OkS (s ++ [x]) := by
  have h0 : 0 < s.length := (List.getElem?_eq_some_iff.mp h.beg).1
  refine ⟨by rw [List.getElem?_append_left h0]; exact h.beg, fun i y hi hy => ?_, fun i p b hy => ?_⟩
  · by_cases hl : i < s.length
    · rw [List.getElem?_append_left hl] at hy
      exact h.bk i y hi hy
    · rw [List.getElem?_append_right (by omega)] at hy
      by_cases e : i - s.length = 0
      · rw [e] at hy
        cases hy
        exact hb
      · rw [List.getElem?_eq_none (by rw [List.length_singleton]; omega)] at hy
        cases hy
  · by_cases hl : i < s.length
    · rw [List.getElem?_append_left hl] at hy
      exact h.pl i p b hy
    · rw [List.getElem?_append_right (by omega)] at hy
      by_cases e : i - s.length = 0
      · rw [e] at hy
        cases hy
        have := hp p rfl
        omega
      · rw [List.getElem?_eq_none (by rw [List.length_singleton]; omega)] at hy
        cases hy
theorem OkS.one : OkS [BEG] := by
  refine ⟨rfl, fun i x hi h => ?_, fun i p b h => ?_⟩
  · rw [List.getElem?_eq_none (by rw [List.length_singleton]; omega)] at h
    cases h
  · by_cases hi : i = 0
    · subst hi
      cases h
      exact Nat.le_refl _
    · rw [List.getElem?_eq_none (by rw [List.length_singleton]; omega)] at h
      cases h
/-- the calls lie in the sight, and are asks -/
def OkC (s : List Stp) (cs : List Nat) : Prop := ∀ c ∈ cs, ∃ p b, s[c]? = some ⟨.ask p, b⟩
theorem OkC.lt {s : List Stp} {cs : List Nat} (h : OkC s cs) {c : Nat} (m : c ∈ cs) : c < s.length := let ⟨_, _, e⟩ := h c m; (List.getElem?_eq_some_iff.mp e).1
theorem OkC.snoc {s : List Stp} {cs : List Nat} (h : OkC s cs) (x : Stp) : OkC (s ++ [x]) cs := fun c m => by
  obtain ⟨p, b, e⟩ := h c m
  exact ⟨p, b, by rw [List.getElem?_append_left (h.lt m)]; exact e⟩
theorem plc_at {s : List Stp} {c : Nat} {p : List Nat} {b : Option Nat} (h : s[c]? = some ⟨.ask p, b⟩) : plc s c = p := by
  unfold plc
  rw [h]
theorem OkS.plc {s : List Stp} (h : OkS s) (c : Nat) : (plc s c).length ≤ c := by
  unfold Pk.plc
  split
  · next p b e => exact h.pl c p b e
  · exact Nat.zero_le _
theorem mem_getD {cs : List Nat} {i : Nat} (h : i < cs.length) : cs.getD i 0 ∈ cs := by
  have e : cs.getD i 0 = cs[i] := by
    rw [List.getD_eq_getElem?_getD, List.getElem?_eq_getElem h]
    rfl
  rw [e]
  exact List.getElem_mem h
/-- a sight that a body goes on from -/
theorem OkS.asked {s : List Stp} {cs : List Nat} (h : OkS s) (hc : OkC s cs) {up : Nat} (hu : up < cs.length) (k : Nat) : OkS (s ++ [asK s (cs.getD up 0) k]) := by
  refine h.snoc (fun z => nomatch z) fun p e => ?_
  have e' : Mv.ask (Pk.plc s (cs.getD up 0) ++ [k]) = .ask p := e
  injection e' with e'
  have h1 := h.plc (cs.getD up 0)
  have h2 := hc.lt (mem_getD hu)
  rw [← e', List.length_append, List.length_singleton]
  omega
theorem OkS.say {s : List Stp} (h : OkS s) (v n : Nat) : OkS (s ++ [⟨.say v, some n⟩]) := h.snoc (fun z => nomatch z) fun p e => nomatch e
theorem OkS.arg {s : List Stp} (h : OkS s) {p : List Nat} {n i : Nat} (hp : p.length < s.length) : OkS (s ++ [⟨.ask (p ++ [i]), some n⟩]) := by
  refine h.snoc (fun z => nomatch z) fun q e => ?_
  have e' : Mv.ask (p ++ [i]) = .ask q := e
  injection e' with e'
  rw [← e', List.length_append, List.length_singleton]
  omega
theorem OkC.more {s : List Stp} {cs : List Nat} (h : OkC s cs) (x : Stp) (p : List Nat) (b : Option Nat) : OkC (s ++ [x] ++ [⟨.ask p, b⟩]) ((s.length + 1) :: cs) := fun c m => by
  rcases List.mem_cons.mp m with rfl | m
  · refine ⟨p, b, ?_⟩
    rw [List.getElem?_append_right (by rw [List.length_append, List.length_singleton]; exact Nat.le_refl _), List.length_append, List.length_singleton, Nat.sub_self]
    rfl
  · exact ((h.snoc x).snoc _) c m
theorem wfP_inv {ks : List D} {kd : D} {t : T} (h : wfP ks kd t = true) : ∃ m b, t = .prog m b ∧ m = (args kd).length ∧ wfB (kd :: ks) b = true := by
  cases t with
  | prog m b =>
    have k := Bool.and_eq_true_iff.mp (show (decide (m = (args kd).length) && wfB (kd :: ks) b) = true from h)
    exact ⟨m, b, rfl, of_decide_eq_true k.1, k.2⟩
  | _ => cases h
theorem wfB_ask {ks : List D} {up k : Nat} {as : List T} {z o : T} (h : wfB ks (.ask up k as z o) = true) : ∃ kd a, ks[up]? = some kd ∧ (args kd)[k]? = some a ∧ wfPs ks (args a) as = true ∧ wfB ks z = true ∧ wfB ks o = true := by
  have h1 := Bool.and_eq_true_iff.mp (show ((match ks[up]? with
    | some kd => (match (args kd)[k]? with
      | some a => wfPs ks (args a) as
      | none => false)
    | none => false) && (wfB ks z && wfB ks o)) = true from h)
  obtain ⟨h1, h2⟩ := h1
  have h2 := Bool.and_eq_true_iff.mp h2
  cases e1 : ks[up]? with
  | none =>
    rw [e1] at h1
    cases h1
  | some kd =>
    rw [e1] at h1
    dsimp only at h1
    cases e2 : (args kd)[k]? with
    | none =>
      rw [e2] at h1
      cases h1
    | some a =>
      rw [e2] at h1
      exact ⟨kd, a, rfl, e2, h1, h2.1, h2.2⟩
theorem wfPs_cons {ks ds : List D} {t : T} {ts : List T} (h : wfPs ks ds (t :: ts) = true) : ∃ d ds', ds = d :: ds' ∧ wfP ks d t = true ∧ wfPs ks ds' ts = true := by
  cases ds with
  | nil => cases h
  | cons d ds' =>
    have k := Bool.and_eq_true_iff.mp (show (wfP ks d t && wfPs ks ds' ts) = true from h)
    exact ⟨d, ds', rfl, k.1, k.2⟩
mutual
theorem rowsB_ok : ∀ (t : T) (ks : List D) (s : List Stp) (cs : List Nat), wfB ks t = true → cs.length = ks.length → OkS s → OkC s cs → ∀ e ∈ rowsB t s cs, OkS e.1 ∧ e.2.back ≠ none ∧ (∀ p, e.2.mv = .ask p → p.length ≤ e.1.length)
  | .say v, ks, s, cs, _, _, hs, _, e, h => by
    rw [List.mem_singleton.mp h]
    exact ⟨hs, fun z => (nomatch z), fun p z => (nomatch z)⟩
  | .stop, _, _, _, _, _, _, _, e, h => by cases h
  | .prog _ _, _, _, _, _, _, _, _, e, h => by cases h
  | .ask up k as z o, ks, s, cs, hw, hl, hs, hc, e, h => by
    obtain ⟨kd, a, e1, e2, w1, w2, w3⟩ := wfB_ask hw
    have hu : up < cs.length := by
      have := (List.getElem?_eq_some_iff.mp e1).1
      omega
    have hA := hs.asked hc hu k
    have cA := hc.snoc (asK s (cs.getD up 0) k)
    rcases List.mem_cons.mp h with h | h
    · rw [h]
      refine ⟨hs, fun z => (nomatch z), fun p e => ?_⟩
      have e' : Mv.ask (plc s (cs.getD up 0) ++ [k]) = .ask p := e
      injection e' with e'
      have h1 := hs.plc (cs.getD up 0)
      have h2 := hc.lt (mem_getD hu)
      rw [← e', List.length_append, List.length_singleton]
      show _ ≤ s.length
      omega
    rcases List.mem_append.mp h with h | h
    · exact rowsB_ok z ks _ cs w2 hl (hA.say 0 _) (cA.snoc _) e h
    rcases List.mem_append.mp h with h | h
    · exact rowsB_ok o ks _ cs w3 hl (hA.say 1 _) (cA.snoc _) e h
    · refine rowsPs_ok as ks (args a) (plc s (cs.getD up 0) ++ [k]) s (asK s (cs.getD up 0) k) cs 0 w1 hl hA hc ?_ e h
      have h1 := hs.plc (cs.getD up 0)
      have h2 := hc.lt (mem_getD hu)
      rw [List.length_append, List.length_singleton]
      omega
theorem rowsPs_ok : ∀ (ts : List T) (ks ds : List D) (p : List Nat) (s : List Stp) (x : Stp) (cs : List Nat) (i : Nat), wfPs ks ds ts = true → cs.length = ks.length → OkS (s ++ [x]) → OkC s cs → p.length ≤ s.length →
    ∀ e ∈ rowsPs ts p (s ++ [x]) s.length cs i, OkS e.1 ∧ e.2.back ≠ none ∧ (∀ p, e.2.mv = .ask p → p.length ≤ e.1.length)
  | [], _, _, _, _, _, _, _, _, _, _, _, _, e, h => by cases h
  | t :: ts, ks, ds, p, s, x, cs, i, hw, hl, hs, hc, hp, e, h => by
    obtain ⟨d, ds', rfl, w1, w2⟩ := wfPs_cons hw
    obtain ⟨m, b, rfl, _, w3⟩ := wfP_inv w1
    rcases List.mem_append.mp h with h | h
    · refine rowsB_ok b (d :: ks) _ _ w3 (by rw [List.length_cons, List.length_cons, hl]) (hs.arg (by rw [List.length_append, List.length_singleton]; omega)) ?_ e h
      exact hc.more x (p ++ [i]) (some s.length)
    · exact rowsPs_ok ts ks ds' p s x cs (i + 1) w2 hl hs hc hp e h
end
/-! ### how many -/
mutual
def szT : T → Nat
  | .say _ => 1
  | .stop => 1
  | .ask _ _ as z o => 1 + (szT z + (szT o + szTs as))
  | .prog _ b => szT b
def szTs : List T → Nat
  | [] => 0
  | t :: r => szT t + szTs r
end
mutual
theorem rowsB_len : ∀ (t : T) (s : List Stp) (cs : List Nat), (rowsB t s cs).length ≤ szT t
  | .say v, s, cs => Nat.le_refl 1
  | .stop, s, cs => Nat.zero_le _
  | .prog _ _, s, cs => Nat.zero_le _
  | .ask up k as z o, s, cs => by
    rw [rowsB, List.length_cons, List.length_append, List.length_append]
    have h1 := rowsB_len z (s ++ [asK s (cs.getD up 0) k] ++ [⟨.say 0, some s.length⟩]) cs
    have h2 := rowsB_len o (s ++ [asK s (cs.getD up 0) k] ++ [⟨.say 1, some s.length⟩]) cs
    have h3 := rowsPs_len as (plc s (cs.getD up 0) ++ [k]) (s ++ [asK s (cs.getD up 0) k]) s.length cs 0
    show _ ≤ 1 + (szT z + (szT o + szTs as))
    omega
theorem rowsPs_len : ∀ (ts : List T) (p : List Nat) (l : List Stp) (n : Nat) (cs : List Nat) (i : Nat), (rowsPs ts p l n cs i).length ≤ szTs ts
  | [], _, _, _, _, _ => Nat.le_refl _
  | .prog _ b :: r, p, l, n, cs, i => by
    rw [rowsPs, List.length_append]
    show _ ≤ szT b + szTs r
    have h1 := rowsB_len b (l ++ [⟨.ask (p ++ [i]), some n⟩]) ((n + 1) :: cs)
    have h2 := rowsPs_len r p l n cs (i + 1)
    omega
  | .say _ :: r, p, l, n, cs, i => by
    have h2 := rowsPs_len r p l n cs (i + 1)
    show _ ≤ 1 + szTs r
    exact Nat.le_trans h2 (by omega)
  | .stop :: r, p, l, n, cs, i => by
    have h2 := rowsPs_len r p l n cs (i + 1)
    show _ ≤ 1 + szTs r
    exact Nat.le_trans h2 (by omega)
  | .ask _ _ _ _ _ :: r, p, l, n, cs, i => by
    have h2 := rowsPs_len r p l n cs (i + 1)
    show _ ≤ _ + szTs r
    exact Nat.le_trans h2 (by omega)
end
/-- all kinds have at most M places -/
def KM (M : Nat) (ks : List D) : Prop := ∀ k ∈ ks, isK k = true ∧ sz k ≤ M
theorem KM.sub {M : Nat} {kd a : D} {k : Nat} (h : isK kd = true ∧ sz kd ≤ M) (e : (args kd)[k]? = some a) : isK a = true ∧ sz a ≤ M := by
  obtain ⟨ts, rfl, hks⟩ := isK_inv h.1
  have m : a ∈ ts := List.mem_of_getElem? e
  have := sz_mem m
  have h2 : szs ts + 1 ≤ M := h.2
  exact ⟨isK_mem hks m, by omega⟩
theorem KM.len {M : Nat} {a : D} (h : isK a = true ∧ sz a ≤ M) : (args a).length + 1 ≤ M := by
  obtain ⟨ts, rfl, hks⟩ := isK_inv h.1
  have := len_szs ts
  have h2 : szs ts + 1 ≤ M := h.2
  show ts.length + 1 ≤ M
  omega
mutual
theorem szT_le (M : Nat) : ∀ (t : T) (ks : List D), wfB ks t = true → KM M ks → szT t ≤ 1 + (M + 2) * nasks t
  | .say _, ks, _, _ => by show 1 ≤ 1 + _; omega
  | .stop, ks, _, _ => by show 1 ≤ 1 + _; omega
  | .prog _ _, ks, h, _ => by cases h
  | .ask up k as z o, ks, hw, hk => by
    obtain ⟨kd, a, e1, e2, w1, w2, w3⟩ := wfB_ask hw
    have ha := KM.sub (hk kd (List.mem_of_getElem? e1)) e2
    have h1 := szT_le M z ks w2 hk
    have h2 := szT_le M o ks w3 hk
    have h3 := szTs_le M as ks (args a) w1 hk (fun d hd => by
      obtain ⟨j, hj⟩ := List.mem_iff_getElem?.mp hd
      exact KM.sub ha hj)
    have h4 := KM.len ha
    show 1 + (szT z + (szT o + szTs as)) ≤ 1 + (M + 2) * (1 + (nasksL as + (nasks z + nasks o)))
    rw [Nat.mul_add, Nat.mul_add, Nat.mul_add, Nat.mul_one]
    omega
theorem szTs_le (M : Nat) : ∀ (ts : List T) (ks ds : List D), wfPs ks ds ts = true → KM M ks → KM M ds → szTs ts ≤ ds.length + (M + 2) * nasksL ts
  | [], ks, ds, _, _, _ => Nat.zero_le _
  | t :: ts, ks, ds, hw, hk, hd => by
    obtain ⟨d, ds', rfl, w1, w2⟩ := wfPs_cons hw
    obtain ⟨m, b, rfl, _, w3⟩ := wfP_inv w1
    have h1 := szT_le M b (d :: ks) w3 (fun k hm => by
      rcases List.mem_cons.mp hm with rfl | hm
      · exact hd _ (List.mem_cons_self ..)
      · exact hk k hm)
    have h2 := szTs_le M ts ks ds' w2 hk (fun k hm => hd k (List.mem_cons_of_mem _ hm))
    show szT b + szTs ts ≤ (ds'.length + 1) + (M + 2) * (nasks b + nasksL ts)
    rw [Nat.mul_add]
    omega
end
/-! ### sights and rows as data, in order -/
def rowD (r : Row) : D := .tup [playD r.1, stD r.2]
theorem noLd_st (x : Stp) : noLd (stD x) = true := by
  obtain ⟨m, k⟩ := x
  have h1 : noLd (bkD k) = true := by cases k <;> rfl
  have h2 : noLd (mvD m) = true := by
    cases m with
    | say v => rfl
    | ask p =>
      show (true && (noLds (p.map numD') && true)) = true
      rw [noLd_nums]
      rfl
  show (noLd (mvD m) && (noLd (bkD k) && true)) = true
  rw [h1, h2]
  rfl
theorem noLds_sts : ∀ s : List Stp, noLds (s.map stD) = true
  | [] => rfl
  | x :: r => by
    show (noLd (stD x) && noLds (r.map stD)) = true
    rw [noLd_st, noLds_sts r]
    rfl
theorem noLd_row (r : Row) : noLd (rowD r) = true := by
  show (noLds (r.1.map stD) && (noLd (stD r.2) && true)) = true
  rw [noLds_sts, noLd_st]
  rfl
theorem noLd_play (s : List Stp) : noLd (playD s) = true := noLds_sts s
theorem dep_st (x : Stp) : dep (stD x) ≤ 3 := by
  obtain ⟨m, k⟩ := x
  have hk : dep (bkD k) = 0 := by cases k <;> rfl
  have hm : dep (mvD m) ≤ 2 := by
    cases m with
    | say v =>
      show max (0 + 1) (max (0 + 1) 0) ≤ 2
      omega
    | ask p =>
      have := deps_nums p
      show max (0 + 1) (max (deps (p.map numD') + 1) 0) ≤ 2
      omega
  show max (dep (mvD m) + 1) (max (dep (bkD k) + 1) 0) ≤ 3
  omega
theorem deps_sts : ∀ s : List Stp, deps (s.map stD) ≤ 4
  | [] => Nat.zero_le _
  | x :: r => by
    have h1 := dep_st x
    have h2 := deps_sts r
    show max (dep (stD x) + 1) (deps (r.map stD)) ≤ 4
    omega
theorem dep_play (s : List Stp) : dep (playD s) ≤ 4 := deps_sts s
theorem dep_row (r : Row) : dep (rowD r) ≤ 5 := by
  have h1 := dep_play r.1
  have h2 := dep_st r.2
  show max (dep (playD r.1) + 1) (max (dep (stD r.2) + 1) 0) ≤ 5
  omega
theorem mv_inj {m n : Mv} (h : toPy (mvD m) = toPy (mvD n)) : m = n := by
  cases m with
  | say v =>
    cases n with
    | say u =>
      injection h with h
      injection h with _ h
      injection h with h _
      injection h with h
      rw [show v = u by omega]
    | ask q =>
      injection h with h
      injection h with _ h
      injection h with h _
      cases h
  | ask p =>
    cases n with
    | say u =>
      injection h with h
      injection h with _ h
      injection h with h _
      cases h
    | ask q =>
      injection h with h
      injection h with _ h
      injection h with h _
      injection h with h
      rw [toPys_inj p q h]
theorem st_inj {x y : Stp} (h : toPy (stD x) = toPy (stD y)) : x = y := by
  obtain ⟨m, k⟩ := x
  obtain ⟨n, l⟩ := y
  injection h with h
  injection h with h1 h
  injection h with h2 _
  have h1' : toPy (mvD m) = toPy (mvD n) := h1
  have h2' : toPy (bkD k) = toPy (bkD l) := h2
  clear h1 h2
  rw [mv_inj h1']
  cases k with
  | none =>
    cases l with
    | none => rfl
    | some j => cases h2'
  | some i =>
    cases l with
    | none => cases h2'
    | some j =>
      injection h2' with h2'
      rw [show i = j by omega]
theorem sts_inj : ∀ {s t : List Stp}, toPys (s.map stD) = toPys (t.map stD) → s = t
  | [], [], _ => rfl
  | [], _ :: _, h => by cases h
  | _ :: _, [], h => by cases h
  | x :: r, y :: t, h => by
    injection h with h1 h2
    rw [st_inj h1, sts_inj h2]
theorem play_inj {s t : List Stp} (h : toPy (playD s) = toPy (playD t)) : s = t := by
  injection h with h
  exact sts_inj h
theorem row_inj {r t : Row} (h : toPy (rowD r) = toPy (rowD t)) : r = t := by
  injection h with h
  injection h with h1 h
  injection h with h2 _
  exact Prod.ext (play_inj h1) (st_inj h2)
theorem cpb_st {x y : Stp} (hx : x.back ≠ none) (hy : y.back ≠ none) : cpb (toPy (stD x)) (toPy (stD y)) = true := (encS.cmp x y hx hy).1
theorem cpb_beg : cpb (toPy (stD BEG)) (toPy (stD BEG)) = true := by decide +kernel
theorem cpbs_sts : ∀ (s t : List Stp), (∀ x ∈ s, x.back ≠ none) → (∀ x ∈ t, x.back ≠ none) → cpbs (toPys (s.map stD)) (toPys (t.map stD)) = true
  | [], _, _, _ => by simp [toPys, cpbs]
  | _ :: _, [], _, _ => by simp [toPys, cpbs]
  | x :: r, y :: t, h1, h2 => by
    show (cpb (toPy (stD x)) (toPy (stD y)) && (_ || cpbs (toPys (r.map stD)) (toPys (t.map stD)))) = true
    rw [cpb_st (h1 x (List.mem_cons_self ..)) (h2 y (List.mem_cons_self ..)), cpbs_sts r t (fun z hz => h1 z (List.mem_cons_of_mem _ hz)) (fun z hz => h2 z (List.mem_cons_of_mem _ hz)), Bool.or_true]
    rfl
theorem OkS.inv {s : List Stp} (h : OkS s) : ∃ r, s = BEG :: r ∧ ∀ x ∈ r, x.back ≠ none := by
  cases s with
  | nil => cases h.beg
  | cons x r =>
    have e : x = BEG := Option.some.inj h.beg
    subst e
    refine ⟨r, rfl, fun x hx => ?_⟩
    obtain ⟨j, hj⟩ := List.mem_iff_getElem?.mp hx
    exact h.bk (j + 1) x (Nat.succ_pos j) hj
theorem cpb_play {s t : List Stp} (hs : OkS s) (ht : OkS t) : cpb (toPy (playD s)) (toPy (playD t)) = true := by
  obtain ⟨r, rfl, h1⟩ := hs.inv
  obtain ⟨u, rfl, h2⟩ := ht.inv
  show cpbs (toPy (stD BEG) :: toPys (r.map stD)) (toPy (stD BEG) :: toPys (u.map stD)) = true
  rw [cpbs, cpb_beg, cpbs_sts r u h1 h2, Bool.or_true]
  rfl
def OkR (r : Row) : Prop := OkS r.1 ∧ r.2.back ≠ none
theorem cpb_row {r t : Row} (hr : OkR r) (ht : OkR t) : cpb (toPy (rowD r)) (toPy (rowD t)) = true := by
  show cpbs [toPy (playD r.1), toPy (stD r.2)] [toPy (playD t.1), toPy (stD t.2)] = true
  rw [cpbs, cpbs, cpb_play hr.1 ht.1, cpb_st hr.2 ht.2]
  simp [cpbs]
theorem encP : Enc playD (fun s => tkD (playD s)) OkS := encU (fun s _ => noLds_sts s) (fun s _ => Nat.le_trans (dep_play s) (by decide)) (fun s hs => by
  obtain ⟨r, rfl, _⟩ := hs.inv
  exact ⟨_, _, rfl⟩) fun s t hs ht => cpb_play hs ht
theorem encR : Enc rowD (fun r => tkD (rowD r)) OkR := encU (fun r _ => noLd_row r) (fun r _ => Nat.le_trans (dep_row r) (by decide)) (fun r _ => ⟨_, _, rfl⟩) fun r t hr ht => cpb_row hr ht
/-! ### sorted in one way -/
theorem sort_one {β : Type} {tok tok' : β → List (Int ⊕ List Nat)} {l l' : List β} (hp : l.Perm l') (hle : ∀ a ∈ l, ∀ b ∈ l, LX (tok a) (tok b) = LX (tok' a) (tok' b)) (hi : ∀ a ∈ l, ∀ b ∈ l, tok' a = tok' b → a = b) : sortE tok l = sortE tok' l' := by
  have T := PySem.W.sortLe_total (listOrd itemOrd) false tok
  have T' := PySem.W.sortLe_total (listOrd itemOrd) false tok'
  have tot : ∀ a b : β, (PySem.W.sortLe (listOrd itemOrd) false tok a b || PySem.W.sortLe (listOrd itemOrd) false tok b a) = true := fun a b => by
    rw [Bool.or_eq_true]
    exact T.total a b
  have tot' : ∀ a b : β, (PySem.W.sortLe (listOrd itemOrd) false tok' a b || PySem.W.sortLe (listOrd itemOrd) false tok' b a) = true := fun a b => by
    rw [Bool.or_eq_true]
    exact T'.total a b
  have p1 := List.pairwise_mergeSort T.trans tot l
  have p2 := List.pairwise_mergeSort T'.trans tot' l'
  have m1 : ∀ a, a ∈ sortE tok l → a ∈ l := fun a h => (sortE_perm tok l).mem_iff.mp h
  have m2 : ∀ a, a ∈ sortE tok' l' → a ∈ l := fun a h => hp.mem_iff.mpr ((sortE_perm tok' l').mem_iff.mp h)
  have p1' : (sortE tok l).Pairwise (fun a b => PySem.W.sortLe (listOrd itemOrd) false tok' a b = true) := by
    refine List.Pairwise.imp_of_mem (fun {a b} ha hb h => ?_) p1
    have h' : (!LX (tok b) (tok a)) = true := h
    show (!LX (tok' b) (tok' a)) = true
    rw [← hle b (m1 b hb) a (m1 a ha)]
    exact h'
  refine List.Perm.eq_of_pairwise (le := fun a b => PySem.W.sortLe (listOrd itemOrd) false tok' a b = true) (fun a b ha hb h1 h2 => ?_) p1' p2 ((sortE_perm tok l).trans (hp.trans (sortE_perm tok' l').symm))
  refine hi a (m1 a ha) b (m2 b hb) ((listOrd itemOrd).total _ _ ?_ ?_)
  · have h2' : (!LX (tok' a) (tok' b)) = true := h2
    rw [Bool.not_eq_true'] at h2'
    exact h2'
  · have h1' : (!LX (tok' b) (tok' a)) = true := h1
    rw [Bool.not_eq_true'] at h1'
    exact h1'
theorem LX_diff {d e : D} (h1 : noLd d = true) (h2 : noLd e = true) (hc : cpb (toPy d) (toPy e) = true) (hn : PyData.eqv (toPy d) (toPy e) = false) (x y : List (Int ⊕ List Nat)) : LX (tkD d ++ x) (tkD e ++ y) = LX (tkD d) (tkD e) := by
  have z := tk_lex d e h1 h2 hc [] []
  rw [List.append_nil, List.append_nil] at z
  rw [z, tk_lex d e h1 h2 hc x y, hn, if_neg Bool.false_ne_true, if_neg Bool.false_ne_true]
theorem LX_same {d e : D} (h1 : noLd d = true) (h2 : noLd e = true) (hc : cpb (toPy d) (toPy e) = true) (hn : PyData.eqv (toPy d) (toPy e) = true) (x y : List (Int ⊕ List Nat)) : LX (tkD d ++ x) (tkD e ++ y) = LX x y := by
  rw [tk_lex d e h1 h2 hc x y, hn, if_pos rfl]
mutual
theorem eqv_toPy : ∀ d e : D, noLd d = true → noLd e = true → PyData.eqv (toPy d) (toPy e) = true → cpb (toPy d) (toPy e) = true → toPy d = toPy e
  | .lst, _, h, _, _, _ => by cases h
  | _, .lst, _, h, _, _ => by cases h
  | .at v, .at u, g1, g2, h, hc => by
    clear g1 g2
    cases v <;> cases u <;> first
      | rfl
      | (cases hc; done)
      | (rename_i a b
         have e : a = b := by first
          | (cases a <;> cases b <;> simp_all [toPy, PyData.eqv]; done)
          | (simpa [toPy, PyData.eqv] using h)
         rw [e])
  | .at v, .tup _, _, _, _, hc => by cases v <;> cases hc
  | .tup _, .at v, _, _, _, hc => by cases v <;> cases hc
  | .tup ts, .tup us, h1, h2, h, hc => by
    show PyData.tuple (toPys ts) = .tuple (toPys us)
    rw [eqvs_toPy ts us h1 h2 (by simpa [toPy, PyData.eqv] using h) hc]
theorem eqvs_toPy : ∀ d e : List D, noLds d = true → noLds e = true → PyData.eqvAll (toPys d) (toPys e) = true → cpbs (toPys d) (toPys e) = true → toPys d = toPys e
  | [], [], _, _, _, _ => rfl
  | [], _ :: _, _, _, h, _ => by simp [toPys, PyData.eqvAll] at h
  | _ :: _, [], _, _, h, _ => by simp [toPys, PyData.eqvAll] at h
  | a :: as, b :: bs, h1, h2, h, hc => by
    have k1 := Bool.and_eq_true_iff.mp h1
    have k2 := Bool.and_eq_true_iff.mp h2
    have h' : (PyData.eqv (toPy a) (toPy b) && PyData.eqvAll (toPys as) (toPys bs)) = true := by simpa [toPys, PyData.eqvAll] using h
    have h3 := Bool.and_eq_true_iff.mp h'
    obtain ⟨c1, c2⟩ := cpbs_cons (x := toPy a) (y := toPy b) (xs := toPys as) (ys := toPys bs) hc
    show toPy a :: toPys as = toPy b :: toPys bs
    rw [eqv_toPy a b k1.1 k2.1 h3.1 c1, eqvs_toPy as bs k1.2 k2.2 h3.2 (c2 h3.1)]
end
theorem tkD_eqv {d e : D} (h1 : noLd d = true) (h2 : noLd e = true) (hc : cpb (toPy d) (toPy e) = true) (he : cpb (toPy e) (toPy e) = true) (h : tkD d = tkD e) : toPy d = toPy e := by
  cases q : PyData.eqv (toPy d) (toPy e) with
  | true => exact eqv_toPy d e h1 h2 q hc
  | false =>
    have z1 := tk_lex d e h1 h2 hc [] [.inl 0]
    have z2 := tk_lex d e h1 h2 hc [.inl 0] []
    have er := SeqAt.eqv_refl_plain (toPy e) (plain_noL e h2)
    rw [h, LX_same h2 h2 he er, q, if_neg Bool.false_ne_true] at z1 z2
    rw [← z1] at z2
    cases z2
theorem tkP_inj {s t : List Stp} (hs : OkS s) (ht : OkS t) (h : tkD (playD s) = tkD (playD t)) : s = t :=
  play_inj (tkD_eqv (noLd_play s) (noLd_play t) (cpb_play hs ht) (cpb_play ht ht) h)
theorem tkR_inj {r t : Row} (hr : OkR r) (ht : OkR t) (h : tkD (rowD r) = tkD (rowD t)) : r = t :=
  row_inj (tkD_eqv (noLd_row r) (noLd_row t) (cpb_row hr ht) (cpb_row ht ht) h)
/-- rows whose sights differ: in the order of their sights -/
theorem LX_rows {r t : Row} (hr : OkR r) (ht : OkR t) (hn : r.1 = t.1 → r = t) : LX (tkD (rowD r)) (tkD (rowD t)) = LX (tkD (playD r.1)) (tkD (playD t.1)) := by
  show LX (.inl 1 :: (tkD (playD r.1) ++ _)) (.inl 1 :: (tkD (playD t.1) ++ _)) = _
  rw [show LX (.inl 1 :: (tkD (playD r.1) ++ tkDs [stD r.2])) (.inl 1 :: (tkD (playD t.1) ++ tkDs [stD t.2])) = LX (tkD (playD r.1) ++ tkDs [stD r.2]) (tkD (playD t.1) ++ tkDs [stD t.2]) from PyProof.Rows.lex_self _ _ _]
  cases q : PyData.eqv (toPy (playD r.1)) (toPy (playD t.1)) with
  | false => exact LX_diff (noLd_play _) (noLd_play _) (cpb_play hr.1 ht.1) q _ _
  | true =>
    have e := play_inj (eqv_toPy _ _ (noLd_play _) (noLd_play _) q (cpb_play hr.1 ht.1))
    have e2 := hn e
    subst e2
    rw [show ∀ a, LX a a = false from fun a => (listOrd itemOrd).irrefl a, show ∀ a, LX a a = false from fun a => (listOrd itemOrd).irrefl a]
/-- the rows in order -/
abbrev sortR (rows : List Row) : List Row := sortE (fun r => tkD (rowD r)) rows
abbrev sortP (ss : List (List Stp)) : List (List Stp) := sortE (fun s => tkD (playD s)) ss
theorem sortR_perm {rows rows' : List Row} (h : rows.Perm rows') (hk : ∀ r ∈ rows, OkR r) : sortR rows = sortR rows' :=
  sort_one h (fun _ _ _ _ => rfl) fun a ha b hb e => tkR_inj (hk a ha) (hk b hb) e
theorem key_one {rows : List Row} (hn : (keysR rows).Nodup) {a b : Row} (ha : a ∈ rows) (hb : b ∈ rows) (e : a.1 = b.1) : a = b := by
  obtain ⟨i, hi⟩ := List.mem_iff_getElem?.mp ha
  obtain ⟨j, hj⟩ := List.mem_iff_getElem?.mp hb
  have hi' : (keysR rows)[i]? = some a.1 := by rw [List.getElem?_map, hi]; rfl
  have hj' : (keysR rows)[j]? = some a.1 := by rw [List.getElem?_map, hj, e]; rfl
  have := (List.getElem?_inj (List.getElem?_eq_some_iff.mp hi').1 hn).mp (hi'.trans hj'.symm)
  subst this
  rw [hi] at hj
  exact Option.some.inj hj
theorem map_sort {α β : Type} (tok : β → List (Int ⊕ List Nat)) (f : α → β) (l : List α) : (sortE (fun a => tok (f a)) l).map f = sortE tok (l.map f) := by
  unfold sortE
  refine List.map_mergeSort (fun a ha b hb => rfl)
/-- the keys in order, each with its step: the rows in order -/
theorem sort_rows {rows : List Row} (hn : (keysR rows).Nodup) (hk : ∀ r ∈ rows, OkR r) (f : List Stp → Stp) (hf : ∀ r ∈ rows, f r.1 = r.2) : (sortP (keysR rows)).map (fun s => (s, f s)) = sortR rows := by
  have e1 : sortP (keysR rows) = (sortE (fun r : Row => tkD (playD r.1)) rows).map Prod.fst := (map_sort (fun s => tkD (playD s)) Prod.fst rows).symm
  have e2 : sortE (fun r : Row => tkD (playD r.1)) rows = sortR rows := sort_one (List.Perm.refl _) (fun a ha b hb => (LX_rows (hk a ha) (hk b hb) fun e => key_one hn ha hb e).symm) fun a ha b hb e => tkR_inj (hk a ha) (hk b hb) e
  rw [e1, e2, List.map_map]
  have m : ∀ r ∈ sortR rows, ((fun s => (s, f s)) ∘ Prod.fst) r = r := fun r hr => by
    have := hf r ((sortE_perm _ rows).mem_iff.mp hr)
    show (r.1, f r.1) = r
    rw [this]
  rw [List.map_congr_left m]
  exact List.map_id' _
end Pk

set_option maxRecDepth 100000
set_option maxHeartbeats 4000000
set_option pp.maxSteps 600
namespace Pk
open PySem PySem.Spec PyProof.Rows L2
theorem seq_rest {t u : TS} {D : Ends} {σ : L2.St} {H : Hp} (F : L2.St → Hp → Prop) (main : (∀ σ' H', F σ' H' → u D σ' H') → tSeq t u D σ H) (rest : ∀ σ' H', F σ' H' → u D σ' H') : tSeq t u D σ H := main rest
theorem nx_rest {t u : TS} {D : Ends} {σ : L2.St} {H : Hp} (F : L2.St → Hp → Prop) (main : (∀ σ' H', F σ' H' → u D σ' H') → tSeq t u D σ H) (rest : ∀ σ' H', F σ' H' → u D σ' H') : tNext { D with nx := tSeq t u D } σ H := main rest
theorem rel_ref (a : Addr) : RelV (V.ref a) (Value.ref a) := rfl
theorem new_none {H H' : Hp} (s : Same H H') {p : Addr} (h : H' p = none) : H p = none := by
  cases h0 : H p with
  | none => rfl
  | some o => rw [s _ _ h0] at h; cases h
theorem walk_enumT {K : PySem.W.Frag} {a : Addr} {xs : List V} : Walk (Itet K a) xs.length (fun H => SqT K H a xs) (YPair (fun i => some (.int (i : Nat))) (fun i => xs[i]?)) := by
  refine ⟨fun i H hi q => ⟨xs, xs[i], q, List.getElem?_eq_getElem hi⟩, fun H q => ⟨xs, q, Nat.le_refl _⟩, fun i H v H' hi q y => ?_⟩
  obtain ⟨T, x, h1, h2, h3, h4⟩ := y
  exact ⟨T, .int (i : Nat), x, h1, h2, h3, rfl, h4 xs q⟩
def nats (ns : List Nat) : List V := ns.map fun k => V.int (k : Nat)
theorem nats_len (ns : List Nat) : (nats ns).length = ns.length := List.length_map _
theorem nats_snoc (ns : List Nat) (k : Nat) : nats ns ++ [V.int (k : Nat)] = nats (ns ++ [k]) := by
  unfold nats
  rw [List.map_append]
  rfl
theorem reps_nats {K : PySem.W.Frag} {H : Hp} : ∀ ns : List Nat, Reps K H (nats ns) (ns.map numD')
  | [] => .nil
  | k :: r => .cons (.at rfl) (reps_nats r)
theorem rep_nats_inv {K : PySem.W.Frag} {H : Hp} : ∀ {ns : List Nat} {xs : List V}, Reps K H xs (ns.map numD') → xs = nats ns
  | [], xs, r => by
    cases r
    rfl
  | k :: ns, xs, r => by
    cases r with
    | cons r0 rs =>
      obtain ⟨e, _⟩ := Rep.inva r0
      rw [e, rep_nats_inv rs]
      rfl
section
variable {K : PySem.W.Frag} {H : Hp}
/-- a step as it stands -/
theorem step_inv {v : V} {s : Stp} (r : Rep K H v (stD s)) : ∃ a m b, v = .ref a ∧ TupAt K H a [m, b] ∧ Rep K H m (mvD s.mv) ∧ Rep K H b (bkD s.back) := by
  obtain ⟨a, xs, rfl, h, rs⟩ := Rep.inv (ts := [mvD s.mv, bkD s.back]) r
  cases rs with
  | @cons m _ _ _ r0 rs =>
    cases rs with
    | @cons b _ _ _ r1 rs =>
      cases rs
      exact ⟨a, m, b, rfl, h, r0, r1⟩
theorem ask_inv {m : V} {p : List Nat} (r : Rep K H m (mvD (.ask p))) : ∃ a q, m = .ref a ∧ TupAt K H a [.str "ask", q] ∧ Rep K H q (plD p) := by
  obtain ⟨a, xs, rfl, h, rs⟩ := Rep.inv (ts := [.at (.str "ask"), plD p]) r
  cases rs with
  | cons r0 rs =>
    cases rs with
    | cons r1 rs =>
      cases rs
      obtain ⟨rfl, _⟩ := r0.inva
      exact ⟨a, _, rfl, h, r1⟩
theorem say_inv {m : V} {v : Nat} (r : Rep K H m (mvD (.say v))) : ∃ a, m = .ref a ∧ TupAt K H a [.str "say", .int (v : Nat)] := by
  obtain ⟨a, xs, rfl, h, rs⟩ := Rep.inv (ts := [.at (.str "say"), numD' v]) r
  cases rs with
  | cons r0 rs =>
    cases rs with
    | cons r1 rs =>
      cases rs
      obtain ⟨rfl, _⟩ := r0.inva
      obtain ⟨rfl, _⟩ := Rep.inva r1
      exact ⟨a, rfl, h⟩
theorem play_inv {v : V} {pl : List Stp} (r : Rep K H v (playD pl)) : ∃ a xs, v = .ref a ∧ TupAt K H a xs ∧ Reps K H xs (pl.map stD) ∧ xs.length = pl.length := by
  obtain ⟨a, xs, e, h, rs⟩ := Rep.inv (ts := pl.map stD) r
  have := rs.length
  rw [List.length_map] at this
  exact ⟨a, xs, e, h, rs, this⟩
theorem play_at {xs : List V} {pl : List Stp} {n : Nat} {s : Stp} (r : Reps K H xs (pl.map stD)) (e : pl[n]? = some s) : ∃ x, xs[n]? = some x ∧ Rep K H x (stD s) := by
  have e2 : (pl.map stD)[n]? = some (stD s) := by rw [List.getElem?_map, e]; rfl
  exact r.getD e2
end
/-! ### a dict from sights to steps -/
def kyP (s : List Stp) : NestedKey := kyD (playD s)
theorem kyDs_nums : ∀ p q : List Nat, kyDs (p.map numD') = kyDs (q.map numD') → p = q
  | [], [], _ => rfl
  | [], _ :: _, h => by cases h
  | _ :: _, [], h => by cases h
  | a :: p, b :: q, h => by
    injection h with h1 h2
    injection h1 with h1
    rw [kyDs_nums p q h2, show a = b by omega]
theorem kyM_inj {m n : Mv} (h : kyD (mvD m) = kyD (mvD n)) : m = n := by
  cases m with
  | say v =>
    cases n with
    | say u =>
      injection h with h
      injection h with _ h
      injection h with h _
      injection h with h
      rw [show v = u by omega]
    | ask q =>
      injection h with h
      injection h with h _
      injection h with h
      exact absurd h (by decide +kernel)
  | ask p =>
    cases n with
    | say u =>
      injection h with h
      injection h with h _
      injection h with h
      exact absurd h (by decide +kernel)
    | ask q =>
      injection h with h
      injection h with _ h
      injection h with h _
      injection h with h
      rw [kyDs_nums p q h]
theorem kyS_inj {x y : Stp} (h : kyD (stD x) = kyD (stD y)) : x = y := by
  obtain ⟨m, k⟩ := x
  obtain ⟨n, l⟩ := y
  injection h with h
  injection h with h1 h
  injection h with h2 _
  have h1' : kyD (mvD m) = kyD (mvD n) := h1
  have h2' : kyD (bkD k) = kyD (bkD l) := h2
  clear h1 h2
  rw [kyM_inj h1']
  cases k with
  | none =>
    cases l with
    | none => rfl
    | some j => cases h2'
  | some i =>
    cases l with
    | none => cases h2'
    | some j =>
      injection h2' with h2'
      rw [show i = j by omega]
theorem kySs_inj : ∀ {s t : List Stp}, kyDs (s.map stD) = kyDs (t.map stD) → s = t
  | [], [], _ => rfl
  | [], _ :: _, h => by cases h
  | _ :: _, [], h => by cases h
  | x :: r, y :: t, h => by
    injection h with h1 h2
    rw [kyS_inj h1, kySs_inj h2]
theorem kyP_inj {s t : List Stp} (h : kyP s = kyP t) : s = t := by
  injection h with h
  exact kySs_inj h
theorem keyP {K : PySem.W.Frag} {H : Hp} {b : Addr} {s : List Stp} (r : Rep K H (.ref b) (playD s)) : KeyAt K H (kyP s) b := ⟨_, r, noLd_play s, Nat.le_trans (dep_play s) (by decide), rfl⟩
abbrev EntR (K : PySem.W.Frag) (H : Hp) : Ent → Row → Prop := fun x r => x.1 = kyP r.1 ∧ Rep K H (.ref x.2.1) (playD r.1) ∧ Rep K H x.2.2 (stD r.2)
theorem entR_mono {K : PySem.W.Frag} {H H' : Hp} (k : Kx H H') : ∀ {xs : List Ent} {rows : List Row}, Paired (EntR K H) xs rows → Paired (EntR K H') xs rows
  | _, _, .nil => .nil
  | _, _, .cons ⟨h1, h2, h3⟩ t => .cons ⟨h1, h2.mono k, h3.mono k⟩ (entR_mono k t)
theorem entR_keys {K : PySem.W.Frag} {H : Hp} : ∀ {xs : List Ent} {rows : List Row}, Paired (EntR K H) xs rows → ∀ e ∈ xs, KeyAt K H e.1 e.2.1
  | _, _, .nil, e, he => by cases he
  | x :: xs, r :: rows, .cons ⟨h1, h2, h3⟩ t, e, he => by
    rcases List.mem_cons.mp he with rfl | he
    · rw [h1]
      exact keyP h2
    · exact entR_keys t e he
theorem entR_app {K : PySem.W.Frag} {H : Hp} : ∀ {xs ys : List Ent} {rows rows' : List Row}, Paired (EntR K H) xs rows → Paired (EntR K H) ys rows' → Paired (EntR K H) (xs ++ ys) (rows ++ rows')
  | _, _, _, _, .nil, s => s
  | _, _, _, _, .cons h t, s => .cons h (entR_app t s)
theorem entR_reps {K : PySem.W.Frag} {H : Hp} : ∀ {xs : List Ent} {rows : List Row}, Paired (EntR K H) xs rows → Reps K H (xs.map fun e => V.ref e.2.1) ((keysR rows).map playD)
  | _, _, .nil => .nil
  | _, _, .cons ⟨_, h2, _⟩ t => .cons h2 (entR_reps t)
/-- what the rows hold at a sight -/
def lkR (rows : List Row) (s : List Stp) : Option Stp := (rows.find? fun r => decide (r.1 = s)).map Prod.snd
theorem lkR_cons (r : Row) (rows : List Row) (s : List Stp) : lkR (r :: rows) s = if r.1 = s then some r.2 else lkR rows s := by
  unfold lkR
  rw [List.find?_cons]
  by_cases h : r.1 = s
  · rw [if_pos h, decide_eq_true h]
    rfl
  · rw [if_neg h, decide_eq_false h]
theorem lkR_none {rows : List Row} {s : List Stp} (h : s ∉ keysR rows) : lkR rows s = none := by
  induction rows with
  | nil => rfl
  | cons r rows ih =>
    rw [lkR_cons, if_neg (fun e => h (by rw [← e]; exact List.mem_cons_self ..))]
    exact ih fun m => h (List.mem_cons_of_mem _ m)
theorem lkR_mem {rows : List Row} {s : List Stp} {x : Stp} (h : lkR rows s = some x) : (s, x) ∈ rows := by
  induction rows with
  | nil => cases h
  | cons r rows ih =>
    rw [lkR_cons] at h
    by_cases e : r.1 = s
    · rw [if_pos e] at h
      have e2 := Option.some.inj h
      subst e e2
      exact List.mem_cons_self ..
    · rw [if_neg e] at h
      exact List.mem_cons_of_mem _ (ih h)
theorem lkR_some {rows : List Row} (hn : (keysR rows).Nodup) {r : Row} (h : r ∈ rows) : lkR rows r.1 = some r.2 := by
  induction rows with
  | nil => cases h
  | cons q rows ih =>
    rw [lkR_cons]
    obtain ⟨n1, n2⟩ := List.nodup_cons.mp (show (q.1 :: keysR rows).Nodup from hn)
    rcases List.mem_cons.mp h with rfl | h
    · rw [if_pos rfl]
    · rw [if_neg (fun e => n1 (by rw [e]; exact List.mem_map.mpr ⟨r, h, rfl⟩))]
      exact ih n2 h
theorem lkR_append (rows rows' : List Row) (s : List Stp) : lkR (rows ++ rows') s = (lkR rows s).or (lkR rows' s) := by
  induction rows with
  | nil => rfl
  | cons r rows ih =>
    show lkR (r :: (rows ++ rows')) s = _
    rw [lkR_cons, lkR_cons, ih]
    by_cases h : r.1 = s
    · rw [if_pos h, if_pos h]
      rfl
    · rw [if_neg h, if_neg h]
theorem atV_cons (x : Ent) (xs : List Ent) (k : NestedKey) : atV (x :: xs) k = if x.1 = k then some x.2.2 else atV xs k := by
  unfold atV
  rw [List.find?_cons]
  by_cases h : x.1 = k
  · rw [if_pos h, decide_eq_true h]
    rfl
  · rw [if_neg h, decide_eq_false h]
theorem entR_at {K : PySem.W.Frag} {H : Hp} : ∀ {xs : List Ent} {rows : List Row}, Paired (EntR K H) xs rows → ∀ s, (lkR rows s = none ∧ atV xs (kyP s) = none) ∨ ∃ x v, lkR rows s = some x ∧ atV xs (kyP s) = some v ∧ Rep K H v (stD x)
  | _, _, .nil, s => .inl ⟨rfl, rfl⟩
  | x :: xs, r :: rows, .cons ⟨h1, h2, h3⟩ t, s => by
    rw [lkR_cons, atV_cons]
    by_cases e : r.1 = s
    · rw [if_pos e, if_pos (by rw [h1, e])]
      exact .inr ⟨_, _, rfl, rfl, h3⟩
    · rw [if_neg e, if_neg (fun z => e (kyP_inj (h1.symm.trans z)))]
      exact entR_at t s
theorem entR_some {K : PySem.W.Frag} {H : Hp} {xs : List Ent} {rows : List Row} (p : Paired (EntR K H) xs rows) {s : List Stp} {x : Stp} (h : lkR rows s = some x) : ∃ v, atV xs (kyP s) = some v ∧ Rep K H v (stD x) := by
  rcases entR_at p s with ⟨h1, _⟩ | ⟨y, v, h1, h2, h3⟩
  · rw [h] at h1
    cases h1
  · rw [h] at h1
    cases h1
    exact ⟨v, h2, h3⟩
theorem entR_none {K : PySem.W.Frag} {H : Hp} {xs : List Ent} {rows : List Row} (p : Paired (EntR K H) xs rows) {s : List Stp} (h : lkR rows s = none) : atV xs (kyP s) = none := by
  rcases entR_at p s with ⟨_, h1⟩ | ⟨y, v, h1, h2, h3⟩
  · exact h1
  · rw [h] at h1
    cases h1
theorem putV_new {xs : List Ent} {k : NestedKey} (h : atV xs k = none) (a : Addr) (v : V) : putV xs k a v = xs ++ [(k, a, v)] := by
  unfold putV
  rw [h]
  rfl
/-- a dict of rows at a -/
def DR (P : Program) (w : World) (K : PySem.W.Frag) (H : Hp) (a : Addr) (rows : List Row) : Prop := ∃ xs, H a = some (DkO P w a xs) ∧ Paired (EntR K H) xs rows
theorem ne_ext {H : Hp} {a b : Addr} {P : Program} {w : World} {xs : List Ent} {o : HO} (h : H a = some (DkO P w a xs)) (h' : H b = some o) (n : ∀ φ, o ≠ .ext φ) : b ≠ a := ne_of h' h (n _)
/-- all but a dict is as it was -/
theorem sb_kxE {P : Program} {w : World} {H H' : Hp} {a : Addr} {xs : List Ent} (h : H a = some (DkO P w a xs)) (s : SB a H H') : Kx H H' :=
  ⟨fun b zs e => s _ _ (ne_ext h e (fun _ q => nomatch q)) e, fun b zs e => ⟨zs, s _ _ (ne_ext h e (fun _ q => nomatch q)) e⟩⟩
theorem DR.sbkx {P : Program} {w : World} {K : PySem.W.Frag} {H H' : Hp} {a : Addr} {rows : List Row} (d : DR P w K H a rows) (s : SB a H H') : Kx H H' := let ⟨_, h, _⟩ := d; sb_kxE h s
theorem DR.same {P : Program} {w : World} {K : PySem.W.Frag} {H H' : Hp} {a : Addr} {rows : List Row} (d : DR P w K H a rows) (s : Same H H') : DR P w K H' a rows := let ⟨xs, h, p⟩ := d; ⟨xs, s _ _ h, entR_mono (kx_same s) p⟩
theorem DR.len {K : PySem.W.Frag} {H : Hp} {rows : List Row} {xs : List Ent} (p : Paired (EntR K H) xs rows) : xs.length = rows.length := Paired.length p
/-- the dict with one more row -/
theorem DR.put {P : Program} {w : World} {K : PySem.W.Frag} {H : Hp} {a b : Addr} {rows : List Row} {xs : List Ent} {s : List Stp} {x : Stp} {v : V} (h : H a = some (DkO P w a xs)) (p : Paired (EntR K H) xs rows) (hn : lkR rows s = none) (rs : Rep K H (.ref b) (playD s)) (rv : Rep K H v (stD x)) :
    DR P w K (upd H a (DkO P w a (putV xs (kyP s) b v))) a (rows ++ [(s, x)]) := by
  rw [putV_new (entR_none p hn)]
  have k : Kx H (upd H a (DkO P w a (xs ++ [(kyP s, b, v)]))) := sb_kxE h (sb_upd _)
  refine ⟨_, upd_same, ?_⟩
  exact entR_app (entR_mono k p) (.cons ⟨rfl, rs.mono k, rv.mono k⟩ .nil)
end Pk

set_option maxRecDepth 100000
set_option maxHeartbeats 4000000
set_option pp.maxSteps 600
namespace Pk
open PySem PySem.Spec PyProof.Rows L2
/-! ### parts of programs as they stand -/
section
variable {K : PySem.W.Frag} {H : Hp}
theorem saysay_inv {x : V} {v : Nat} (r : Rep K H x (toD (.say v))) : ∃ a, x = .ref a ∧ TupAt K H a [.str "say", .int (v : Nat)] := by
  obtain ⟨a, xs, rfl, h, rs⟩ := Rep.inv (ts := [.at (.str "say"), .at (.int (v : Nat))]) r
  cases rs with
  | cons r0 rs =>
    cases rs with
    | cons r1 rs =>
      cases rs
      obtain ⟨rfl, _⟩ := Rep.inva r0
      obtain ⟨rfl, _⟩ := Rep.inva r1
      exact ⟨a, rfl, h⟩
theorem stop_inv {x : V} (r : Rep K H x (toD .stop)) : ∃ a, x = .ref a ∧ TupAt K H a [.str "stop"] := by
  obtain ⟨a, xs, rfl, h, rs⟩ := Rep.inv (ts := [.at (.str "stop")]) r
  cases rs with
  | cons r0 rs =>
    cases rs
    obtain ⟨rfl, _⟩ := Rep.inva r0
    exact ⟨a, rfl, h⟩
theorem askb_inv {x : V} {up k : Nat} {as : List T} {z o : T} (r : Rep K H x (toD (.ask up k as z o))) : ∃ a b xs zv ov, x = .ref a ∧ TupAt K H a [.str "ask", .int (up : Nat), .int (k : Nat), .ref b, zv, ov] ∧ TupAt K H b xs ∧ Reps K H xs (toDs as) ∧ Rep K H zv (toD z) ∧ Rep K H ov (toD o) := by
  obtain ⟨a, xs, rfl, h, rs⟩ := Rep.inv (ts := [.at (.str "ask"), .at (.int (up : Nat)), .at (.int (k : Nat)), .tup (toDs as), toD z, toD o]) r
  cases rs with
  | cons r0 rs =>
    cases rs with
    | cons r1 rs =>
      cases rs with
      | cons r2 rs =>
        cases rs with
        | cons r3 rs =>
          cases rs with
          | cons r4 rs =>
            cases rs with
            | cons r5 rs =>
              cases rs
              obtain ⟨rfl, _⟩ := Rep.inva r0
              obtain ⟨rfl, _⟩ := Rep.inva r1
              obtain ⟨rfl, _⟩ := Rep.inva r2
              obtain ⟨b, xs, rfl, hb, rb⟩ := r3.inv
              exact ⟨a, b, xs, _, _, rfl, h, hb, rb, r4, r5⟩
theorem prog_inv {x : V} {m : Nat} {b : T} (r : Rep K H x (toD (.prog m b))) : ∃ a bv, x = .ref a ∧ TupAt K H a [.str "program", .int (m : Nat), bv] ∧ Rep K H bv (toD b) := by
  obtain ⟨a, xs, rfl, h, rs⟩ := Rep.inv (ts := [.at (.str "program"), .at (.int (m : Nat)), toD b]) r
  cases rs with
  | cons r0 rs =>
    cases rs with
    | cons r1 rs =>
      cases rs with
      | cons r2 rs =>
        cases rs
        obtain ⟨rfl, _⟩ := Rep.inva r0
        obtain ⟨rfl, _⟩ := Rep.inva r1
        exact ⟨a, _, rfl, h, r2⟩
theorem toDs_get : ∀ {l : List T} {i : Nat} {t : T}, l[i]? = some t → (toDs l)[i]? = some (toD t)
  | [], _, _, h => by simp at h
  | t :: r, 0, e, h => by
    cases Option.some.inj h
    rfl
  | t :: r, i + 1, e, h => toDs_get (l := r) (i := i) h
end
theorem wfPs_at : ∀ {ks ds : List D} {ts : List T} {i : Nat} {t : T}, wfPs ks ds ts = true → ts[i]? = some t → ∃ d, ds[i]? = some d ∧ wfP ks d t = true
  | ks, ds, [], i, t, _, h => by simp at h
  | ks, ds, u :: ts, 0, t, hw, h => by
    obtain ⟨d, ds', rfl, w1, w2⟩ := wfPs_cons hw
    cases Option.some.inj h
    exact ⟨d, rfl, w1⟩
  | ks, ds, u :: ts, i + 1, t, hw, h => by
    obtain ⟨d, ds', rfl, w1, w2⟩ := wfPs_cons hw
    exact wfPs_at (ts := ts) (i := i) w2 h
theorem wfPs_len : ∀ {ks ds : List D} {ts : List T}, wfPs ks ds ts = true → ts.length = ds.length
  | ks, [], [], _ => rfl
  | ks, ds, u :: ts, hw => by
    obtain ⟨d, ds', rfl, w1, w2⟩ := wfPs_cons hw
    exact congrArg Nat.succ (wfPs_len w2)
  | ks, _ :: _, [], h => by cases h
theorem nasksL_at : ∀ {ts : List T} {i : Nat} {t : T}, ts[i]? = some t → nasks t ≤ nasksL ts
  | [], _, _, h => by simp at h
  | u :: ts, 0, t, h => by
    cases Option.some.inj h
    exact Nat.le_add_right _ _
  | u :: ts, i + 1, t, h => Nat.le_trans (nasksL_at (ts := ts) (i := i) h) (Nat.le_add_left _ _)
theorem szTs_at : ∀ {ts : List T} {i : Nat} {t : T}, ts[i]? = some t → szTs (ts.take i) + szT t ≤ szTs ts
  | [], _, _, h => by simp at h
  | u :: ts, 0, t, h => by
    cases Option.some.inj h
    show 0 + szT u ≤ szT u + szTs ts
    omega
  | u :: ts, i + 1, t, h => by
    have := szTs_at (ts := ts) (i := i) h
    show szT u + szTs (ts.take i) + szT t ≤ szT u + szTs ts
    omega
theorem rowsPs_snoc : ∀ {ts : List T} {i : Nat} {m : Nat} {b : T} (p : List Nat) (l : List Stp) (n : Nat) (cs : List Nat) (j : Nat), ts[i]? = some (.prog m b) → rowsPs (ts.take (i + 1)) p l n cs j = rowsPs (ts.take i) p l n cs j ++ rowsB b (l ++ [⟨.ask (p ++ [j + i]), some n⟩]) ((n + 1) :: cs)
  | [], _, _, _, _, _, _, _, _, h => by simp at h
  | u :: ts, 0, m, b, p, l, n, cs, j, h => by
    cases Option.some.inj h
    show rowsB b _ _ ++ rowsPs (ts.take 0) p l n cs (j + 1) = [] ++ rowsB b _ _
    rw [List.take_zero]
    show rowsB b _ _ ++ [] = _
    rw [List.append_nil, List.nil_append]
    rfl
  | u :: ts, i + 1, m, b, p, l, n, cs, j, h => by
    have ih := rowsPs_snoc (ts := ts) (i := i) p l n cs (j + 1) h
    have e : j + 1 + i = j + (i + 1) := by omega
    rw [e] at ih
    cases u with
    | prog m2 b2 =>
      show rowsB b2 _ _ ++ rowsPs (ts.take (i + 1)) p l n cs (j + 1) = (rowsB b2 _ _ ++ rowsPs (ts.take i) p l n cs (j + 1)) ++ _
      rw [ih, List.append_assoc]
    | say v => exact ih
    | stop => exact ih
    | ask _ _ _ _ _ => exact ih
/-! ### _law_rows_behind -/
section
variable {P : Program} {w : World} {K : PySem.W.Frag} {mg : Str → Option Value} {base : Heap}
def spRB (P : Program) (w : World) (K : PySem.W.Frag) (n : Nat) : Sp := fun vs H Q _ => ∃ (a c : Addr) (bv sv : V) (t : T) (ks : List D) (s : List Stp) (cs : List Nat) (rows : List Row), vs = [.ref a, bv, sv, .ref c] ∧ DR P w K H a rows ∧ Rep K H bv (toD t) ∧ Rep K H sv (playD s) ∧ H c = some (.lst (nats cs.reverse)) ∧
  wfB ks t = true ∧ cs.length = ks.length ∧ ks ≠ [] ∧ OkS s ∧ OkC s cs ∧ nasks t < n ∧ s.length + 2 * nasks t ≤ 1000 ∧ ks.length + nasks t ≤ 1000 ∧ (∀ k ∈ ks, Kd k) ∧ rows.length + szT t ≤ 100000 ∧ (∀ e ∈ rows, ¬ s <+: e.1) ∧
  ∀ (H' : Hp), DR P w K H' a (rows ++ rowsB t s cs) → SB a H H' → Q (.ref a) H'
theorem call_at {cs : List Nat} {up : Nat} (hu : up < cs.length) : atI (nats cs.reverse) (((nats cs.reverse).length : Nat) - 1 - (up : Nat) : Int) = some (.int (cs.getD up 0 : Nat)) := by
  have hl : (nats cs.reverse).length = cs.length := by rw [nats_len, List.length_reverse]
  have e : (((nats cs.reverse).length : Nat) - 1 - (up : Nat) : Int) = ((cs.length - 1 - up : Nat) : Int) := by omega
  rw [e]
  refine atI_nat ?_
  unfold nats
  rw [List.getElem?_map, rev_at cs up hu, List.getElem?_eq_getElem hu]
  rw [List.getD_eq_getElem?_getD, List.getElem?_eq_getElem hu]
  rfl
theorem fresh_key {rows : List Row} {s : List Stp} (h : ∀ e ∈ rows, ¬ s <+: e.1) : lkR rows s = none := lkR_none fun m => by
  obtain ⟨e, he, rfl⟩ := mem_keys m
  exact h e he (List.prefix_refl _)
theorem fresh_of {l t : List Stp} {x y : Stp} (h : l ++ [x] <+: t) (n : x ≠ y) : ¬ l ++ [y] <+: t := fun z => n (pre_two h z)
theorem rb_body {u : Addr} {K : PySem.W.Frag} {H : Hp} {xs : List V} {as : List T} {i m : Nat} {b : T} (r : Reps K H xs (toDs as)) (h : as[i]? = some (.prog m b)) : ∃ a bv, xs[i]? = some (.ref a) ∧ TupAt K H a [.str "program", .int (m : Nat), bv] ∧ Rep K H bv (toD b) := by
  obtain ⟨x, hx, rx⟩ := r.getD (toDs_get h)
  obtain ⟨a, bv, rfl, h1, h2⟩ := prog_inv rx
  exact ⟨a, bv, hx, h1, h2⟩
theorem snoc_rep {K : PySem.W.Frag} {H H' : Hp} {a p q r : Addr} {xs : List V} {s : List Stp} {x : Stp} (rs : Reps K H xs (s.map stD)) (m : Kx H H') (h : TupAt K H' a (xs ++ [.ref p])) (rx : Rep K H' (.ref p) (stD x)) : Rep K H' (.ref a) (playD (s ++ [x])) := by
  unfold playD
  rw [List.map_append]
  exact .tup h ((rs.mono m).append (.one rx))
end
end Pk

set_option maxRecDepth 100000
set_option maxHeartbeats 4000000
set_option pp.maxSteps 600
namespace Pk
open PySem PySem.Spec PyProof.Rows L2
/-! ### _law_rows, _law_told_rows, _law_meaning -/
section
variable {P : Program} {w : World} {K : PySem.W.Frag} {mg : Str → Option Value} {base : Heap}
def progB : T → T
  | .prog _ b => b
  | t => t
abbrev rowsT (t : T) : List Row := rowsB (progB t) [BEG] [0]
def spRows (P : Program) (w : World) (K : PySem.W.Frag) : Sp := fun vs H Q _ => ∃ (v : V) (t : T) (kd : D), vs = [v] ∧ Rep K H v (toD t) ∧ wfP [] kd t = true ∧ Kd kd ∧ nasks t ≤ 100 ∧ szT t ≤ 90000 ∧
  ∀ (a : Addr) (H' : Hp), DR P w K H' a (rowsT t) → Same H H' → H a = none → Q (.ref a) H'
def stratD (kd : D) (rows : List Row) : D := .tup [.at (.str "strategy"), kd, .tup (rows.map rowD)]
def spTold (P : Program) (w : World) (K : PySem.W.Frag) : Sp := fun vs H Q _ => ∃ (v : V) (kd : D) (a : Addr) (rows : List Row), vs = [v, .ref a] ∧ Rep K H v kd ∧ DR P w K H a rows ∧ (keysR rows).Nodup ∧ (∀ r ∈ rows, OkR r) ∧ rows.length ≤ 500000 ∧
  ∀ (z : V) (H' : Hp), Same H H' → Rep K H' z (stratD kd (sortR rows)) → Q z H'
theorem sortP_len (rows : List Row) : (sortP (keysR rows)).length = rows.length := by
  rw [(sortE_perm _ _).length_eq]
  exact List.length_map _
theorem rowsT_ok {kd : D} {t : T} (hw : wfP [] kd t = true) : ∀ r ∈ rowsT t, OkR r := fun r hr => by
  obtain ⟨m, b, rfl, em, wb⟩ := wfP_inv hw
  have := rowsB_ok b [kd] [BEG] [0] wb rfl OkS.one (fun x hx => by
    rw [List.mem_singleton.mp hx]
    exact ⟨[], none, rfl⟩) r hr
  exact ⟨this.1, this.2.1⟩
theorem rowsT_len (t : T) : (rowsT t).length ≤ szT (progB t) := rowsB_len _ _ _
end
end Pk

set_option maxRecDepth 100000
set_option maxHeartbeats 4000000
set_option pp.maxSteps 600
namespace Pk
open PySem PySem.Spec PyProof.Rows L2
def OpOk (pl : List Stp) : Prop := ∀ n u b, pl[n]? = some ⟨.say u, b⟩ → ∃ j, b = some j ∧ j ∈ opens pl n
theorem opens_len (pl : List Stp) (m : Nat) : (opens pl m).length ≤ m := by
  induction m with
  | zero => exact Nat.le_refl 0
  | succ m ih =>
    cases hs : pl[m]? with
    | none =>
      have e : opens pl (m + 1) = opens pl m := by
        show (match pl[m]? with | some s => opnS (opens pl m) m s | none => opens pl m) = _
        rw [hs]
      rw [e]
      omega
    | some s =>
      rw [opens_succ hs]
      unfold opnS
      split
      · rw [List.length_append, List.length_singleton]
        omega
      · have := List.length_filter_le (fun j => decide (some j ≠ s.back)) (opens pl m)
        omega
/-! ### the kind at a place -/
def atD : D → List Nat → Option D
  | d, [] => some d
  | .tup ts, k :: p => match ts[k]? with
    | some t => atD t p
    | none => none
  | _, _ :: _ => none
theorem atD_cons {d e : D} {k : Nat} {p : List Nat} (h : atD d (k :: p) = some e) : ∃ ts t, d = .tup ts ∧ ts[k]? = some t ∧ atD t p = some e := by
  cases d with
  | «at» _ => cases h
  | lst => cases h
  | tup ts =>
    have h' : (match ts[k]? with | some t => atD t p | none => none) = some e := h
    cases ht : ts[k]? with
    | none =>
      rw [ht] at h'
      cases h'
    | some t =>
      rw [ht] at h'
      exact ⟨ts, t, rfl, ht, h'⟩
theorem atD_snoc : ∀ (p : List Nat) (d : D) (ts : List D) (k : Nat) (t : D), atD d p = some (.tup ts) → ts[k]? = some t → atD d (p ++ [k]) = some t
  | [], d, ts, k, t, h, hk => by
    have e : d = .tup ts := by
      cases d <;> exact Option.some.inj h
    subst e
    show (match ts[k]? with | some t => atD t [] | none => none) = some t
    rw [hk]
    cases t <;> rfl
  | j :: p, d, ts, k, t, h, hk => by
    obtain ⟨us, u, rfl, hu, h'⟩ := atD_cons h
    show (match us[j]? with | some t => atD t (p ++ [k]) | none => none) = some t
    rw [hu]
    exact atD_snoc p u ts k t h' hk
theorem atD_kind : ∀ (p : List Nat) (d e : D), isK d = true → atD d p = some e → isK e = true ∧ sz e ≤ sz d
  | [], d, e, hk, h => by
    have e0 : d = e := by cases d <;> exact Option.some.inj h
    subst e0
    exact ⟨hk, Nat.le_refl _⟩
  | k :: p, d, e, hk, h => by
    obtain ⟨ts, t, rfl, ht, h'⟩ := atD_cons h
    have m := List.mem_of_getElem? ht
    obtain ⟨i1, i2⟩ := atD_kind p t e (isK_mem hk m) h'
    have := sz_mem m
    exact ⟨i1, by show sz e ≤ szs ts + 1; omega⟩
/-! ### plays that go on legally -/
structure LP (kd : D) (pl : List Stp) : Prop where
  wb : WB pl
  ws : WS pl
  op : OpOk pl
  pa : ∀ (n : Nat) (p : List Nat) (b : Option Nat), pl[n]? = some (Stp.mk (.ask p) b) → ∃ e, atD kd p = some e
  len : pl.length ≤ 40
def Nxt (kd : D) (pl : List Stp) (s : Stp) : Prop := (pl = [] ∧ s = ⟨.ask [], none⟩) ∨ (pl ≠ [] ∧ ∃ j, s.back = some j ∧ j ∈ sight pl (pl.length - 1) ∧ ((∃ p e, s.mv = .ask p ∧ atD kd p = some e) ∨ ∃ v, s.mv = .say v ∧ j ∈ opens pl pl.length))
theorem LP.nil (kd : D) : LP kd [] := by
  refine ⟨⟨fun s e => ?_, fun n s _ e => ?_⟩, fun n _ h => absurd h (Nat.not_lt_zero n), fun n u b e => ?_, fun n p b e => ?_, Nat.zero_le _⟩
  all_goals simp at e
theorem LP.snoc {kd : D} {pl : List Stp} {s : Stp} (h : LP kd pl) (n : Nxt kd pl s) (hl : pl.length < 40) : LP kd (pl ++ [s]) := by
  have old : ∀ {m : Nat}, m < pl.length → (pl ++ [s])[m]? = pl[m]? := fun hm => List.getElem?_append_left hm
  have new : (pl ++ [s])[pl.length]? = some s := by
    rw [List.getElem?_append_right (Nat.le_refl _), Nat.sub_self]
    rfl
  have none_ : ∀ {m : Nat}, pl.length < m → (pl ++ [s])[m]? = none := fun hm => List.getElem?_eq_none (by rw [List.length_append, List.length_singleton]; omega)
  have back : pl ≠ [] → ∃ j, s.back = some j ∧ j ∈ sight pl (pl.length - 1) ∧ j < pl.length := fun hne => by
    rcases n with ⟨e, _⟩ | ⟨_, j, e1, e2, _⟩
    · exact absurd e hne
    · have hp : 0 < pl.length := List.length_pos_iff.mpr hne
      have := (sight_up h.wb (pl.length - 1) (by omega)).2 j e2
      exact ⟨j, e1, e2, by omega⟩
  have w : WB (pl ++ [s]) := by
    refine ⟨fun t e => ?_, fun m t h0 e => ?_⟩
    · by_cases hne : pl = []
      · subst hne
        rcases n with ⟨_, e2⟩ | ⟨e2, _⟩
        · have : some s = some t := e
          rw [← Option.some.inj this]
          exact e2
        · exact absurd rfl e2
      · rw [old (List.length_pos_iff.mpr hne)] at e
        exact h.wb.first t e
    · rcases Nat.lt_trichotomy m pl.length with hm | hm | hm
      · rw [old hm] at e
        exact h.wb.later m t h0 e
      · subst hm
        rw [new] at e
        obtain ⟨j, e1, _, e3⟩ := back (List.length_pos_iff.mp h0)
        rw [← Option.some.inj e]
        exact ⟨j, e1, e3⟩
      · rw [none_ hm] at e
        cases e
  have et : (pl ++ [s]).take pl.length = pl := by
    rw [List.take_append_of_le_length (Nat.le_refl _), List.take_length]
  have sg : ∀ m, m < pl.length → sight (pl ++ [s]) m = sight pl m := fun m hm => by
    have := sight_take w (k := pl.length) hm (by rw [List.length_append]; omega)
    rw [et] at this
    exact this.symm
  have so : ∀ m, m ≤ pl.length → opens (pl ++ [s]) m = opens pl m := fun m hm => by
    have := opens_take (pl ++ [s]) pl.length m hm
    rw [et] at this
    exact this.symm
  have sb : ∀ m, m < pl.length → bk (pl ++ [s]) m = bk pl m := fun m hm => by
    unfold bk
    rw [old hm]
  refine ⟨w, fun m h0 hm => ?_, fun m u b e => ?_, fun m p b e => ?_, by rw [List.length_append, List.length_singleton]; omega⟩
  · rw [List.length_append, List.length_singleton] at hm
    by_cases hlt : m < pl.length
    · rw [sb m hlt, sg (m - 1) (by omega)]
      exact h.ws m h0 hlt
    · have em : m = pl.length := by omega
      subst em
      obtain ⟨j, e1, e2, e3⟩ := back (List.length_pos_iff.mp h0)
      have eb : bk (pl ++ [s]) pl.length = j := by
        unfold bk
        rw [new]
        show (s.back).getD 0 = j
        rw [e1]
        rfl
      rw [eb, sg (pl.length - 1) (by omega)]
      exact e2
  · rcases Nat.lt_trichotomy m pl.length with hm | hm | hm
    · rw [old hm] at e
      rw [so m (by omega)]
      exact h.op m u b e
    · subst hm
      rw [new] at e
      have es := Option.some.inj e
      rw [so pl.length (Nat.le_refl _)]
      rcases n with ⟨_, e2⟩ | ⟨_, j, e1, _, ⟨p, _, e3, _⟩ | ⟨v, e3, e4⟩⟩
      · rw [es] at e2
        cases e2
      · rw [es] at e3
        cases e3
      · rw [es] at e1
        exact ⟨j, e1, e4⟩
    · rw [none_ hm] at e
      cases e
  · rcases Nat.lt_trichotomy m pl.length with hm | hm | hm
    · rw [old hm] at e
      exact h.pa m p b e
    · subst hm
      rw [new] at e
      have es := Option.some.inj e
      rcases n with ⟨_, e2⟩ | ⟨_, j, e1, _, ⟨q, e', e3, e4⟩ | ⟨v, e3, e4⟩⟩
      · rw [es] at e2
        injection e2 with e2 _
        injection e2 with e2
        subst e2
        exact ⟨kd, by cases kd <;> rfl⟩
      · rw [es] at e3
        injection e3 with e3
        subst e3
        exact ⟨e', e4⟩
      · rw [es] at e3
        cases e3
    · rw [none_ hm] at e
      cases e
theorem LP.take {kd : D} {pl : List Stp} (h : LP kd pl) (k : Nat) : LP kd (pl.take k) := by
  have old : ∀ {m : Nat}, m < k → (pl.take k)[m]? = pl[m]? := fun hm => List.getElem?_take_of_lt hm
  have lk : (pl.take k).length ≤ pl.length := by rw [List.length_take]; omega
  have hk : ∀ {m : Nat} {s : Stp}, (pl.take k)[m]? = some s → m < k := fun e => by
    have := (List.getElem?_eq_some_iff.mp e).1
    rw [List.length_take] at this
    omega
  refine ⟨h.wb.take k, fun m h0 hm => ?_, fun m u b e => ?_, fun m p b e => ?_, Nat.le_trans lk h.len⟩
  · rw [List.length_take] at hm
    rw [bk_take pl (by omega), sight_take h.wb (by omega) (by omega)]
    exact h.ws m h0 (by omega)
  · have hm := hk e
    rw [old hm] at e
    rw [opens_take pl k m (by omega)]
    exact h.op m u b e
  · have hm := hk e
    rw [old hm] at e
    exact h.pa m p b e
/-! ### the rows that go on legally, as they are made -/
def lastL (ns : List Nat) : List Nat := ns.drop (ns.length - 1)
theorem lastL_mem {ns : List Nat} {j : Nat} : j ∈ lastL ns ↔ ns.getLast? = some j := by
  unfold lastL
  rcases List.eq_nil_or_concat ns with rfl | ⟨r, a, rfl⟩
  · simp
  · rw [List.concat_eq_append, List.length_append, List.length_singleton, Nat.add_sub_cancel, List.drop_left, List.getLast?_append]
    simp [eq_comm]
theorem lastL_nodup (ns : List Nat) : (lastL ns).Nodup := by
  unfold lastL
  rcases List.eq_nil_or_concat ns with rfl | ⟨r, a, rfl⟩
  · simp
  · rw [List.concat_eq_append, List.length_append, List.length_singleton, Nat.add_sub_cancel, List.drop_left]
    simp
def kids (kd : D) (p : List Nat) : Nat := match atD kd p with
  | some (.tup ts) => ts.length
  | _ => 0
def askPl (pl : List Stp) (j : Nat) : Option (List Nat) := match pl[j]? with
  | some ⟨.ask p, _⟩ => some p
  | _ => none
def kidsOf (kd : D) (p : List Nat) (j : Nat) (k : Nat) : List Stp := (List.range k).map fun k => ⟨.ask (p ++ [k]), some j⟩
def says (j : Nat) : List Stp := [⟨.say 0, some j⟩, ⟨.say 1, some j⟩]
def asksAt (kd : D) (pl : List Stp) (j : Nat) : List Stp := match askPl pl j with
  | some p => kidsOf kd p j (kids kd p)
  | none => []
def stepsTo (kd : D) (pl : List Stp) (j : Nat) : List Stp := match askPl pl j with
  | some p => kidsOf kd p j (kids kd p) ++ says j
  | none => []
def askRows (kd : D) (pl : List Stp) (j : Nat) : List Stp := if (pl.length - j) % 2 = 1 then asksAt kd pl j else []
def sayRows (pl : List Stp) (j : Nat) : List Stp := if j ∈ sight pl (pl.length - 1) ∧ (pl.length - j) % 2 = 1 then says j else []
def rows (kd : D) (pl : List Stp) : List Stp := (sight pl (pl.length - 1)).flatMap (askRows kd pl) ++ (lastL (opens pl pl.length)).flatMap (sayRows pl)
def lawR (kd : D) (pl : List Stp) : List Stp := if pl = [] then [BEG] else sortE tokS (rows kd pl)
def plB (kd : D) (pl : List Stp) (j : Nat) (m : Mv) : Bool := match askPl pl j with
  | none => false
  | some q => match m with
    | .say _ => true
    | .ask p => decide (p ≠ []) && (decide (p.dropLast = q) && (atD kd p).isSome)
def lgB (kd : D) (pl : List Stp) (ns : List Nat) (s : Stp) : Bool := match s.back with
  | none => false
  | some j => decide ((pl.length - j) % 2 = 1) && (plB kd pl j s.mv && ((match s.mv with
    | .ask _ => true
    | .say _ => decide (ns.getLast? = some j)) && decide (j ∈ sight pl (pl.length - 1))))
/-- a say says 0 or 1 -/
def ShS (s : Stp) : Prop := ∀ u, s.mv = .say u → u ≤ 1
theorem mem_kids {kd : D} {p : List Nat} {j n : Nat} {s : Stp} : s ∈ kidsOf kd p j n ↔ ∃ k, k < n ∧ s = ⟨.ask (p ++ [k]), some j⟩ := by
  unfold kidsOf
  rw [List.mem_map]
  exact ⟨fun ⟨k, h, e⟩ => ⟨k, List.mem_range.mp h, e.symm⟩, fun ⟨k, h, e⟩ => ⟨k, List.mem_range.mpr h, e.symm⟩⟩
theorem mem_says {j : Nat} {s : Stp} : s ∈ says j ↔ ∃ u, u ≤ 1 ∧ s = ⟨.say u, some j⟩ := by
  unfold says
  rw [List.mem_cons, List.mem_singleton]
  constructor
  · rintro (rfl | rfl)
    · exact ⟨0, by omega, rfl⟩
    · exact ⟨1, by omega, rfl⟩
  · rintro ⟨u, h, rfl⟩
    have : u = 0 ∨ u = 1 := by omega
    rcases this with rfl | rfl
    · exact .inl rfl
    · exact .inr rfl
theorem askPl_some {pl : List Stp} {j : Nat} {p : List Nat} (h : askPl pl j = some p) : ∃ b, pl[j]? = some ⟨.ask p, b⟩ := by
  unfold askPl at h
  split at h
  · next q b e =>
    cases h
    exact ⟨b, e⟩
  · cases h
theorem askPl_of {pl : List Stp} {j : Nat} {p : List Nat} {b : Option Nat} (h : pl[j]? = some ⟨.ask p, b⟩) : askPl pl j = some p := by
  unfold askPl
  rw [h]
theorem askPl_say {pl : List Stp} {j v : Nat} {b : Option Nat} (h : pl[j]? = some ⟨.say v, b⟩) : askPl pl j = none := by
  unfold askPl
  rw [h]
/-- an ask's kid stands in the kind, as many as there are -/
theorem kids_at {kd : D} (hk : isK kd = true) {p : List Nat} {k : Nat} : k < kids kd p ↔ (atD kd (p ++ [k])).isSome = true := by
  constructor
  · intro h
    unfold kids at h
    split at h
    · next ts e =>
      rw [atD_snoc p kd ts k _ e (List.getElem?_eq_getElem h)]
      rfl
    · omega
  · intro h
    obtain ⟨e, he⟩ := Option.isSome_iff_exists.mp h
    have key : ∀ (p : List Nat) (d : D), atD d (p ++ [k]) = some e → ∃ ts, atD d p = some (.tup ts) ∧ k < ts.length := by
      intro p
      induction p with
      | nil =>
        intro d h
        obtain ⟨ts, t, rfl, ht, _⟩ := atD_cons h
        exact ⟨ts, rfl, (List.getElem?_eq_some_iff.mp ht).1⟩
      | cons i p ih =>
        intro d h
        obtain ⟨ts, t, rfl, ht, h'⟩ := atD_cons (k := i) (p := p ++ [k]) h
        obtain ⟨us, h1, h2⟩ := ih t h'
        refine ⟨us, ?_, h2⟩
        show (match ts[i]? with | some t => atD t p | none => none) = some (.tup us)
        rw [ht]
        exact h1
    obtain ⟨ts, h1, h2⟩ := key p kd he
    unfold kids
    rw [h1]
    exact h2
theorem dl_snoc {p q : List Nat} (h : p ≠ []) (e : p.dropLast = q) : ∃ k, p = q ++ [k] := by
  rcases List.eq_nil_or_concat p with rfl | ⟨r, a, rfl⟩
  · exact absurd rfl h
  · rw [List.concat_eq_append, List.dropLast_concat] at e
    exact ⟨a, by rw [List.concat_eq_append, e]⟩
theorem plB_ask {kd : D} (hk : isK kd = true) {pl : List Stp} {j : Nat} {p : List Nat} : plB kd pl j (.ask p) = true ↔ ∃ q k, askPl pl j = some q ∧ k < kids kd q ∧ p = q ++ [k] := by
  unfold plB
  cases hq : askPl pl j with
  | none => exact ⟨fun h => (by cases h), fun ⟨_, _, h, _⟩ => (by cases h)⟩
  | some q =>
    show (decide (p ≠ []) && (decide (p.dropLast = q) && (atD kd p).isSome)) = true ↔ _
    constructor
    · intro h
      obtain ⟨h1, h2⟩ := Bool.and_eq_true_iff.mp h
      obtain ⟨h2, h3⟩ := Bool.and_eq_true_iff.mp h2
      obtain ⟨k, rfl⟩ := dl_snoc (of_decide_eq_true h1) (of_decide_eq_true h2)
      exact ⟨q, k, rfl, (kids_at hk).mpr h3, rfl⟩
    · rintro ⟨q', k, e, h, rfl⟩
      cases e
      rw [(kids_at hk).mp h, List.dropLast_concat, decide_eq_true rfl, decide_eq_true (by simp)]
      rfl
theorem plB_say {kd : D} {pl : List Stp} {j v : Nat} : plB kd pl j (.say v) = true ↔ ∃ q, askPl pl j = some q := by
  unfold plB
  cases hq : askPl pl j with
  | none => exact ⟨fun h => (by cases h), fun ⟨_, h⟩ => (by cases h)⟩
  | some q => exact ⟨fun _ => ⟨q, rfl⟩, fun _ => rfl⟩
theorem lg_ask {kd : D} (hk : isK kd = true) {pl : List Stp} {ns : List Nat} {p : List Nat} {b : Option Nat} :
    lgB kd pl ns ⟨.ask p, b⟩ = true ↔ ∃ j q k, b = some j ∧ (pl.length - j) % 2 = 1 ∧ askPl pl j = some q ∧ k < kids kd q ∧ p = q ++ [k] ∧ j ∈ sight pl (pl.length - 1) := by
  cases b with
  | none => exact ⟨fun h => (by cases h), fun ⟨_, _, _, h, _⟩ => (by cases h)⟩
  | some j =>
    show (decide ((pl.length - j) % 2 = 1) && (plB kd pl j (.ask p) && (true && decide (j ∈ sight pl (pl.length - 1))))) = true ↔ _
    simp only [Bool.and_eq_true, decide_eq_true_eq, Bool.true_and, plB_ask hk]
    constructor
    · rintro ⟨h1, ⟨q, k, h2, h3, h4⟩, h5⟩
      exact ⟨j, q, k, rfl, h1, h2, h3, h4, h5⟩
    · rintro ⟨j', q, k, e, h1, h2, h3, h4, h5⟩
      cases e
      exact ⟨h1, ⟨q, k, h2, h3, h4⟩, h5⟩
theorem lg_say {kd : D} {pl : List Stp} {ns : List Nat} {v : Nat} {b : Option Nat} :
    lgB kd pl ns ⟨.say v, b⟩ = true ↔ ∃ j q, b = some j ∧ (pl.length - j) % 2 = 1 ∧ askPl pl j = some q ∧ ns.getLast? = some j ∧ j ∈ sight pl (pl.length - 1) := by
  cases b with
  | none => exact ⟨fun h => (by cases h), fun ⟨_, _, h, _⟩ => (by cases h)⟩
  | some j =>
    show (decide ((pl.length - j) % 2 = 1) && (plB kd pl j (.say v) && (decide (ns.getLast? = some j) && decide (j ∈ sight pl (pl.length - 1))))) = true ↔ _
    simp only [Bool.and_eq_true, decide_eq_true_eq, plB_say]
    constructor
    · rintro ⟨h1, ⟨q, h2⟩, h3, h5⟩
      exact ⟨j, q, rfl, h1, h2, h3, h5⟩
    · rintro ⟨j', q, e, h1, h2, h3, h5⟩
      cases e
      exact ⟨h1, ⟨q, h2⟩, h3, h5⟩
theorem mem_rows {kd : D} (hk : isK kd = true) {pl : List Stp} {s : Stp} : s ∈ rows kd pl ↔ lgB kd pl (opens pl pl.length) s = true ∧ ShS s := by
  unfold rows
  rw [List.mem_append, List.mem_flatMap, List.mem_flatMap]
  obtain ⟨m, b⟩ := s
  cases m with
  | ask p =>
    rw [lg_ask hk]
    constructor
    · rintro (⟨j, hj, h⟩ | ⟨j, hj, h⟩)
      · unfold askRows at h
        split at h
        · next ho =>
          unfold asksAt at h
          split at h
          · next q hq =>
            obtain ⟨k, hk2, e⟩ := mem_kids.mp h
            cases e
            exact ⟨⟨j, q, k, rfl, ho, hq, hk2, rfl, hj⟩, fun u e => by cases e⟩
          · cases h
        · cases h
      · unfold sayRows at h
        split at h
        · obtain ⟨u, _, e⟩ := mem_says.mp h
          cases e
        · cases h
    · rintro ⟨⟨j, q, k, rfl, ho, hq, hk2, rfl, hj⟩, _⟩
      refine .inl ⟨j, hj, ?_⟩
      unfold askRows asksAt
      rw [if_pos ho, hq]
      exact mem_kids.mpr ⟨k, hk2, rfl⟩
  | say v =>
    rw [lg_say]
    constructor
    · rintro (⟨j, hj, h⟩ | ⟨j, hj, h⟩)
      · unfold askRows at h
        split at h
        · unfold asksAt at h
          split at h
          · obtain ⟨k, _, e⟩ := mem_kids.mp h
            cases e
          · cases h
        · cases h
      · unfold sayRows at h
        split at h
        · next hs =>
          obtain ⟨u, hu, e⟩ := mem_says.mp h
          cases e
          have hl := lastL_mem.mp hj
          obtain ⟨q, b, hq⟩ := opens_ask pl pl.length j (List.mem_of_getLast? hl)
          exact ⟨⟨j, q, rfl, hs.2, askPl_of hq, hl, hs.1⟩, fun u e => by cases e; exact hu⟩
        · cases h
    · rintro ⟨⟨j, q, rfl, ho, hq, hl, hj⟩, hs⟩
      refine .inr ⟨j, lastL_mem.mpr hl, ?_⟩
      unfold sayRows
      rw [if_pos ⟨hj, ho⟩]
      exact mem_says.mpr ⟨v, hs v rfl, rfl⟩
/-! ### no row twice -/
theorem kids_nodup (kd : D) (p : List Nat) (j n : Nat) : (kidsOf kd p j n).Nodup := by
  unfold kidsOf
  refine List.pairwise_map.mpr (List.nodup_range.imp fun {a b} h e => h ?_)
  injection e with e _
  injection e with e
  have := List.append_cancel_left e
  injection this
theorem says_nodup (j : Nat) : (says j).Nodup := by
  unfold says
  refine List.pairwise_cons.mpr ⟨fun a ha e => ?_, List.pairwise_singleton _ _⟩
  rw [List.mem_singleton.mp ha] at e
  injection e with e _
  injection e with e
  cases e
theorem stepsTo_back {kd : D} {pl : List Stp} {j : Nat} {s : Stp} (h : s ∈ stepsTo kd pl j) : s.back = some j := by
  unfold stepsTo at h
  split at h
  · rcases List.mem_append.mp h with h | h
    · obtain ⟨k, _, rfl⟩ := mem_kids.mp h
      rfl
    · obtain ⟨u, _, rfl⟩ := mem_says.mp h
      rfl
  · cases h
theorem stepsTo_nodup (kd : D) (pl : List Stp) (j : Nat) : (stepsTo kd pl j).Nodup := by
  unfold stepsTo
  split
  · refine List.nodup_append.mpr ⟨kids_nodup _ _ _ _, says_nodup _, fun a ha b hb e => ?_⟩
    subst e
    obtain ⟨k, _, rfl⟩ := mem_kids.mp ha
    obtain ⟨u, _, e⟩ := mem_says.mp hb
    cases e
  · exact List.nodup_nil
theorem flat_nodup {f : Nat → List Stp} {ns : List Nat} (hn : ns.Nodup) (h1 : ∀ j, (f j).Nodup) (h2 : ∀ j s, s ∈ f j → s.back = some j) : (ns.flatMap f).Nodup := by
  refine List.pairwise_flatMap.mpr ⟨fun j _ => h1 j, hn.imp fun {a b} hab x hx y hy e => hab ?_⟩
  subst e
  have := (h2 a x hx).symm.trans (h2 b x hy)
  exact Option.some.inj this
theorem askRows_sub {kd : D} {pl : List Stp} {j : Nat} {s : Stp} (h : s ∈ askRows kd pl j) : ∃ p k, s = ⟨.ask (p ++ [k]), some j⟩ := by
  unfold askRows at h
  split at h
  · unfold asksAt at h
    split at h
    · next q _ =>
      obtain ⟨k, _, e⟩ := mem_kids.mp h
      exact ⟨q, k, e⟩
    · cases h
  · cases h
theorem sayRows_sub {pl : List Stp} {j : Nat} {s : Stp} (h : s ∈ sayRows pl j) : ∃ u, s = ⟨.say u, some j⟩ := by
  unfold sayRows at h
  split at h
  · obtain ⟨u, _, e⟩ := mem_says.mp h
    exact ⟨u, e⟩
  · cases h
theorem rows_nodup (kd : D) {pl : List Stp} (hn : (sight pl (pl.length - 1)).Nodup) : (rows kd pl).Nodup := by
  refine List.nodup_append.mpr ⟨flat_nodup hn (fun j => ?_) (fun j s h => ?_), flat_nodup (lastL_nodup _) (fun j => ?_) (fun j s h => ?_), fun a ha b hb e => ?_⟩
  · unfold askRows asksAt
    split
    · split
      · exact kids_nodup _ _ _ _
      · exact List.nodup_nil
    · exact List.nodup_nil
  · obtain ⟨_, _, rfl⟩ := askRows_sub h
    rfl
  · unfold sayRows
    split
    · exact says_nodup _
    · exact List.nodup_nil
  · obtain ⟨_, rfl⟩ := sayRows_sub h
    rfl
  · subst e
    obtain ⟨_, _, h1⟩ := List.mem_flatMap.mp ha
    obtain ⟨_, _, h2⟩ := List.mem_flatMap.mp hb
    obtain ⟨_, _, rfl⟩ := askRows_sub h1
    obtain ⟨_, e⟩ := sayRows_sub h2
    cases e
/-- the program's way to the rows -/
def progR (kd : D) (pl : List Stp) : List Stp := ((sight pl (pl.length - 1)).flatMap (stepsTo kd pl)).filter (lgB kd pl (opens pl pl.length))
theorem mem_progR {kd : D} (hk : isK kd = true) {pl : List Stp} {s : Stp} : s ∈ progR kd pl ↔ lgB kd pl (opens pl pl.length) s = true ∧ ShS s := by
  unfold progR
  rw [List.mem_filter, List.mem_flatMap]
  constructor
  · rintro ⟨⟨j, hj, h⟩, hl⟩
    refine ⟨hl, fun u e => ?_⟩
    unfold stepsTo at h
    split at h
    · rcases List.mem_append.mp h with h | h
      · obtain ⟨k, _, rfl⟩ := mem_kids.mp h
        cases e
      · obtain ⟨v, hv, rfl⟩ := mem_says.mp h
        cases e
        exact hv
    · cases h
  · rintro ⟨hl, hs⟩
    refine ⟨?_, hl⟩
    obtain ⟨m, b⟩ := s
    cases m with
    | ask p =>
      obtain ⟨j, q, k, rfl, ho, hq, hk2, rfl, hj⟩ := (lg_ask hk).mp hl
      refine ⟨j, hj, ?_⟩
      unfold stepsTo
      rw [hq]
      exact List.mem_append_left _ (mem_kids.mpr ⟨k, hk2, rfl⟩)
    | say v =>
      obtain ⟨j, q, rfl, ho, hq, hl, hj⟩ := lg_say.mp hl
      refine ⟨j, hj, ?_⟩
      unfold stepsTo
      rw [hq]
      exact List.mem_append_right _ (mem_says.mpr ⟨v, hs v rfl, rfl⟩)
theorem progR_perm {kd : D} (hk : isK kd = true) {pl : List Stp} (hn : (sight pl (pl.length - 1)).Nodup) : (progR kd pl).Perm (rows kd pl) := by
  refine (List.perm_ext_iff_of_nodup ?_ (rows_nodup kd hn)).mpr fun s => by rw [mem_progR hk, mem_rows hk]
  exact (flat_nodup hn (fun j => stepsTo_nodup kd pl j) (fun j s h => stepsTo_back h)).filter _
/-! ### sorted in one way -/
theorem sortE_eq {bs cs : List Stp} (h : bs.Perm cs) (hi : ∀ b ∈ bs, ∀ c ∈ bs, tokS b = tokS c → b = c) : sortE tokS bs = sortE tokS cs := by
  have T := PySem.W.sortLe_total (listOrd itemOrd) false tokS
  have tot : ∀ a b : Stp, (PySem.W.sortLe (listOrd itemOrd) false tokS a b || PySem.W.sortLe (listOrd itemOrd) false tokS b a) = true := fun a b => by
    rw [Bool.or_eq_true]
    exact T.total a b
  refine List.Perm.eq_of_pairwise (le := fun a b => PySem.W.sortLe (listOrd itemOrd) false tokS a b = true) (fun a b ha hb h1 h2 => ?_) (List.pairwise_mergeSort T.trans tot bs) (List.pairwise_mergeSort T.trans tot cs)
    ((sortE_perm tokS bs).trans (h.trans (sortE_perm tokS cs).symm))
  have ha' := (sortE_perm tokS bs).mem_iff.mp ha
  have hb' := h.mem_iff.mpr ((sortE_perm tokS cs).mem_iff.mp hb)
  refine hi a ha' b hb' ((listOrd itemOrd).total _ _ ?_ ?_)
  · have h2' : (!(listOrd itemOrd).blt (tokS a) (tokS b)) = true := h2
    rw [Bool.not_eq_true'] at h2'
    exact h2'
  · have h1' : (!(listOrd itemOrd).blt (tokS b) (tokS a)) = true := h1
    rw [Bool.not_eq_true'] at h1'
    exact h1'
theorem inl_nums : ∀ p q : List Nat, p.map (fun k => (Sum.inl ((k : Nat) : Int) : Int ⊕ List Nat)) = q.map (fun k => Sum.inl ((k : Nat) : Int)) → p = q
  | [], [], _ => rfl
  | [], _ :: _, h => by cases h
  | _ :: _, [], h => by cases h
  | a :: p, b :: q, h => by
    injection h with h1 h2
    injection h1 with h1
    rw [inl_nums p q h2, show a = b by omega]
theorem tokS_inj {b c : Stp} (hb : okS b) (hc : okS c) (h : tokS b = tokS c) : b = c := by
  obtain ⟨m, k⟩ := b
  obtain ⟨n, l⟩ := c
  cases k with
  | none => exact absurd rfl hb
  | some j =>
    cases l with
    | none => exact absurd rfl hc
    | some i =>
      cases m with
      | ask p =>
        cases n with
        | ask q =>
          injection h with _ h
          have h' : p.map (fun k => (Sum.inl ((k : Nat) : Int) : Int ⊕ List Nat)) ++ [Sum.inl (-1), Sum.inl ((j : Nat) : Int)] = q.map (fun k => Sum.inl ((k : Nat) : Int)) ++ [Sum.inl (-1), Sum.inl ((i : Nat) : Int)] := h
          obtain ⟨h1, h2⟩ := List.append_inj' h' rfl
          have := inl_nums p q h1
          injection h2 with _ h2
          injection h2 with h2 _
          injection h2 with h2
          rw [this, show j = i by omega]
        | say v =>
          injection h with h _
          injection h with h
          cases h
      | say v =>
        cases n with
        | ask q =>
          injection h with h _
          injection h with h
          cases h
        | say u =>
          injection h with _ h
          injection h with h1 h
          injection h with h2 _
          injection h1 with h1
          injection h2 with h2
          have e1 : (j : Int) = (i : Int) := h2
          rw [show v = u by omega, show j = i by omega]
theorem rows_ok {kd : D} (hk : isK kd = true) {pl : List Stp} {s : Stp} (h : s ∈ rows kd pl) : okS s := by
  obtain ⟨h1, _⟩ := (mem_rows hk).mp h
  intro e
  unfold lgB at h1
  rw [e] at h1
  cases h1
theorem progR_sort {kd : D} (hk : isK kd = true) {pl : List Stp} (hn : (sight pl (pl.length - 1)).Nodup) : sortE tokS (progR kd pl) = sortE tokS (rows kd pl) := by
  have pm := progR_perm (kd := kd) hk hn
  exact sortE_eq pm fun b hb c hc e => tokS_inj (rows_ok hk (pm.mem_iff.mp hb)) (rows_ok hk (pm.mem_iff.mp hc)) e
/-! ### legal plays -/
structure LQ (kd : D) (pl : List Stp) : Prop where
  lp : LP kd pl
  rs : ∀ n s, pl[n]? = some s → s ∈ lawR kd (pl.take n)
def NxR (kd : D) (pl : List Stp) (s : Stp) : Prop := s ∈ lawR kd pl
theorem lawR_mem {kd : D} {pl : List Stp} (hp : pl ≠ []) {s : Stp} : s ∈ lawR kd pl ↔ s ∈ rows kd pl := by
  unfold lawR
  rw [if_neg hp]
  exact (sortE_perm tokS (rows kd pl)).mem_iff
theorem lawR_nil (kd : D) : lawR kd [] = [BEG] := rfl
theorem nxt_of {kd : D} (hk : isK kd = true) {pl : List Stp} {s : Stp} (h : NxR kd pl s) : Nxt kd pl s := by
  by_cases hp : pl = []
  · subst hp
    exact .inl ⟨rfl, List.mem_singleton.mp h⟩
  · obtain ⟨h1, h2⟩ := (mem_rows hk).mp ((lawR_mem hp).mp h)
    obtain ⟨m, b⟩ := s
    cases m with
    | ask p =>
      obtain ⟨j, q, k, rfl, ho, hq, hk2, rfl, hj⟩ := (lg_ask hk).mp h1
      obtain ⟨e, he⟩ := Option.isSome_iff_exists.mp ((kids_at hk).mp hk2)
      exact .inr ⟨hp, j, rfl, hj, .inl ⟨_, e, rfl, he⟩⟩
    | say v =>
      obtain ⟨j, q, rfl, ho, hq, hl, hj⟩ := lg_say.mp h1
      exact .inr ⟨hp, j, rfl, hj, .inr ⟨v, rfl, List.mem_of_getLast? hl⟩⟩
theorem LQ.nil (kd : D) : LQ kd [] := ⟨LP.nil kd, fun n s e => by simp at e⟩
theorem LQ.snoc {kd : D} {pl : List Stp} {s : Stp} (hk : isK kd = true) (h : LQ kd pl) (n : NxR kd pl s) (hl : pl.length < 40) : LQ kd (pl ++ [s]) := by
  refine ⟨h.lp.snoc (nxt_of hk n) hl, fun m t e => ?_⟩
  rcases Nat.lt_trichotomy m pl.length with hm | hm | hm
  · rw [List.getElem?_append_left hm] at e
    rw [List.take_append_of_le_length (by omega)]
    exact h.rs m t e
  · subst hm
    rw [List.getElem?_append_right (Nat.le_refl _), Nat.sub_self] at e
    cases e
    rw [List.take_left]
    exact n
  · rw [List.getElem?_eq_none (by rw [List.length_append, List.length_singleton]; omega)] at e
    cases e
theorem LQ.take {kd : D} {pl : List Stp} (h : LQ kd pl) (k : Nat) : LQ kd (pl.take k) := by
  refine ⟨h.lp.take k, fun n s e => ?_⟩
  have hn := (List.getElem?_eq_some_iff.mp e).1
  rw [List.length_take] at hn
  rw [List.getElem?_take_of_lt (by omega)] at e
  rw [List.take_take, Nat.min_eq_left (by omega)]
  exact h.rs n s e
end Pk

set_option maxRecDepth 100000
set_option maxHeartbeats 4000000
set_option pp.maxSteps 600
namespace Pk
open PySem PySem.Spec PyProof.Rows L2
theorem WB.at {pl : List Stp} (h : WB pl) {n : Nat} (h0 : 0 < n) (hn : n < pl.length) : ∃ m, pl[n]? = some ⟨m, some (bk pl n)⟩ := by
  obtain ⟨j, e, hj⟩ := h.later n _ h0 (List.getElem?_eq_getElem hn)
  refine ⟨pl[n].mv, ?_⟩
  have e2 : bk pl n = j := by
    unfold bk
    rw [List.getElem?_eq_getElem hn]
    show (pl[n].back).getD 0 = j
    rw [e]
    rfl
  rw [List.getElem?_eq_getElem hn, e2, ← e]
theorem erase_eq {ns : List Nat} (h : ns.Pairwise (· < ·)) {j : Nat} (hj : j ∈ ns) : ∃ i, ns[i]? = some j ∧ (∀ m, m < i → ns[m]? ≠ some j) ∧ ns.eraseIdx i = ns.filter fun k => decide (some k ≠ some j) := by
  induction ns with
  | nil => cases hj
  | cons a r ih =>
    have h2 := List.pairwise_cons.mp h
    by_cases e : a = j
    · subst e
      refine ⟨0, rfl, fun m hm => absurd hm (Nat.not_lt_zero m), ?_⟩
      show r = _
      rw [List.filter_cons_of_neg (by simp), List.filter_eq_self.mpr]
      intro k hk
      have := h2.1 k hk
      refine decide_eq_true fun z => ?_
      have := Option.some.inj z
      omega
    · obtain ⟨i, i1, i2, i3⟩ := ih h2.2 ((List.mem_cons.mp hj).resolve_left fun z => e z.symm)
      refine ⟨i + 1, i1, fun m hm => ?_, ?_⟩
      · cases m with
        | zero => exact fun z => e (Option.some.inj z)
        | succ m => exact i2 m (by omega)
      · show a :: r.eraseIdx i = _
        have z : decide (some a ≠ some j) = true := decide_eq_true fun z => e (Option.some.inj z)
        rw [i3, List.filter_cons]
        exact (if_pos z).symm
theorem nats_erase : ∀ (ns : List Nat) (i : Nat), (((ns.map fun k : Nat => ((k : Nat) : Int))).eraseIdx i).map V.int = nats (ns.eraseIdx i)
  | [], _ => rfl
  | a :: r, 0 => by
    show (r.map fun k : Nat => ((k : Nat) : Int)).map V.int = nats r
    rw [List.map_map]
    rfl
  | a :: r, i + 1 => by
    have := nats_erase r i
    show V.int _ :: _ = V.int _ :: _
    rw [this]
    rfl
theorem nats_int (ns : List Nat) : (ns.map fun k : Nat => ((k : Nat) : Int)).map V.int = nats ns := by
  rw [List.map_map]
  rfl
/-! ### the statement's sights -/
section
variable {P : Program} {w : World} {K : PySem.W.Frag} {mg : Str → Option Value} {base : Heap}
/-- each back is the other player's -/
def Par (pl : List Stp) : Prop := ∀ n, 0 < n → n < pl.length → (n + bk pl n) % 2 = 1
theorem Par.take {pl : List Stp} (h : Par pl) (k : Nat) : Par (pl.take k) := fun n h0 hn => by
  rw [List.length_take] at hn
  rw [bk_take pl (by omega)]
  exact h n h0 (by omega)
def spSg (K : PySem.W.Frag) (odd : Nat) (n : Nat) : Sp := fun vs H Q _ => ∃ (v : V) (pl : List Stp), vs = [v] ∧ Rep K H v (playD pl) ∧ WB pl ∧ Par pl ∧ pl.length % 2 = odd ∧ 0 < pl.length ∧ pl.length < n ∧ n ≤ 500 ∧
  ∀ (p : Addr) (H' : Hp), Nw p H H' (nats (sight pl (pl.length - 1))) → Q (.ref p) H'
theorem play_take {K : PySem.W.Frag} {H H' : Hp} {a c : Addr} {xs : List V} {pl : List Stp} {k : Nat} (r : Reps K H xs (pl.map stD)) (m : Kx H H') (h : TupAt K H' c (xs.take k)) : Rep K H' (.ref c) (playD (pl.take k)) := by
  unfold playD
  rw [List.map_take]
  exact .tup h ((r.mono m).take k)
theorem back_at {K : PySem.W.Frag} {H : Hp} {xs : List V} {pl : List Stp} (r : Reps K H xs (pl.map stD)) (hwb : WB pl) {n : Nat} (h0 : 0 < n) (hn : n < pl.length) : ∃ a m, xs[n]? = some (.ref a) ∧ TupAt K H a [m, .int (bk pl n : Nat)] := by
  obtain ⟨mv, em⟩ := hwb.at h0 hn
  obtain ⟨x, hx, rx⟩ := play_at r em
  obtain ⟨a2, m2, b2, rfl, ha2, rm2, rb2⟩ := step_inv rx
  obtain ⟨rfl, _⟩ := Rep.inva (w := V.int (bk pl n : Nat)) rb2
  exact ⟨a2, m2, hx, ha2⟩
theorem ok_sg {f : Addr} {fd : FuncData} (D__law_sight : Df K mg "_law_sight" s__law_sight ["play"] f fd) (B : Bt mg) : ∀ n : Nat, FnOk P w K mg base CX0 n f fd ["play"] (spSg K 1 n)
  | 0 => fn_none fun vs H Q E h => by
    obtain ⟨v, pl, _, _, _, _, _, _, h1, _⟩ := h
    omega
  | n + 1 => by
    have G__law_sight := ok_sg D__law_sight B n
    refine D__law_sight.ok c__law_sight (fun vs H Q E h => ?_) (fun cdv A outer s0 H vs Q E hr h => ?_)
    · obtain ⟨v, pl, rfl, _⟩ := h
      rfl
    obtain ⟨v, pl, rfl, rv, hwb, hpar, hodd, hp, hlen, hn5, q⟩ := h
    have nd := c__law_sight.nd
    refine ⟨_, (pss_cons (ps_set (i := 1) nd rfl (Or.inl rfl) (pe_op op_sub (pe_callB call_len_seq (by rfl) B.b_len PySem.boot_len (pa_cons (pv 0) pa_nil)) pe_int))
  (pss_cons (ps_if (pt_cmpR op_eq (pv 1) pe_int (nomark _)) (pss_one (ps_ret (pe_lst (pa_cons pe_int pa_nil)))) pss_nil)
  (pss_cons (ps_set (i := 2) nd rfl (Or.inl rfl) (pe_ix ix_tup (pe_ix ix_tup (pv 0) (pv 1) (fun _ _ => rfl)) pe_int (fun _ _ => rfl)))
  (pss_one (ps_ret (pe_op op_cat (pe_call G__law_sight hr (by rfl) D__law_sight.m D__law_sight.kp D__law_sight.b .nil pass0 (pa_cons (pe_slice sl_tupP (pv 0) po_none (po_some (pv 2))) pa_nil)) (pe_lst (pa_cons (pv 2) (pa_cons (pv 1) pa_nil))))))))), ?_⟩
    obtain ⟨a, xs, rfl, ha, rxs, lx⟩ := play_inv rv
    refine ⟨_, rfl, a, xs, rfl, .inr ha.sq, _, _, rfl, rfl, _, rfl, rfl, _, rfl, ite2 (fun z => ?_) (fun z => ?_)⟩
    · have z' : ((xs.length : Nat) : Int) - 1 = 0 := V.int.inj (of_decide_eq_true z)
      have e1 : pl.length - 1 = 0 := by omega
      refine ⟨(by show 1 ≤ sizeLine; decide), fun p np => q p _ ?_⟩
      rw [e1, sight_zero]
      exact Nw.new np _
    · have h0 : 0 < pl.length - 1 := by
        rcases Nat.eq_zero_or_pos (pl.length - 1) with e | e
        · exact absurd (decide_eq_true (show V.int (((xs.length : Nat) : Int) - 1) = V.int 0 by rw [show ((xs.length : Nat) : Int) - 1 = 0 by omega])) z
        · exact e
      obtain ⟨a2, m2, hx, ha2⟩ := back_at rxs hwb h0 (by omega)
      have en : (((xs.length : Nat) : Int) - 1) = ((pl.length - 1 : Nat) : Int) := by omega
      have hx' := atI_nat hx
      rw [← en] at hx'
      have hpr := hpar (pl.length - 1) h0 (by omega)
      have hb := hwb.bk_lt h0 (show pl.length - 1 < pl.length by omega)
      have hsm := sight_more hwb h0 (show pl.length - 1 < pl.length by omega) (show bk pl (pl.length - 1) ≠ 0 by omega)
      generalize hj : bk pl (pl.length - 1) = j at *
      refine ⟨_, rfl, _, rfl, a, xs, _, _, rfl, rfl, ha.sq, hx', a2, _, 1, _, rfl, rfl, ha2.sq, rfl, ?_⟩
      refine ⟨_, rfl, _, rfl, _, rfl, a, xs, rfl, ha, fun c H1 s1 hc => ?_⟩
      rw [cutV_to] at hc
      have ltk : (pl.take j).length = j := by rw [List.length_take]; omega
      refine ⟨.ref c, pl.take j, rfl, play_take (a := a) rxs (kx_same s1) hc, hwb.take j, hpar.take j, by rw [ltk]; omega, by rw [ltk]; omega, by rw [ltk]; omega, by omega, fun p H2 hp2 => ?_⟩
      rw [ltk, sight_take hwb (show j - 1 < j by omega) (by omega)] at hp2
      refine ⟨_, rfl, _, rfl, (by show 2 ≤ sizeLine; decide), fun e ne => ?_⟩
      have s3 := same_new ne (.lst [.int (j : Nat), .int (((xs.length : Nat) : Int) - 1)])
      have lsg := sight_len hwb (j - 1) (by omega)
      refine ⟨p, e, _, _, rfl, rfl, s3 _ _ hp2.h, upd_same, small6' (by rw [nats_len]; show (sight pl (j - 1)).length + 2 ≤ 1000000; omega), fun r nr => ?_⟩
      have s4 := same_new nr (.lst (nats (sight pl (j - 1)) ++ [.int (j : Nat), .int (((xs.length : Nat) : Int) - 1)]))
      have s14 := s1.trans (hp2.s.trans (s3.trans s4))
      have nrH : H r = none := new_none (s1.trans (hp2.s.trans s3)) nr
      refine q r _ ⟨s14, nrH, ?_⟩
      rw [upd_same, hsm]
      show some (HO.lst (nats (sight pl (j - 1)) ++ [V.int (j : Nat), V.int (((xs.length : Nat) : Int) - 1)])) = _
      rw [en]
      unfold nats
      rw [List.map_append]
      rfl
theorem ok_asg {f : Addr} {fd : FuncData} (D__law_asker_sight : Df K mg "_law_asker_sight" s__law_asker_sight ["play"] f fd) (B : Bt mg) : ∀ n : Nat, FnOk P w K mg base CX0 n f fd ["play"] (spSg K 0 n)
  | 0 => fn_none fun vs H Q E h => by
    obtain ⟨v, pl, _, _, _, _, _, _, h1, _⟩ := h
    omega
  | n + 1 => by
    have G__law_asker_sight := ok_asg D__law_asker_sight B n
    refine D__law_asker_sight.ok c__law_asker_sight (fun vs H Q E h => ?_) (fun cdv A outer s0 H vs Q E hr h => ?_)
    · obtain ⟨v, pl, rfl, _⟩ := h
      rfl
    obtain ⟨v, pl, rfl, rv, hwb, hpar, hodd, hp, hlen, hn5, q⟩ := h
    have nd := c__law_asker_sight.nd
    refine ⟨_, (pss_cons (ps_set (i := 1) nd rfl (Or.inl rfl) (pe_op op_sub (pe_callB call_len_seq (by rfl) B.b_len PySem.boot_len (pa_cons (pv 0) pa_nil)) pe_int))
  (pss_cons (ps_set (i := 2) nd rfl (Or.inl rfl) (pe_ix ix_tup (pe_ix ix_tup (pv 0) (pv 1) (fun _ _ => rfl)) pe_int (fun _ _ => rfl)))
  (pss_cons (ps_set (i := 3) nd rfl (Or.inl rfl) (pe_lst pa_nil))
  (pss_cons (ps_if (pt_cmpR op_gt (pv 2) pe_int (nomark _)) (pss_one (ps_set (i := 3) nd rfl (Or.inl rfl) (pe_call G__law_asker_sight hr (by rfl) D__law_asker_sight.m D__law_asker_sight.kp D__law_asker_sight.b .nil pass0 (pa_cons (pe_slice sl_tupP (pv 0) po_none (po_some (pv 2))) pa_nil)))) pss_nil)
  (pss_one (ps_ret (pe_op op_cat (pv 3) (pe_lst (pa_cons (pv 2) (pa_cons (pv 1) pa_nil)))))))))), ?_⟩
    obtain ⟨a, xs, rfl, ha, rxs, lx⟩ := play_inv rv
    have h0 : 0 < pl.length - 1 := by omega
    obtain ⟨a2, m2, hx, ha2⟩ := back_at rxs hwb h0 (by omega)
    have en : (((xs.length : Nat) : Int) - 1) = ((pl.length - 1 : Nat) : Int) := by omega
    have hx' := atI_nat hx
    rw [← en] at hx'
    have hpr := hpar (pl.length - 1) h0 (by omega)
    have hb := hwb.bk_lt h0 (show pl.length - 1 < pl.length by omega)
    have hone := sight_one (pl := pl) (n := pl.length - 1) h0
    have hsm := sight_more hwb h0 (show pl.length - 1 < pl.length by omega)
    generalize hj : bk pl (pl.length - 1) = j at *
    refine ⟨_, rfl, a, xs, rfl, .inr ha.sq, _, _, rfl, rfl, ?_⟩
    refine ⟨_, rfl, _, rfl, a, xs, _, _, rfl, rfl, ha.sq, hx', a2, _, 1, _, rfl, rfl, ha2.sq, rfl, ?_⟩
    refine ⟨(by show 0 ≤ sizeLine; decide), fun p0 np0 => ?_⟩
    have s0' := same_new np0 (.lst [])
    refine nx_rest (fun σ' H' => ∃ p, σ' = [some (.ref a), some (.int (((xs.length : Nat) : Int) - 1)), some (.int (j : Nat)), some (.ref p)] ∧ Same H H' ∧ H' p = some (.lst (nats (if j = 0 then [] else sight pl (j - 1))))) (fun rest => ?_) ?_
    · refine ⟨_, rfl, _, _, rfl, rfl, _, rfl, ite2 (fun z => ?_) (fun z => ?_)⟩
      · have z' : (0 : Int) < (j : Nat) := of_decide_eq_true z
        refine ⟨_, rfl, _, rfl, _, rfl, a, xs, rfl, ha.same s0', fun c H1 s1 hc => ?_⟩
        rw [cutV_to] at hc
        have ltk : (pl.take j).length = j := by rw [List.length_take]; omega
        refine ⟨.ref c, pl.take j, rfl, play_take (a := a) rxs (kx_same (s0'.trans s1)) hc, hwb.take j, hpar.take j, by rw [ltk]; omega, by rw [ltk]; omega, by rw [ltk]; omega, by omega, fun p H2 hp2 => ?_⟩
        rw [ltk, sight_take hwb (show j - 1 < j by omega) (by omega)] at hp2
        refine rest _ _ ⟨p, rfl, s0'.trans (s1.trans hp2.s), ?_⟩
        rw [if_neg (by omega)]
        exact hp2.h
      · have z' : j = 0 := by
          rcases Nat.eq_zero_or_pos j with e | e
          · exact e
          · exact absurd (decide_eq_true (show (0 : Int) < (j : Nat) by omega)) z
        refine rest _ _ ⟨p0, rfl, s0', ?_⟩
        rw [if_pos z', upd_same]
        rfl
    · rintro σ H2 ⟨p, rfl, s2, hp2⟩
      refine ⟨_, rfl, _, rfl, _, rfl, (by show 2 ≤ sizeLine; decide), fun e ne => ?_⟩
      have s3 := same_new ne (.lst [.int (j : Nat), .int (((xs.length : Nat) : Int) - 1)])
      have lsg : (if j = 0 then [] else sight pl (j - 1)).length ≤ 500 := by
        split
        · exact Nat.zero_le _
        · have := sight_len hwb (j - 1) (by omega)
          omega
      refine ⟨p, e, _, _, rfl, rfl, s3 _ _ hp2, upd_same, small6' (by rw [nats_len]; show _ + 2 ≤ 1000000; omega), fun r nr => ?_⟩
      have s4 := same_new nr (.lst (nats (if j = 0 then [] else sight pl (j - 1)) ++ [.int (j : Nat), .int (((xs.length : Nat) : Int) - 1)]))
      refine q r _ ⟨s2.trans (s3.trans s4), new_none (s2.trans s3) nr, ?_⟩
      rw [upd_same]
      show some (HO.lst (nats (if j = 0 then [] else sight pl (j - 1)) ++ [V.int (j : Nat), V.int (((xs.length : Nat) : Int) - 1)])) = _
      rw [en]
      by_cases hj0 : j = 0
      · rw [if_pos hj0, hone hj0, hj0]
        rfl
      · rw [if_neg hj0, hsm hj0]
        unfold nats
        rw [List.map_append]
        rfl
end
end Pk

set_option maxRecDepth 100000
set_option maxHeartbeats 4000000
set_option pp.maxSteps 600
namespace Pk
open PySem PySem.Spec PyProof.Rows L2
/-! ### the statement's _law_alone, _law_open, _law_at -/
section
variable {P : Program} {w : World} {K : PySem.W.Frag} {mg : Str → Option Value} {base : Heap}
theorem nats_at {ns : List Nat} {i : Nat} {x : V} (h : (nats ns)[i]? = some x) : ∃ k, ns[i]? = some k ∧ x = V.int (k : Nat) := by
  unfold nats at h
  rw [List.getElem?_map] at h
  obtain ⟨k, hk, e⟩ := Option.map_eq_some_iff.mp h
  exact ⟨k, hk, e.symm⟩
theorem nats_get {ns : List Nat} {i k : Nat} (h : ns[i]? = some k) : (nats ns)[i]? = some (.int (k : Nat)) := by
  unfold nats
  rw [List.getElem?_map, h]
  rfl
theorem eqV_nat (i j : Nat) : eqV (.int (i : Nat)) (.int (j : Nat)) = decide (i = j) := by
  show ((i : Int) == (j : Int)) = _
  by_cases h : i = j
  · subst h
    rw [decide_eq_true rfl]
    exact beq_self_eq_true _
  · rw [decide_eq_false h]
    exact beq_eq_false_iff_ne.mpr (by omega)
theorem flat_nats (ns : List Nat) : (nats ns).all flatV = true := by
  rw [List.all_eq_true]
  intro x hx
  obtain ⟨k, _, rfl⟩ := List.mem_map.mp hx
  rfl
theorem idx_at {ns : List Nat} {j : Nat} (h : j ∈ ns) : ns[ns.idxOf j]? = some j ∧ ns.idxOf j < ns.length ∧ ∀ m, m < ns.idxOf j → ns[m]? ≠ some j := by
  have hl := List.idxOf_lt_length_of_mem h
  refine ⟨?_, hl, fun m hm e => ?_⟩
  · rw [List.getElem?_eq_getElem hl, List.getElem_idxOf hl]
  · have := List.not_of_lt_findIdx (p := fun x => x == j) (xs := ns) (i := m) (by simpa [List.idxOf] using hm)
    obtain ⟨hml, e2⟩ := List.getElem?_eq_some_iff.mp e
    rw [e2] at this
    simp at this
/-- numbers.index(j) -/
theorem index_nats {ns : List Nat} {j : Nat} (h : j ∈ ns) : (nats ns)[ns.idxOf j]? = some (.int (j : Nat)) ∧ eqV (.int (j : Nat)) (.int (j : Nat)) = true ∧ ∀ (m : Nat) (z : V), m < ns.idxOf j → (nats ns)[m]? = some z → eqV z (.int (j : Nat)) = false := by
  obtain ⟨h1, h2, h3⟩ := idx_at h
  refine ⟨nats_get h1, ?_, fun m z hm hz => ?_⟩
  · rw [eqV_nat]
    exact decide_eq_true rfl
  · obtain ⟨k, hk, rfl⟩ := nats_at hz
    rw [eqV_nat]
    exact decide_eq_false fun e => h3 m hm (by rw [hk, e])
def spLAl (K : PySem.W.Frag) : Sp := fun vs H Q _ => ∃ (v : V) (b : Addr) (pl : List Stp) (ns : List Nat), vs = [v, .ref b] ∧ Rep K H v (playD pl) ∧ H b = some (.lst (nats ns)) ∧ WB pl ∧ Cl pl ns ∧ ns.length ≤ 500 ∧ ∀ z H', Same H H' → Rep K H' z (playD (apart pl ns)) → Q z H'
theorem ok_lal {f : Addr} {fd : FuncData} (D__law_alone : Df K mg "_law_alone" s__law_alone ["play", "numbers"] f fd) (B : Bt mg) : FnOk P w K mg base CX0 1 f fd ["play", "numbers"] (spLAl K) := by
  refine D__law_alone.ok c__law_alone (fun vs H Q E h => ?_) (fun cdv A outer s H vs Q E hr h => ?_)
  · obtain ⟨v, b, pl, ns, rfl, _⟩ := h
    rfl
  obtain ⟨v, b, pl, ns, rfl, rv, hb, hwb, hcl, hlen, q⟩ := h
  have nd := c__law_alone.nd
  refine ⟨_, (pss_cons (ps_set (i := 2) nd rfl (Or.inl rfl) (pe_lst pa_nil))
  (pss_cons (ps_for PassesOwn.never rfl (pi_list (pv 1)) (pg_name (i := 3) nd rfl (Or.inl rfl)) (pss_cons (ps_set (i := 4) nd rfl (Or.inl rfl) (pe_ix ix_tup (pe_ix ix_tup (pv 0) (pv 3) (fun _ _ => rfl)) pe_int (fun _ _ => rfl)))
  (pss_cons (ps_if (pt_cmpR op_notN (pv 4) pe_non (nomark _)) (pss_one (ps_set (i := 4) nd rfl (Or.inl rfl) (pe_bm PySem.F.plainAttrs_list PySem.F.slot_list_index PySem.F.type_list_index mt_index (pv 1) (pa_cons (pv 4) pa_nil)))) pss_nil)
  (pss_one (ps_expr (pe_bm PySem.F.plainAttrs_list PySem.F.slot_list_append PySem.F.type_list_append mt_append (pv 2) (pa_cons (pe_tup (pa_cons (pe_ix ix_tup (pe_ix ix_tup (pv 0) (pv 3) (fun _ _ => rfl)) pe_int (fun _ _ => rfl)) (pa_cons (pv 4) pa_nil))) pa_nil)))))))
  (pss_one (ps_ret (pe_callTy call_tuple_of (by rfl) B.b_tuple (by decide +kernel) (pa_cons (pv 2) pa_nil)))))), ?_⟩
  obtain ⟨a, xs, rfl, ha, rxs, lx⟩ := play_inv rv
  refine ⟨(by show 0 ≤ sizeLine; decide), fun r nr => ?_⟩
  have hbr := (same_new nr (.lst [])) _ _ hb
  refine ⟨_, rfl, b, rfl, ⟨_, SqL.of hbr⟩, for_list (xs := nats ns) (fun i σ H' => ∃ (acc : List V) (y3 y4 : Option V), σ = [some (.ref a), some (.ref b), some (.ref r), y3, y4] ∧ Nw r H H' acc ∧ acc.length ≤ i ∧ Reps K H' acc (((ns.take i).map (apS pl ns)).map stD))
    ⟨[], none, none, rfl, Nw.new nr _, Nat.le_refl _, .nil⟩ (fun i σ H' _ h => by
      obtain ⟨acc, y3, y4, _, hn, _⟩ := h
      exact SqL.of (hn.s _ _ hb)) ?_ ?_⟩
  · rintro i x σ H1 hi ⟨acc, y3, y4, rfl, hn, lacc, racc⟩
    obtain ⟨k, hk, rfl⟩ := nats_at hi
    have hil := (List.getElem?_eq_some_iff.mp hk).1
    obtain ⟨c1, c2⟩ := hcl k (List.mem_of_getElem? hk)
    have ep : pl[k]? = some pl[k] := List.getElem?_eq_getElem c1
    obtain ⟨y, hy, ry⟩ := play_at rxs ep
    obtain ⟨a2, m2, b2, rfl, ha2, rm2, rb2⟩ := step_inv ry
    have ha1 := ha.same hn.s
    have ha21 := ha2.same hn.s
    have hb1 := hn.s _ _ hb
    refine ⟨_, rfl, _, rfl, a, xs, _, _, rfl, rfl, ha1.sq, atI_nat hy, a2, _, 1, _, rfl, rfl, ha21.sq, rfl, ?_⟩
    refine nx_rest (fun σ' H' => ∃ r2, σ' = [some (.ref a), some (.ref b), some (.ref r), some (.int (k : Nat)), some r2] ∧ H' = H1 ∧ ∀ H', Rep K H' r2 (bkD ((pl[k].back).map fun j => ns.idxOf j))) (fun rest => ?_) ?_
    · by_cases h0 : k = 0
      · have ef := hwb.first pl[k] (by rw [← ep, h0])
        have eb : pl[k].back = none := by rw [ef]
        rw [eb] at rb2 rest
        obtain ⟨rfl, _⟩ := Rep.inva (w := V.non) rb2
        exact ⟨_, rfl, rfl, _, rfl, iteF (rest _ _ ⟨.non, rfl, rfl, fun H' => .at rfl⟩)⟩
      · obtain ⟨mv, em⟩ := hwb.at (Nat.pos_of_ne_zero h0) c1
        rw [ep] at em
        have eb : pl[k].back = some (bk pl k) := by rw [Option.some.inj em]
        rw [eb] at rb2 rest
        obtain ⟨rfl, _⟩ := Rep.inva (w := V.int (bk pl k : Nat)) rb2
        have hm := c2.resolve_left h0
        obtain ⟨i1, i2, i3⟩ := index_nats hm
        exact ⟨_, rfl, rfl, _, rfl, iteT ⟨_, rfl, .inl ⟨rfl, _, SqL.of hb1⟩, _, rfl, b, nats ns, .int (bk pl k : Nat), ns.idxOf (bk pl k), .int (bk pl k : Nat), rfl, rfl, SqL.of hb1, rfl, flat_nats ns, i1, i2, i3, rest _ _ ⟨_, rfl, rfl, fun H' => .at rfl⟩⟩⟩
    · rintro σ H2 ⟨r2, rfl, rfl, hr2⟩
      refine ⟨_, rfl, .inl ⟨rfl, _, SqL.of hn.h⟩, _, rfl, _, rfl, a, xs, _, _, rfl, rfl, ha1.sq, atI_nat hy, a2, _, 0, _, rfl, rfl, ha21.sq, rfl, _, rfl, (by show 2 ≤ sizeLine; decide), fun u nu => ?_⟩
      have su := same_new nu (.tup [m2, r2])
      have hn2 := hn.step su
      have kl := kx_list hn2.h (acc ++ [.ref u])
      refine ⟨r, _, _, rfl, rfl, hn2.h, small6 (by omega), acc ++ [.ref u], _, _, rfl, hn2.put _, by rw [List.length_append, List.length_singleton]; omega, ?_⟩
      have e3 : (((ns.take (i + 1)).map (apS pl ns)).map stD) = (((ns.take i).map (apS pl ns)).map stD) ++ [stD (apS pl ns k)] := by
        rw [List.take_add_one, hk, List.map_append, List.map_append]
        rfl
      rw [e3]
      refine (racc.mono ((kx_same su).trans kl)).append (.one (.tup (xs := [m2, r2]) (.inl (kl.t _ _ upd_same)) (.cons ?_ (.one ?_))))
      · have e4 : (apS pl ns k).mv = pl[k].mv := by
          unfold apS
          rw [ep]
          rfl
        rw [e4]
        exact (rm2.mono (kx_same (hn.s.trans su))).mono kl
      · have e5 : (apS pl ns k).back = (pl[k].back).map fun j => ns.idxOf j := by
          unfold apS
          rw [ep]
          rfl
        rw [e5]
        exact hr2 _
  · rintro σ H1 ⟨acc, y3, y4, rfl, hn, lacc, racc⟩
    rw [nats_len, List.take_length] at racc
    refine ⟨_, rfl, r, _, rfl, .inl ⟨SqL.of hn.h, fun t nt => ?_⟩⟩
    have st := same_new nt (.tup acc)
    exact q _ _ (hn.s.trans st) (.tup' upd_same (racc.mono (kx_same st)))
def spOp (K : PySem.W.Frag) : Sp := fun vs H Q _ => ∃ (v : V) (pl : List Stp), vs = [v] ∧ Rep K H v (playD pl) ∧ OpOk pl ∧ pl.length ≤ 500 ∧ ∀ p H', Nw p H H' (nats (opens pl pl.length)) → Q (.ref p) H'
theorem ok_lop {f : Addr} {fd : FuncData} (D__law_open : Df K mg "_law_open" s__law_open ["play"] f fd) (B : Bt mg) : FnOk P w K mg base CX0 1 f fd ["play"] (spOp K) := by
  refine D__law_open.ok c__law_open (fun vs H Q E h => ?_) (fun cdv A outer s H vs Q E hr h => ?_)
  · obtain ⟨v, pl, rfl, _⟩ := h
    rfl
  obtain ⟨v, pl, rfl, rv, hop, hlen, q⟩ := h
  have nd := c__law_open.nd
  refine ⟨_, (pss_cons (ps_set (i := 1) nd rfl (Or.inl rfl) (pe_lst pa_nil))
  (pss_cons (ps_for PassesOwn.never rfl (pi_range1 (by rfl) B.b_range (pa_cons (pe_callB call_len_seq (by rfl) B.b_len PySem.boot_len (pa_cons (pv 0) pa_nil)) pa_nil)) (pg_name (i := 2) nd rfl (Or.inl rfl)) (pss_one (ps_if (pt_cmpR op_eq (pe_ix ix_tup (pe_ix ix_tup (pe_ix ix_tup (pv 0) (pv 2) (fun _ _ => rfl)) pe_int (fun _ _ => rfl)) pe_int (fun _ _ => rfl)) pe_str (nomark _)) (pss_one (ps_expr (pe_bm PySem.F.plainAttrs_list PySem.F.slot_list_append PySem.F.type_list_append mt_append (pv 1) (pa_cons (pv 2) pa_nil)))) (pss_one (ps_expr (pe_bm PySem.F.plainAttrs_list PySem.F.slot_list_remove PySem.F.type_list_remove mt_remove (pv 1) (pa_cons (pe_ix ix_tup (pe_ix ix_tup (pv 0) (pv 2) (fun _ _ => rfl)) pe_int (fun _ _ => rfl)) pa_nil)))))))
  (pss_one (ps_ret (pv 1))))), ?_⟩
  obtain ⟨a, xs, rfl, ha, rxs, lx⟩ := play_inv rv
  refine ⟨(by show 0 ≤ sizeLine; decide), fun l nl => ?_⟩
  refine ⟨_, rfl, a, xs, rfl, .inr (ha.same (same_new nl _)).sq, _, rfl, by omega, by omega, ?_⟩
  refine for_range (n := ((xs.length : Nat) : Int).toNat) (fun i σ H' => ∃ (y2 : Option V), σ = [some (.ref a), some (.ref l), y2] ∧ Nw l H H' (nats (opens pl i)))
    ⟨none, rfl, Nw.new nl _⟩ ?_ ?_
  · rintro i σ H1 hi ⟨y2, rfl, hn⟩
    have hip : i < pl.length := by omega
    have ep : pl[i]? = some pl[i] := List.getElem?_eq_getElem hip
    obtain ⟨x, hx, rx⟩ := play_at rxs ep
    obtain ⟨a2, m, b, rfl, ha2, rm, rb⟩ := step_inv rx
    have hol := opens_len pl i
    have ez : (0 : Int) + (i : Nat) = ((i : Nat) : Int) := Int.zero_add _
    have hx' := atI_nat hx
    rw [← ez] at hx'
    have ha1 := ha.same hn.s
    have ha21 := ha2.same hn.s
    cases hmv : pl[i].mv with
    | ask p =>
      rw [hmv] at rm
      obtain ⟨a3, y, rfl, ha3, _⟩ := ask_inv rm
      refine ⟨_, rfl, _, rfl, a, xs, _, _, rfl, rfl, ha1.sq, hx', a2, _, 0, _, rfl, rfl, ha21.sq, rfl, a3, _, 0, _, rfl, rfl, (ha3.same hn.s).sq, rfl, rfl, _, rfl, iteT ⟨_, rfl, .inl ⟨rfl, _, SqL.of hn.h⟩, _, rfl, l, _, _, rfl, rfl, hn.h, small6 (by rw [nats_len]; omega), _, rfl, ?_⟩⟩
      rw [ez, nats_snoc, opens_succ ep]
      have eo : opnS (opens pl i) i pl[i] = opens pl i ++ [i] := by
        unfold opnS
        rw [hmv]
      rw [eo]
      exact hn.put _
    | say u =>
      rw [hmv] at rm
      obtain ⟨a3, rfl, ha3⟩ := say_inv rm
      have ep' : pl[i]? = some ⟨.say u, pl[i].back⟩ := by
        rw [ep, ← hmv]
      obtain ⟨j, ej, hj⟩ := hop i u _ ep'
      rw [ej] at rb
      obtain ⟨rfl, _⟩ := Rep.inva (w := V.int (j : Nat)) rb
      obtain ⟨i0, i1, i2, i3⟩ := erase_eq (opens_up pl i) hj
      refine ⟨_, rfl, _, rfl, a, xs, _, _, rfl, rfl, ha1.sq, hx', a2, _, 0, _, rfl, rfl, ha21.sq, rfl, a3, _, 0, _, rfl, rfl, (ha3.same hn.s).sq, rfl, rfl, _, rfl, iteF ⟨_, rfl, .inl ⟨rfl, _, SqL.of hn.h⟩, _, rfl, _, rfl, a, xs, _, _, rfl, rfl, ha1.sq, hx', a2, _, 1, _, rfl, rfl, ha21.sq, rfl,
        l, (opens pl i).map (fun k : Nat => ((k : Nat) : Int)), (j : Int), i0, rfl, rfl, ?_, ?_, fun m hm => ?_, _, rfl, ?_⟩⟩
      · rw [nats_int]
        exact hn.h
      · rw [List.getElem?_map, i1]
        rfl
      · rw [List.getElem?_map]
        intro z
        obtain ⟨k, hk, e⟩ := Option.map_eq_some_iff.mp z
        exact i2 m hm (by rw [hk, show k = j by omega])
      · rw [nats_erase, i3, opens_succ ep]
        have eo : opnS (opens pl i) i pl[i] = (opens pl i).filter fun k => decide (some k ≠ some j) := by
          unfold opnS
          rw [hmv, ej]
        rw [eo]
        exact hn.put _
  · rintro σ H1 ⟨y2, rfl, hn⟩
    have el : ((xs.length : Nat) : Int).toNat = pl.length := by omega
    rw [el] at hn
    exact ⟨_, rfl, q l H1 hn⟩
def AtIs (K : PySem.W.Frag) (H : Hp) (o : Option D) (z : V) : Prop := match o with
  | some e => Rep K H z e ∧ isK e = true
  | none => z = .non
def spAtO (K : PySem.W.Frag) : Sp := fun vs H Q _ => ∃ (v x : V) (d : D) (p : List Nat), vs = [v, x] ∧ Rep K H v d ∧ isK d = true ∧ sz d ≤ 1000 ∧ Rep K H x (plD p) ∧ ∀ z, AtIs K H (atD d p) z → Q z H
theorem atD_tup (ts : List D) (k : Nat) (p : List Nat) : atD (.tup ts) (k :: p) = match ts[k]? with
  | some t => atD t p
  | none => none := by
  cases h : ts[k]? with
  | none =>
    conv => lhs; unfold atD
    rw [h]
  | some t =>
    conv => lhs; unfold atD
    rw [h]
theorem atD_nil (d : D) : atD d [] = some d := by cases d <;> rfl
theorem ok_latO {f : Addr} {fd : FuncData} (D__law_at : Df K mg "_law_at" s__law_at ["kind", "place"] f fd) (B : Bt mg) : FnOk P w K mg base CX0 1 f fd ["kind", "place"] (spAtO K) := by
  refine D__law_at.ok c__law_at (fun vs H Q E h => ?_) (fun cdv A outer s H vs Q E hr h => ?_)
  · obtain ⟨v, x, d, p, rfl, _⟩ := h
    rfl
  obtain ⟨v, x, d, p, rfl, rv, hk, hz, rx, q⟩ := h
  have nd := c__law_at.nd
  refine ⟨_, (pss_cons (ps_for PassesOwn.never rfl (pi_tup (pv 1)) (pg_name (i := 2) nd rfl (Or.inl rfl)) (pss_cons (ps_if (pt_cmpR op_ge (pv 2) (pe_callB call_len_seq (by rfl) B.b_len PySem.boot_len (pa_cons (pv 0) pa_nil)) (nomark _)) (pss_one (ps_ret pe_non)) pss_nil)
  (pss_one (ps_set (i := 0) nd rfl (Or.inl rfl) (pe_ix ix_tup (pv 0) (pv 2) (fun _ _ => rfl))))))
  (pss_one (ps_ret (pv 0)))), ?_⟩
  obtain ⟨a, xs, rfl, hx, rxs⟩ := Rep.inv (ts := p.map numD') rx
  have ex := rep_nats_inv rxs
  subst ex
  refine ⟨_, rfl, a, rfl, ⟨_, hx.sq⟩, for_tup (K := K) (a := a) (xs := nats p) (fun i σ H' => H' = H ∧ ∃ (v' : V) (d' : D) (y2 : Option V), σ = [some v', some (.ref a), y2] ∧ Rep K H v' d' ∧ isK d' = true ∧ sz d' ≤ 1000 ∧ atD d' (p.drop i) = atD d p)
    ⟨rfl, v, d, none, rfl, rv, hk, hz, rfl⟩ (fun i σ H' _ h => by rw [h.1]; exact hx.sq) ?_ ?_⟩
  · rintro i x σ H' hi ⟨rfl, v', d', y2, rfl, rv', hk', hz', e'⟩
    obtain ⟨k, hpk, rfl⟩ := nats_at hi
    have hil := (List.getElem?_eq_some_iff.mp hpk).1
    obtain ⟨ts, rfl, hts⟩ := isK_inv hk'
    obtain ⟨b, ys, rfl, hy, ry⟩ := rv'.inv
    have ly := ry.length
    have ed : p.drop i = k :: p.drop (i + 1) := by
      rw [List.drop_eq_getElem_cons hil]
      rw [List.getElem?_eq_getElem hil] at hpk
      rw [Option.some.inj hpk]
    rw [ed, atD_tup] at e'
    refine ⟨_, rfl, _, rfl, b, ys, rfl, .inr hy.sq, _, _, rfl, rfl, _, rfl, ite2 (fun c => ?_) (fun c => ?_)⟩
    · have c' : ((ys.length : Nat) : Int) ≤ ((k : Nat) : Int) := of_decide_eq_true c
      rw [List.getElem?_eq_none (by omega)] at e'
      refine q .non ?_
      rw [← e']
      rfl
    · have c' : k < ys.length := by
        rcases Nat.lt_or_ge k ys.length with h | h
        · exact h
        · exact absurd (decide_eq_true (show ((ys.length : Nat) : Int) ≤ ((k : Nat) : Int) by omega)) c
      have et : ts[k]? = some (ts[k]'(by omega)) := List.getElem?_eq_getElem _
      rw [et] at e'
      obtain ⟨y, hy2, ry2⟩ := ry.getD et
      have m := List.mem_of_getElem? et
      have hz2 := sz_mem m
      have hz3 : szs ts + 1 ≤ 1000 := hz'
      exact ⟨_, rfl, _, rfl, b, ys, _, _, rfl, rfl, hy.sq, atI_nat hy2, rfl, _, _, _, rfl, ry2, isK_mem hts m, by omega, e'⟩
  · rintro σ H' ⟨rfl, v', d', y2, rfl, rv', hk', hz', e'⟩
    rw [nats_len, List.drop_length, atD_nil] at e'
    refine ⟨_, rfl, q _ ?_⟩
    rw [← e']
    exact ⟨rv', hk'⟩
end
end Pk

set_option maxRecDepth 100000
set_option maxHeartbeats 4000000
set_option pp.maxSteps 600
namespace Pk
open PySem PySem.Spec PyProof.Rows L2
/-! ### plays whose steps are seen, and of the other player's turn -/
structure LW (kd : D) (pl : List Stp) : Prop where
  lp : LP kd pl
  par : Par pl
  tg : ∀ n, 0 < n → n < pl.length → ∃ p b, pl[bk pl n]? = some (Stp.mk (.ask p) b)
  dl : ∀ (n : Nat) (p : List Nat) (b : Option Nat), 0 < n → pl[n]? = some (Stp.mk (.ask p) b) → ∃ q b' k, pl[bk pl n]? = some (Stp.mk (.ask q) b') ∧ p = q ++ [k]
structure NxW (kd : D) (pl : List Stp) (s : Stp) : Prop where
  nx : Nxt kd pl s
  tg : pl ≠ [] → ∃ j p b, s.back = some j ∧ (pl.length + j) % 2 = 1 ∧ pl[j]? = some (Stp.mk (.ask p) b) ∧ ∀ r, s.mv = .ask r → ∃ k, r = p ++ [k]
theorem LW.nil (kd : D) : LW kd [] := ⟨LP.nil kd, fun n _ h => absurd h (Nat.not_lt_zero n), fun n _ h => absurd h (Nat.not_lt_zero n), fun n p b _ e => by simp at e⟩
theorem LW.take {kd : D} {pl : List Stp} (h : LW kd pl) (k : Nat) : LW kd (pl.take k) := by
  refine ⟨h.lp.take k, h.par.take k, fun n h0 hn => ?_, fun n p b h0 e => ?_⟩
  · rw [List.length_take] at hn
    have hb := h.lp.wb.bk_lt h0 (show n < pl.length by omega)
    rw [bk_take pl (by omega), List.getElem?_take_of_lt (by omega)]
    exact h.tg n h0 (by omega)
  · have hn := (List.getElem?_eq_some_iff.mp e).1
    rw [List.length_take] at hn
    have hb := h.lp.wb.bk_lt h0 (show n < pl.length by omega)
    rw [List.getElem?_take_of_lt (by omega)] at e
    rw [bk_take pl (by omega), List.getElem?_take_of_lt (by omega)]
    exact h.dl n p b h0 e
theorem bk_snoc {pl : List Stp} {s : Stp} {j : Nat} (e : s.back = some j) : bk (pl ++ [s]) pl.length = j := by
  unfold bk
  rw [List.getElem?_append_right (Nat.le_refl _), Nat.sub_self]
  show (s.back).getD 0 = j
  rw [e]
  rfl
theorem bk_old {pl : List Stp} {s : Stp} {n : Nat} (h : n < pl.length) : bk (pl ++ [s]) n = bk pl n := by
  unfold bk
  rw [List.getElem?_append_left h]
theorem LW.snoc {kd : D} {pl : List Stp} {s : Stp} (h : LW kd pl) (n : NxW kd pl s) (hl : pl.length < 40) : LW kd (pl ++ [s]) := by
  refine ⟨h.lp.snoc n.nx hl, fun m h0 hm => ?_, fun m h0 hm => ?_, fun m p b h0 e => ?_⟩
  · rw [List.length_append, List.length_singleton] at hm
    by_cases hlt : m < pl.length
    · rw [bk_old hlt]
      exact h.par m h0 hlt
    · have em : m = pl.length := by omega
      subst em
      obtain ⟨j, p, b, e1, e2, e3, _⟩ := n.tg (List.length_pos_iff.mp h0)
      rw [bk_snoc e1]
      exact e2
  · rw [List.length_append, List.length_singleton] at hm
    by_cases hlt : m < pl.length
    · rw [bk_old hlt, List.getElem?_append_left (by have := h.lp.wb.bk_lt h0 hlt; omega)]
      exact h.tg m h0 hlt
    · have em : m = pl.length := by omega
      subst em
      obtain ⟨j, p, b, e1, e2, e3, _⟩ := n.tg (List.length_pos_iff.mp h0)
      rw [bk_snoc e1, List.getElem?_append_left (List.getElem?_eq_some_iff.mp e3).1]
      exact ⟨p, b, e3⟩
  · have hm := (List.getElem?_eq_some_iff.mp e).1
    rw [List.length_append, List.length_singleton] at hm
    by_cases hlt : m < pl.length
    · rw [List.getElem?_append_left hlt] at e
      rw [bk_old hlt, List.getElem?_append_left (by have := h.lp.wb.bk_lt h0 hlt; omega)]
      exact h.dl m p b h0 e
    · have em : m = pl.length := by omega
      subst em
      obtain ⟨j, q, b', e1, e2, e3, e4⟩ := n.tg (List.length_pos_iff.mp h0)
      rw [List.getElem?_append_right (Nat.le_refl _), Nat.sub_self] at e
      have es : s = ⟨.ask p, b⟩ := Option.some.inj e
      obtain ⟨k, ek⟩ := e4 p (by rw [es])
      rw [bk_snoc e1, List.getElem?_append_left (List.getElem?_eq_some_iff.mp e3).1]
      exact ⟨q, b', k, e3, ek⟩
theorem nxw_of {kd : D} (hk : isK kd = true) {pl : List Stp} (h : LW kd pl) {s : Stp} (m : NxR kd pl s) : NxW kd pl s := by
  refine ⟨nxt_of hk m, fun hp => ?_⟩
  have hpos : 0 < pl.length := List.length_pos_iff.mpr hp
  obtain ⟨h1, h2⟩ := (mem_rows hk).mp ((lawR_mem hp).mp m)
  obtain ⟨mv, b⟩ := s
  have key : ∀ j q, askPl pl j = some q → j ∈ sight pl (pl.length - 1) → (pl.length - j) % 2 = 1 → (pl.length + j) % 2 = 1 ∧ ∃ b, pl[j]? = some (Stp.mk (.ask q) b) := fun j q hq hj ho => by
    have := (sight_up h.lp.wb (pl.length - 1) (by omega)).2 j hj
    exact ⟨by omega, askPl_some hq⟩
  cases mv with
  | ask p =>
    obtain ⟨j, q, k, rfl, ho, hq, hk2, rfl, hj⟩ := (lg_ask hk).mp h1
    obtain ⟨k1, b, k2⟩ := key j q hq hj ho
    exact ⟨j, q, b, rfl, k1, k2, fun r e => by injection e with e; exact ⟨k, e.symm⟩⟩
  | say v =>
    obtain ⟨j, q, rfl, ho, hq, hl, hj⟩ := lg_say.mp h1
    obtain ⟨k1, b, k2⟩ := key j q hq hj ho
    exact ⟨j, q, b, rfl, k1, k2, fun r e => nomatch e⟩
/-- what an answered ask hides -/
theorem view_out {pl : List Stp} (hw : WB pl) (hp : Par pl) {x m : Nat} (hx : x < m) (hbm : bk pl m = x) : ∀ (n c : Nat), c < n → m ≤ c → c < pl.length → (∀ c', m < c' → c' ≤ c → ¬ (x ≤ bk pl c' ∧ bk pl c' ≤ m)) →
    ∀ j ∈ sight pl c, x ≤ j → j ≤ m → (c + m) % 2 = 0 ∧ (j = m ∨ j = x)
  | 0, c, hn, _, _, _, _, _, _, _ => absurd hn (Nat.not_lt_zero c)
  | n + 1, c, hn, hc, hl, ih, j, hj, h1, h2 => by
    have hc0 : 0 < c := by omega
    have hb := hw.bk_lt hc0 hl
    by_cases hcm : c = m
    · subst hcm
      refine ⟨by omega, ?_⟩
      by_cases hb0 : bk pl c = 0
      · rw [sight_one hc0 hb0] at hj
        simp only [List.mem_cons, List.not_mem_nil, or_false] at hj
        omega
      · rw [sight_more hw hc0 hl hb0] at hj
        rcases List.mem_append.mp hj with hj | hj
        · have := (sight_up hw (bk pl c - 1) (by omega)).2 j hj
          omega
        · simp only [List.mem_cons, List.not_mem_nil, or_false] at hj
          omega
    · have hmc : m < c := by omega
      have hno := ih c hmc (Nat.le_refl c)
      have hpar := hp c hc0 hl
      by_cases hb0 : bk pl c = 0
      · rw [sight_one hc0 hb0] at hj
        simp only [List.mem_cons, List.not_mem_nil, or_false] at hj
        omega
      · rw [sight_more hw hc0 hl hb0] at hj
        rcases List.mem_append.mp hj with hj | hj
        · have hle := (sight_up hw (bk pl c - 1) (by omega)).2 j hj
          have hgt : m < bk pl c := by omega
          have r := view_out hw hp hx hbm n (bk pl c - 1) (by omega) (by omega) (by omega) (fun c' g1 g2 => ih c' g1 (by omega)) j hj h1 h2
          exact ⟨by omega, r.2⟩
        · simp only [List.mem_cons, List.not_mem_nil, or_false] at hj
          omega
theorem hidden {kd : D} {pl : List Stp} (h : LW kd pl) {x m u : Nat} (hm0 : 0 < m) (em : pl[m]? = some ⟨.say u, some x⟩) : ∀ n, m < n → n < pl.length → ¬ (x ≤ bk pl n ∧ bk pl n ≤ m) := by
  have hml := (List.getElem?_eq_some_iff.mp em).1
  have hbm : bk pl m = x := by
    unfold bk
    rw [em]
    rfl
  have hx : x < m := by
    have := h.lp.wb.bk_lt hm0 hml
    omega
  intro n
  induction n using Nat.strongRecOn with
  | ind n ih =>
    intro hn hl ⟨g1, g2⟩
    have hv := h.lp.ws n (by omega) hl
    obtain ⟨r1, r2⟩ := view_out h.lp.wb h.par hx hbm n (n - 1) (by omega) (by omega) (by omega) (fun c' a1 a2 => ih c' (by omega) a1 (by omega)) _ hv g1 g2
    have p1 := h.par n (by omega) hl
    have p2 := h.par m hm0 hml
    rcases r2 with r2 | r2
    · obtain ⟨p, b, e⟩ := h.tg n (by omega) hl
      rw [r2, em] at e
      cases e
    · omega
theorem opens_keep {pl : List Stp} {j : Nat} {p : List Nat} {b : Option Nat} (ej : pl[j]? = some ⟨.ask p, b⟩) (hn : ∀ n u, j < n → pl[n]? = some ⟨.say u, some j⟩ → False) : ∀ m, j < m → m ≤ pl.length → j ∈ opens pl m
  | 0, h, _ => absurd h (Nat.not_lt_zero j)
  | m + 1, h, hl => by
    have es : pl[m]? = some pl[m] := List.getElem?_eq_getElem (by omega)
    rw [opens_succ es]
    unfold opnS
    by_cases hjm : j = m
    · subst hjm
      rw [es] at ej
      rw [Option.some.inj ej]
      exact List.mem_append_right _ (List.mem_singleton.mpr rfl)
    · have ih := opens_keep ej hn m (by omega) (by omega)
      split
      · exact List.mem_append_left _ ih
      · next v hv =>
        refine List.mem_filter.mpr ⟨ih, decide_eq_true fun e => ?_⟩
        refine hn m v (by omega) ?_
        rw [es]
        cases hs : pl[m] with
        | mk mv bb =>
          rw [hs] at hv e
          have hv' : mv = .say v := hv
          have e' : some j = bb := e
          rw [hv', e']
/-- an ask in sight, of the player that was at turn, is open -/
theorem in_sight_open {kd : D} {pl : List Stp} (h : LW kd pl) {j : Nat} {p : List Nat} {b : Option Nat} (hj : j ∈ sight pl (pl.length - 1)) (ej : pl[j]? = some ⟨.ask p, b⟩) (ho : (pl.length + j) % 2 = 1) : j ∈ opens pl pl.length := by
  have hjl := (List.getElem?_eq_some_iff.mp ej).1
  refine opens_keep ej (fun m u hjm em => ?_) pl.length hjl (Nat.le_refl _)
  have hml := (List.getElem?_eq_some_iff.mp em).1
  have hbm : bk pl m = j := by
    unfold bk
    rw [em]
    rfl
  have hid := hidden h (show 0 < m by omega) em
  obtain ⟨r1, _⟩ := view_out h.lp.wb h.par hjm hbm pl.length (pl.length - 1) (by omega) (by omega) (by omega) (fun c' g1 g2 => hid c' g1 (by omega)) j hj (Nat.le_refl _) (by omega)
  have := h.par m (by omega) hml
  omega
theorem sight_par {pl : List Stp} (hw : WB pl) (hp : Par pl) : ∀ (f n : Nat), n < f → n < pl.length → n % 2 = 0 → (sight pl n).length % 2 = 1 ∧ ∀ i k, (sight pl n)[i]? = some k → k % 2 = i % 2
  | 0, n, h, _, _ => absurd h (Nat.not_lt_zero n)
  | f + 1, n, hf, hl, h2 => by
    by_cases h0 : n = 0
    · subst h0
      rw [sight_zero]
      refine ⟨rfl, fun i k e => ?_⟩
      match i, e with
      | 0, e => cases e; rfl
    · have hn0 : 0 < n := by omega
      have hpar := hp n hn0 hl
      have hb := hw.bk_lt hn0 hl
      rw [sight_more hw hn0 hl (by omega)]
      obtain ⟨i1, i2⟩ := sight_par hw hp f (bk pl n - 1) (by omega) (by omega) (by omega)
      refine ⟨by rw [List.length_append]; show (_ + 2) % 2 = 1; omega, fun i k e => ?_⟩
      rcases Nat.lt_or_ge i (sight pl (bk pl n - 1)).length with hi | hi
      · rw [List.getElem?_append_left hi] at e
        exact i2 i k e
      · rw [List.getElem?_append_right hi] at e
        generalize hd : i - (sight pl (bk pl n - 1)).length = d at e
        match d, e with
        | 0, e => cases e; omega
        | 1, e => cases e; omega
theorem plc_app {s x : List Stp} {c : Nat} (h : c < s.length) : plc (s ++ x) c = plc s c := by
  unfold plc
  rw [List.getElem?_append_left h]
/-- the calls stand in the kind -/
structure InK (kd : D) (ks : List D) (s : List Stp) (cs : List Nat) : Prop where
  l : cs.length = ks.length
  c : OkC s cs
  e : ∀ c ∈ cs, c % 2 = 0
  k : ∀ (i c : Nat) (k : D), cs[i]? = some c → ks[i]? = some k → atD kd (plc s c) = some k
theorem InK.app {kd : D} {ks : List D} {s : List Stp} {cs : List Nat} (h : InK kd ks s cs) (x : Stp) : InK kd ks (s ++ [x]) cs :=
  ⟨h.l, h.c.snoc x, h.e, fun i c k e1 e2 => by rw [plc_app (h.c.lt (List.mem_of_getElem? e1))]; exact h.k i c k e1 e2⟩
def LegR (kd : D) (e : Row) : Prop := ∃ c p b, e.2.back = some c ∧ c % 2 = 0 ∧ e.1[c]? = some (Stp.mk (.ask p) b) ∧ ∀ q, e.2.mv = .ask q → (∃ d, atD kd q = some d) ∧ ∃ k, q = p ++ [k]
theorem args_at {kd a : D} {k : Nat} (h : (args kd)[k]? = some a) : ∃ ts, kd = .tup ts ∧ ts[k]? = some a := by
  cases kd with
  | «at» _ => cases h
  | lst => cases h
  | tup ts => exact ⟨ts, rfl, h⟩
mutual
theorem rowsB_leg {kd : D} : ∀ (t : T) (ks : List D) (s : List Stp) (cs : List Nat), wfB ks t = true → cs ≠ [] → s.length % 2 = 1 → InK kd ks s cs → ∀ e ∈ rowsB t s cs, LegR kd e
  | .say v, ks, s, cs, _, hne, _, hi, e, h => by
    rw [List.mem_singleton.mp h]
    have hm : cs.getD 0 0 ∈ cs := mem_getD (List.length_pos_iff.mpr hne)
    obtain ⟨p, b, e1⟩ := hi.c _ hm
    exact ⟨cs.getD 0 0, p, b, rfl, hi.e _ hm, e1, fun q z => (nomatch z)⟩
  | .stop, _, _, _, _, _, _, _, e, h => by cases h
  | .prog _ _, _, _, _, _, _, _, _, e, h => by cases h
  | .ask up k as z o, ks, s, cs, hw, hne, hs, hi, e, h => by
    obtain ⟨kd', a, e1, e2, w1, w2, w3⟩ := wfB_ask hw
    have hu : up < cs.length := by
      have := (List.getElem?_eq_some_iff.mp e1).1
      rw [hi.l]
      exact this
    have hm := mem_getD hu
    have ec : cs[up]? = some (cs.getD up 0) := by
      rw [List.getElem?_eq_getElem hu, List.getD_eq_getElem?_getD, List.getElem?_eq_getElem hu]
      rfl
    have hat := hi.k up _ kd' ec e1
    obtain ⟨ts, rfl, hts⟩ := args_at e2
    have hat2 := atD_snoc _ kd ts k a hat hts
    have iA := hi.app (asK s (cs.getD up 0) k)
    have lA : (s ++ [asK s (cs.getD up 0) k] ++ [(⟨.say 0, some s.length⟩ : Stp)]).length % 2 = 1 := by
      rw [List.length_append, List.length_append]
      show (s.length + 1 + 1) % 2 = 1
      omega
    rcases List.mem_cons.mp h with h | h
    · rw [h]
      obtain ⟨p, b, ep⟩ := hi.c _ hm
      refine ⟨cs.getD up 0, p, b, rfl, hi.e _ hm, ep, fun q z => ?_⟩
      have z' : Mv.ask (plc s (cs.getD up 0) ++ [k]) = .ask q := z
      injection z' with z'
      exact ⟨⟨a, by rw [← z']; exact hat2⟩, k, by rw [← z', plc_at ep]⟩
    rcases List.mem_append.mp h with h | h
    · exact rowsB_leg z ks _ cs w2 hne lA (iA.app _) e h
    rcases List.mem_append.mp h with h | h
    · exact rowsB_leg o ks _ cs w3 hne (by rw [List.length_append, List.length_append]; show (s.length + 1 + 1) % 2 = 1; omega) (iA.app _) e h
    · exact rowsPs_leg as ks (args a) (plc s (cs.getD up 0) ++ [k]) s (asK s (cs.getD up 0) k) cs 0 w1 hs iA (fun i d hd => by
        obtain ⟨us, rfl, hus⟩ := args_at hd
        rw [Nat.zero_add]
        exact atD_snoc _ kd us i d hat2 hus) e h
theorem rowsPs_leg {kd : D} : ∀ (ts : List T) (ks ds : List D) (p : List Nat) (s : List Stp) (x : Stp) (cs : List Nat) (i : Nat), wfPs ks ds ts = true → s.length % 2 = 1 → InK kd ks (s ++ [x]) cs →
    (∀ j d, ds[j]? = some d → atD kd (p ++ [i + j]) = some d) → ∀ e ∈ rowsPs ts p (s ++ [x]) s.length cs i, LegR kd e
  | [], _, _, _, _, _, _, _, _, _, _, _, e, h => by cases h
  | t :: ts, ks, ds, p, s, x, cs, i, hw, hs, hi, hd, e, h => by
    obtain ⟨d, ds', rfl, w1, w2⟩ := wfPs_cons hw
    obtain ⟨m, b, rfl, _, w3⟩ := wfP_inv w1
    have ls : (s ++ [x]).length = s.length + 1 := by rw [List.length_append, List.length_singleton]
    rcases List.mem_append.mp h with h | h
    · have hix := hi.app (⟨.ask (p ++ [i]), some s.length⟩ : Stp)
      have enew : (s ++ [x] ++ [(⟨.ask (p ++ [i]), some s.length⟩ : Stp)])[s.length + 1]? = some ⟨.ask (p ++ [i]), some s.length⟩ := by
        rw [List.getElem?_append_right (by omega), ls, Nat.sub_self]
        rfl
      refine rowsB_leg b (d :: ks) _ _ w3 (List.cons_ne_nil _ _) (by rw [List.length_append, ls]; show (s.length + 1 + 1) % 2 = 1; omega) ⟨by rw [List.length_cons, List.length_cons, hi.l], fun c m => ?_, fun c m => ?_, fun j c k e1 e2 => ?_⟩ e h
      · rcases List.mem_cons.mp m with rfl | m
        · exact ⟨_, _, enew⟩
        · exact hix.c c m
      · rcases List.mem_cons.mp m with rfl | m
        · omega
        · exact hix.e c m
      · cases j with
        | zero =>
          have e1' : s.length + 1 = c := Option.some.inj e1
          have e2' : d = k := Option.some.inj e2
          rw [← e1', ← e2', plc_at enew]
          exact hd 0 d rfl
        | succ j => exact hix.k j c k e1 e2
    · refine rowsPs_leg ts ks ds' p s x cs (i + 1) w2 hs hi (fun j d' hd' => ?_) e h
      have := hd (j + 1) d' hd'
      rw [show i + (j + 1) = i + 1 + j by omega] at this
      exact this
end
theorem rowsT_leg {kd : D} {t : T} (hw : wfP [] kd t = true) : ∀ r ∈ rowsT t, LegR kd r := fun r hr => by
  obtain ⟨m, b, rfl, em, wb⟩ := wfP_inv hw
  refine rowsB_leg b [kd] [BEG] [0] wb (List.cons_ne_nil _ _) rfl ⟨rfl, fun c m => ?_, fun c m => ?_, fun i c k e1 e2 => ?_⟩ r hr
  · rw [List.mem_singleton.mp m]
    exact ⟨[], none, rfl⟩
  · rw [List.mem_singleton.mp m]
  · cases i with
    | zero =>
      have e1' : 0 = c := Option.some.inj e1
      have e2' : kd = k := Option.some.inj e2
      rw [← e1', ← e2']
      exact atD_nil kd
    | succ i => cases e1
/-! ### the reply of a strategy -/
def sgl (pl : List Stp) : List Nat := sight pl (pl.length - 1)
def backN (pl : List Stp) (x : Stp) : Stp := ⟨x.mv, x.back.map fun c => (sgl pl).getD c 0⟩
def repl (rows : List Row) (pl : List Stp) : Option Stp := (lkR rows (apart pl (sgl pl))).map (backN pl)
theorem apart_at {pl : List Stp} {ns : List Nat} {c : Nat} {mv : Mv} {b : Option Nat} (hn : ∀ n ∈ ns, n < pl.length) (h : (apart pl ns)[c]? = some ⟨mv, b⟩) : ∃ n b', ns[c]? = some n ∧ pl[n]? = some ⟨mv, b'⟩ := by
  unfold apart at h
  rw [List.getElem?_map] at h
  obtain ⟨n, hc, e⟩ := Option.map_eq_some_iff.mp h
  have hl := hn n (List.mem_of_getElem? hc)
  refine ⟨n, (pl[n]).back, hc, ?_⟩
  have es : pl[n]? = some pl[n] := List.getElem?_eq_getElem hl
  unfold apS at e
  rw [es] at e
  have e1 : (pl[n]).mv = mv := congrArg Stp.mv e
  rw [es, ← e1]
theorem repl_legal {kd : D} {t : T} (hw : wfP [] kd t = true) {pl : List Stp} (h : LW kd pl) (ho : pl.length % 2 = 1) {s : Stp} (e : repl (rowsT t) pl = some s) : NxW kd pl s ∧ ∃ (c j : Nat), s.back = some j ∧ (sgl pl)[c]? = some j := by
  obtain ⟨x, hx, rfl⟩ := Option.map_eq_some_iff.mp e
  obtain ⟨c, p, b, e1, e2, e3, e4⟩ := rowsT_leg hw _ (lkR_mem hx)
  have hlp : 0 < pl.length := by omega
  have up := sight_up h.lp.wb (pl.length - 1) (by omega)
  obtain ⟨j, b', hc, ej⟩ := apart_at (fun n hn => by have := up.2 n hn; omega) e3
  have hjs : j ∈ sgl pl := List.mem_of_getElem? hc
  have hpar := (sight_par h.lp.wb h.par pl.length (pl.length - 1) (by omega) (by omega) (by omega)).2 c j hc
  have eb : (backN pl x).back = some j := by
    show x.back.map (fun c => (sgl pl).getD c 0) = some j
    have e1' : x.back = some c := e1
    rw [e1']
    show some ((sgl pl).getD c 0) = some j
    rw [List.getD_eq_getElem?_getD, hc]
    rfl
  have hod : (pl.length + j) % 2 = 1 := by omega
  refine ⟨⟨.inr ⟨List.length_pos_iff.mp hlp, j, eb, hjs, ?_⟩, fun _ => ⟨j, p, b', eb, hod, ej, fun r e => (e4 r e).2⟩⟩, c, j, eb, hc⟩
  cases hm : x.mv with
  | ask q =>
    obtain ⟨⟨d, hd⟩, _⟩ := e4 q hm
    exact .inl ⟨q, d, hm, hd⟩
  | say u => exact .inr ⟨u, hm, in_sight_open h hjs ej hod⟩
theorem sight_oks {kd : D} {pl : List Stp} (h : LW kd pl) {n : Nat} (hn : n < pl.length) (h0 : (sight pl n)[0]? = some 0) : OkS (apart pl (sight pl n)) := by
  have up := sight_up h.lp.wb n hn
  have cl := sight_cl h.lp.wb h.lp.ws n hn
  have at_ : ∀ (i : Nat) (x : Stp), (apart pl (sight pl n))[i]? = some x → ∃ k, (sight pl n)[i]? = some k ∧ k < pl.length ∧ x = apS pl (sight pl n) k := fun i x e => by
    unfold apart at e
    rw [List.getElem?_map] at e
    obtain ⟨k, hk, ex⟩ := Option.map_eq_some_iff.mp e
    exact ⟨k, hk, (cl k (List.mem_of_getElem? hk)).1, ex.symm⟩
  have hp : 0 < pl.length := by omega
  refine ⟨?_, fun i x hi e => ?_, fun i => ?_⟩
  · unfold apart
    rw [List.getElem?_map, h0]
    show some (apS pl (sight pl n) 0) = _
    have ep : pl[0]? = some pl[0] := List.getElem?_eq_getElem hp
    have ef := h.lp.wb.first _ ep
    unfold apS
    rw [ep, ef]
    rfl
  · obtain ⟨k, hk, hkl, rfl⟩ := at_ i x e
    have hk0 : 0 < k := by
      have hil := (List.getElem?_eq_some_iff.mp hk)
      have h0l := (List.getElem?_eq_some_iff.mp h0)
      obtain ⟨l1, e1⟩ := hil
      obtain ⟨l2, e2⟩ := h0l
      have := List.pairwise_iff_getElem.mp up.1 0 i l2 l1 hi
      omega
    have ep : pl[k]? = some pl[k] := List.getElem?_eq_getElem hkl
    obtain ⟨j, ej, _⟩ := h.lp.wb.later k _ hk0 ep
    unfold apS
    rw [ep]
    show ((pl[k]).back.map _) ≠ none
    rw [ej]
    exact fun z => nomatch z
  · induction i using Nat.strongRecOn with
    | ind i ih =>
      intro p b e
      obtain ⟨k, hk, hkl, ex⟩ := at_ i _ e
      have ep : pl[k]? = some pl[k] := List.getElem?_eq_getElem hkl
      have em : (pl[k]).mv = .ask p := by
        unfold apS at ex
        rw [ep] at ex
        injection ex with e1 _
        exact e1.symm
      have epk : pl[k]? = some ⟨.ask p, (pl[k]).back⟩ := by rw [ep, ← em]
      by_cases hk0 : k = 0
      · subst hk0
        have ef := h.lp.wb.first _ epk
        injection ef with ef _
        injection ef with ef
        rw [ef]
        exact Nat.zero_le _
      · obtain ⟨q, b', c, e1, rfl⟩ := h.dl k p _ (by omega) epk
        have hbm := (cl k (List.mem_of_getElem? hk)).2.resolve_left hk0
        obtain ⟨i', hi'⟩ := List.mem_iff_getElem?.mp hbm
        have hlt : i' < i := by
          have hb := h.lp.wb.bk_lt (by omega) hkl
          obtain ⟨l1, f1⟩ := List.getElem?_eq_some_iff.mp hk
          obtain ⟨l2, f2⟩ := List.getElem?_eq_some_iff.mp hi'
          rcases Nat.lt_trichotomy i' i with g | g | g
          · exact g
          · subst g
            rw [hk] at hi'
            have := Option.some.inj hi'
            omega
          · have := List.pairwise_iff_getElem.mp up.1 i i' l1 l2 g
            omega
        have ea : (apart pl (sight pl n))[i']? = some ⟨.ask q, (apS pl (sight pl n) (bk pl k)).back⟩ := by
          unfold apart
          rw [List.getElem?_map, hi']
          show some (apS pl (sight pl n) (bk pl k)) = _
          congr 1
          unfold apS
          rw [e1]
          rfl
        have := ih i' hlt q _ ea
        rw [List.length_append, List.length_singleton]
        omega
end Pk

set_option maxRecDepth 100000
set_option maxHeartbeats 4000000
set_option pp.maxSteps 600
namespace Pk
open PySem PySem.Spec PyProof.Rows L2
/-! ### data of plays may be laid -/
theorem lay_nums : ∀ p : List Nat, PyData.canLayAll0 (toPys (p.map numD')) = true
  | [] => rfl
  | k :: p => lay_nums p
theorem lay_bk (k : Option Nat) : PyData.canLay0 (toPy (bkD k)) = true := by cases k <;> rfl
theorem lay_mv (m : Mv) : PyData.canLay0 (toPy (mvD m)) = true := by
  cases m with
  | say v =>
    show (PyData.canLay0 (.str "say") && (true && true)) = true
    decide +kernel
  | ask p =>
    show (PyData.canLay0 (.str "ask") && (PyData.canLayAll0 (toPys (p.map numD')) && true)) = true
    rw [lay_nums]
    decide +kernel
theorem lay_st (s : Stp) : PyData.canLay0 (toPy (stD s)) = true := by
  show (PyData.canLay0 (toPy (mvD s.mv)) && (PyData.canLay0 (toPy (bkD s.back)) && true)) = true
  rw [lay_mv, lay_bk]
  rfl
theorem lay_sts : ∀ l : List Stp, PyData.canLayAll0 (toPys (l.map stD)) = true
  | [] => rfl
  | s :: r => by
    show (PyData.canLay0 (toPy (stD s)) && PyData.canLayAll0 (toPys (r.map stD))) = true
    rw [lay_st, lay_sts r]
    rfl
theorem shaped_of {d : D} (h : PyData.canLay0 (toPy d) = true) (hd : dep d ≤ 60) : SeqAt.shaped (toPy d) = true := by
  unfold SeqAt.shaped
  have := depth_noL d
  rw [h, decide_eq_true (by omega)]
  rfl
theorem shaped_pl (p : List Nat) : SeqAt.shaped (toPy (plD p)) = true := shaped_of (lay_nums p) (by have := deps_nums p; show deps (p.map numD') ≤ 60; omega)
theorem shaped_st (s : Stp) : SeqAt.shaped (toPy (stD s)) = true := shaped_of (lay_st s) (by have := dep_st s; omega)
theorem shaped_play (l : List Stp) : SeqAt.shaped (toPy (playD l)) = true := shaped_of (lay_sts l) (by have := deps_sts l; show deps (l.map stD) ≤ 60; omega)
theorem eqv_pl (p q : List Nat) : PyData.eqv (toPy (plD p)) (toPy (plD q)) = decide (p = q) := eqv_nums p q
theorem inV_nats {ns : List Nat} {j : Nat} (h : inV (.int (j : Nat)) (nats ns) = true) : j ∈ ns := by
  unfold inV at h
  obtain ⟨x, hx, e⟩ := List.any_eq_true.mp h
  obtain ⟨k, hk, rfl⟩ := List.mem_map.mp hx
  have e2 : ((k : Int) == (j : Int)) = true := e
  rw [beq_iff_eq] at e2
  rw [show j = k by omega]
  exact hk
theorem inV_of {ns : List Nat} {j : Nat} (h : j ∈ ns) : inV (.int (j : Nat)) (nats ns) = true := by
  unfold inV
  refine List.any_eq_true.mpr ⟨_, List.mem_map.mpr ⟨j, h, rfl⟩, ?_⟩
  show ((j : Int) == (j : Int)) = true
  exact beq_self_eq_true _
theorem inV_iff {ns : List Nat} {j : Nat} : inV (.int (j : Nat)) (nats ns) = decide (j ∈ ns) := by
  cases h : inV (.int (j : Nat)) (nats ns) with
  | true => exact (decide_eq_true (inV_nats h)).symm
  | false => exact (decide_eq_false fun z => by rw [inV_of z] at h; cases h).symm
/-! ### _law_goes_on -/
section
variable {P : Program} {w : World} {K : PySem.W.Frag} {mg : Str → Option Value} {base : Heap}
def spGo (K : PySem.W.Frag) : Sp := fun vs H Q _ => ∃ (kv v sv : V) (kd : D) (pl : List Stp) (s : Stp) (j : Nat), vs = [kv, v, sv] ∧ Rep K H kv kd ∧ isK kd = true ∧ sz kd ≤ 1000 ∧ Rep K H v (playD pl) ∧ LW kd pl ∧ pl ≠ [] ∧ Rep K H sv (stD s) ∧ s.back = some j ∧ j < pl.length ∧ (∀ p, s.mv = .ask p → p.length ≤ 1000) ∧
  ∀ (b : Bool) H', Same H H' → lgB kd pl (opens pl pl.length) s = b → Q (.bl b) H'
theorem last_of {ns : List Nat} (h : ns ≠ []) : atI (nats ns) (((ns.length : Nat) : Int) - 1) = some (V.int (ns.getLast h : Nat)) := by
  have hl : 0 < ns.length := List.length_pos_iff.mpr h
  have e : (((ns.length : Nat) : Int) - 1) = ((ns.length - 1 : Nat) : Int) := by omega
  rw [e]
  refine atI_nat ?_
  unfold nats
  rw [List.getElem?_map, ← List.getLast?_eq_getElem?, List.getLast?_eq_some_getLast h]
  rfl
theorem ok_lgo {f f1 f2 f3 f4 : Addr} {fd d1 d2 d3 d4 : FuncData} (D__law_goes_on : Df K mg "_law_goes_on" s__law_goes_on ["kind", "play", "step"] f fd) (D__law_sight : Df K mg "_law_sight" s__law_sight ["play"] f1 d1) (D__law_asker_sight : Df K mg "_law_asker_sight" s__law_asker_sight ["play"] f2 d2)
    (D__law_open : Df K mg "_law_open" s__law_open ["play"] f3 d3) (D__law_at : Df K mg "_law_at" s__law_at ["kind", "place"] f4 d4) (B : Bt mg) : FnOk P w K mg base CX0 42 f fd ["kind", "play", "step"] (spGo K) := by
  have G__law_sight : FnOk P w K mg base CX0 41 f1 d1 ["play"] (spSg K 1 41) := ok_sg D__law_sight B 41
  have G__law_asker_sight : FnOk P w K mg base CX0 41 f2 d2 ["play"] (spSg K 0 41) := ok_asg D__law_asker_sight B 41
  have G__law_open : FnOk P w K mg base CX0 1 f3 d3 ["play"] (spOp K) := ok_lop D__law_open B
  have G__law_at : FnOk P w K mg base CX0 1 f4 d4 ["kind", "place"] (spAtO K) := ok_latO D__law_at B
  refine D__law_goes_on.ok c__law_goes_on (fun vs H Q E h => ?_) (fun cdv A outer s0 H vs Q E hr h => ?_)
  · obtain ⟨kv, v, sv, kd, pl, s, j, rfl, _⟩ := h
    rfl
  obtain ⟨kv, v, sv, kd, pl, st, j, rfl, rk, hk, hz, rv, hL, hne, rs, hb, hj, hsl, q⟩ := h
  have nd := c__law_goes_on.nd
  refine ⟨_, (pss_cons (ps_set (i := 3) nd rfl (Or.inl rfl) (pe_callB call_len_seq (by rfl) B.b_len PySem.boot_len (pa_cons (pv 1) pa_nil)))
  (pss_cons (ps_asg (pv 2) (pg_tup rfl (pgs_cons (pg_name (i := 4) nd rfl (Or.inl rfl)) (pgs_cons (pg_name (i := 5) nd rfl (Or.inl rfl)) pgs_nil))))
  (pss_cons (ps_if (pt_cmpR op_eq (pv 3) pe_int (nomark _)) (pss_one (ps_ret (pe_cmpR (op_eqD hr.units) (pv 2) (pe_tup (pa_cons (pe_tup (pa_cons pe_str (pa_cons (pe_tup pa_nil) pa_nil))) (pa_cons pe_non pa_nil))) (nomark _)))) pss_nil)
  (pss_cons (ps_if (PW.pt (pw_or (pt_cmpR op_eq (pe_op op_mod (pe_callTy call_int1 (by rfl) B.b_int (by decide +kernel) (pa_cons (pe_op op_add (pv 3) (pv 5)) pa_nil)) pe_int) pe_int (nomark _)) (pw_or1 (pt_cmpR op_ne (pe_ix ix_tup (pe_ix ix_tup (pe_ix ix_tup (pv 1) (pv 5) (fun _ _ => rfl)) pe_int (fun _ _ => rfl)) pe_int (fun _ _ => rfl)) pe_str (nomark _))))) (pss_one (ps_ret pe_bl)) pss_nil)
  (pss_cons (ps_if (pt_cmpR op_eq (pe_ix ix_tup (pv 4) pe_int (fun _ _ => rfl)) pe_str (nomark _)) (pss_cons (ps_set (i := 6) nd rfl (Or.inl rfl) (pe_ix ix_tup (pe_ix ix_tup (pe_ix ix_tup (pv 1) (pv 5) (fun _ _ => rfl)) pe_int (fun _ _ => rfl)) pe_int (fun _ _ => rfl)))
  (pss_one (ps_if (PW.pt (pw_or (pt_cmpR op_ne (pe_callB call_len_seq (by rfl) B.b_len PySem.boot_len (pa_cons (pe_ix ix_tup (pv 4) pe_int (fun _ _ => rfl)) pa_nil)) (pe_op op_add (pe_callB call_len_seq (by rfl) B.b_len PySem.boot_len (pa_cons (pv 6) pa_nil)) pe_int) (nomark _)) (pw_or (pt_cmpR (op_neD hr.units) (pe_slice sl_tupP (pe_ix ix_tup (pv 4) pe_int (fun _ _ => rfl)) po_none (po_some (pe_callB call_len_seq (by rfl) B.b_len PySem.boot_len (pa_cons (pv 6) pa_nil)))) (pv 6) (nomark _)) (pw_or1 (pt_cmpR op_isN (pe_call G__law_at (hr.mono (by first | decide | omega)) (by rfl) D__law_at.m D__law_at.kp D__law_at.b .nil pass0 (pa_cons (pv 0) (pa_cons (pe_ix ix_tup (pv 4) pe_int (fun _ _ => rfl)) pa_nil))) pe_non (nomark _)))))) (pss_one (ps_ret pe_bl)) pss_nil))) (pss_cons (ps_set (i := 7) nd rfl (Or.inl rfl) (pe_call G__law_open (hr.mono (by first | decide | omega)) (by rfl) D__law_open.m D__law_open.kp D__law_open.b .nil pass0 (pa_cons (pv 1) pa_nil)))
  (pss_one (ps_if (PW.pt (pw_or (pt_cmpR op_eq (pe_callB call_len_seq (by rfl) B.b_len PySem.boot_len (pa_cons (pv 7) pa_nil)) pe_int (nomark _)) (pw_or1 (pt_cmpR op_ne (pe_ix ix_list (pv 7) (pe_op op_sub (pe_callB call_len_seq (by rfl) B.b_len PySem.boot_len (pa_cons (pv 7) pa_nil)) pe_int) (fun _ _ => rfl)) (pv 5) (nomark _))))) (pss_one (ps_ret pe_bl)) pss_nil))))
  (pss_cons (ps_if (pt_cmpR op_eq (pe_op op_mod (pe_callTy call_int1 (by rfl) B.b_int (by decide +kernel) (pa_cons (pv 3) pa_nil)) pe_int) pe_int (nomark _)) (pss_one (ps_ret (pe_cmpR op_in_seq (pv 5) (pe_call G__law_sight (hr.mono (by first | decide | omega)) (by rfl) D__law_sight.m D__law_sight.kp D__law_sight.b .nil pass0 (pa_cons (pv 1) pa_nil)) rfl))) pss_nil)
  (pss_one (ps_ret (pe_cmpR op_in_seq (pv 5) (pe_call G__law_asker_sight (hr.mono (by first | decide | omega)) (by rfl) D__law_asker_sight.m D__law_asker_sight.kp D__law_asker_sight.b .nil pass0 (pa_cons (pv 1) pa_nil)) rfl))))))))), ?_⟩
  obtain ⟨a, xs, rfl, ha, rxs, lx⟩ := play_inv rv
  obtain ⟨b, m, bv, rfl, hbs, rm, rb⟩ := step_inv rs
  rw [hb] at rb
  obtain ⟨rfl, _⟩ := Rep.inva (w := V.int (j : Nat)) rb
  have hp : 0 < pl.length := List.length_pos_iff.mpr hne
  have hlen := hL.lp.len
  have el : lgB kd pl (opens pl pl.length) st = (decide ((pl.length - j) % 2 = 1) && (plB kd pl j st.mv && ((match st.mv with
    | .ask _ => true
    | .say _ => decide ((opens pl pl.length).getLast? = some j)) && decide (j ∈ sight pl (pl.length - 1))))) := by
    unfold lgB
    rw [hb] <;> rfl
  rw [el] at q
  refine ⟨_, rfl, a, xs, rfl, .inr ha.sq, ?_⟩
  refine ⟨_, rfl, b, _, rfl, hbs.sq, rfl, _, _, rfl, _, _, rfl, rfl, ?_⟩
  refine ⟨_, rfl, rfl, _, rfl, ite2 (fun z => ?_) (fun _ => ?_)⟩
  · have := V.int.inj (of_decide_eq_true z)
    omega
  refine ⟨_, rfl, _, rfl, _, _, rfl, rfl, .inl ⟨_, rfl, _, _, rfl, rfl, (by show (0 : Int) < 2; decide), rfl, _, rfl, ite2 (fun z => ?_) (fun z => ?_)⟩⟩
  · have h0 : (((xs.length : Nat) : Int) + (j : Int)) % 2 = 0 := V.int.inj (of_decide_eq_true z)
    exact q false _ (Same.refl _) (by rw [decide_eq_false (by omega), Bool.false_and])
  have hodd : (pl.length - j) % 2 = 1 := by
    have h0 : ¬ (((xs.length : Nat) : Int) + (j : Int)) % 2 = 0 := fun e => z (decide_eq_true (congrArg V.int e))
    omega
  rw [decide_eq_true hodd, Bool.true_and] at q
  have ep : pl[j]? = some pl[j] := List.getElem?_eq_getElem hj
  obtain ⟨x, hx, rx⟩ := play_at rxs ep
  obtain ⟨a2, m2, b2, rfl, ha2, rm2, rb2⟩ := step_inv rx
  cases hmj : pl[j].mv with
  | say u =>
    rw [hmj] at rm2
    obtain ⟨a3, rfl, ha3⟩ := say_inv rm2
    have ep' : pl[j]? = some ⟨.say u, pl[j].back⟩ := by rw [ep, ← hmj]
    have epl : plB kd pl j st.mv = false := by
      unfold plB
      rw [askPl_say ep']
    rw [epl] at q
    exact ⟨_, rfl, _, rfl, a, xs, _, _, rfl, rfl, ha.sq, atI_nat hx, a2, _, 0, _, rfl, rfl, ha2.sq, rfl, a3, _, 0, _, rfl, rfl, ha3.sq, rfl, rfl, _, rfl, iteT (q false _ (Same.refl _) rfl)⟩
  | ask r =>
    rw [hmj] at rm2
    obtain ⟨a3, y3, rfl, ha3, ry3⟩ := ask_inv rm2
    have ep' : pl[j]? = some ⟨.ask r, pl[j].back⟩ := by rw [ep, ← hmj]
    refine ⟨_, rfl, _, rfl, a, xs, _, _, rfl, rfl, ha.sq, atI_nat hx, a2, _, 0, _, rfl, rfl, ha2.sq, rfl, a3, _, 0, _, rfl, rfl, ha3.sq, rfl, rfl, _, rfl, iteF ?_⟩
    obtain ⟨rb3, rs3, rfl, hr3, rrs⟩ := Rep.inv (ts := r.map numD') ry3
    have er := rep_nats_inv rrs
    subst er
    have hword : ∃ c y, m = .ref c ∧ TupAt K H c [.str (match st.mv with | .ask _ => "ask" | .say _ => "say"), y] ∧ ∀ p, st.mv = .ask p → Rep K H y (plD p) := by
      cases hmv : st.mv with
      | ask p =>
        rw [hmv] at rm
        obtain ⟨c, y, rfl, hc, ry⟩ := ask_inv rm
        exact ⟨c, y, rfl, hc, fun p e => by injection e with e; rw [← e]; exact ry⟩
      | say u =>
        rw [hmv] at rm
        obtain ⟨c, rfl, hc⟩ := say_inv rm
        exact ⟨c, _, rfl, hc, fun p e => nomatch e⟩
    obtain ⟨c, y, rfl, hc, hy⟩ := hword
    refine nx_rest (fun σ' H' => Same H H' ∧ (∃ y6 y7, σ' = [some kv, some (.ref a), some (.ref b), some (.int ((xs.length : Nat) : Int)), some (.ref c), some (.int (j : Nat)), y6, y7]) ∧ plB kd pl j st.mv = true ∧ (match st.mv with
      | .ask _ => true
      | .say _ => decide ((opens pl pl.length).getLast? = some j)) = true) (fun rest => ?_) ?_
    · cases hmv : st.mv with
      | say u =>
        rw [hmv] at hc q
        have epl : plB kd pl j (.say u) = true := by
          unfold plB
          rw [askPl_of ep']
        rw [epl, Bool.true_and] at q
        refine ⟨_, rfl, c, _, 0, _, rfl, rfl, hc.sq, rfl, rfl, _, rfl, iteF ?_⟩
        refine ⟨_, rfl, .ref a, pl, rfl, rv, hL.lp.op, by omega, fun p H1 h1 => ?_⟩
        by_cases h0 : opens pl pl.length = []
        · have hl0 : H1 p = some (.lst (nats [])) := by rw [← h0]; exact h1.h
          refine ⟨_, rfl, p, _, rfl, .inl (SqL.of hl0), rfl, _, rfl, iteT (q false _ h1.s ?_)⟩
          rw [h0]
          rfl
        · refine ⟨_, rfl, p, _, rfl, .inl (SqL.of h1.h), rfl, _, rfl, ite2 (fun z => ?_) (fun z => ?_)⟩
          · have z' := V.int.inj (of_decide_eq_true z)
            have := List.length_pos_iff.mpr h0
            rw [nats_len] at z'
            omega
          · have hlast := last_of h0
            rw [← nats_len] at hlast
            refine ⟨_, rfl, _, rfl, p, _, rfl, .inl (SqL.of h1.h), _, _, rfl, rfl, p, _, _, _, rfl, rfl, SqL.of h1.h, hlast, _, rfl, rfl, _, rfl, ?_⟩
            rw [List.getLast?_eq_some_getLast h0] at q
            by_cases hjl : (opens pl pl.length).getLast h0 = j
            · rw [hjl]
              rw [show (!decide (V.int (j : Nat) = V.int (j : Nat))) = false by rw [decide_eq_true rfl]; rfl]
              refine iteF (rest _ _ ⟨h1.s, ⟨_, _, rfl⟩, by rw [hmv]; exact epl, ?_⟩)
              rw [hmv]
              show decide _ = true
              rw [List.getLast?_eq_some_getLast h0, hjl]
              exact decide_eq_true rfl
            · rw [show (!decide (V.int ((opens pl pl.length).getLast h0 : Nat) = V.int (j : Nat))) = true by rw [decide_eq_false (fun e => hjl (by have := V.int.inj e; omega))]; rfl]
              refine iteT (q false _ h1.s ?_)
              show (decide _ && _) = false
              rw [decide_eq_false (fun e => hjl (Option.some.inj e)), Bool.false_and]
      | ask p =>
        rw [hmv] at hc q
        have ry := hy p hmv
        obtain ⟨yb, ys, rfl, hyb, rys⟩ := Rep.inv (ts := p.map numD') ry
        have ey := rep_nats_inv rys
        subst ey
        have lpz := hsl p hmv
        refine ⟨_, rfl, c, _, 0, _, rfl, rfl, hc.sq, rfl, rfl, _, rfl, iteT ?_⟩
        refine ⟨_, rfl, _, rfl, a, xs, _, _, rfl, rfl, ha.sq, atI_nat hx, a2, _, 0, _, rfl, rfl, ha2.sq, rfl, a3, _, 1, _, rfl, rfl, ha3.sq, rfl, ?_⟩
        have epl : plB kd pl j (.ask p) = (decide (p ≠ []) && (decide (p.dropLast = r) && (atD kd p).isSome)) := by
          unfold plB
          rw [askPl_of ep']
        have lenl : p.length = r.length + 1 ∧ p.take r.length = r → p ≠ [] ∧ p.dropLast = r := fun ⟨e1, e2⟩ => by
          refine ⟨fun e => (by rw [e] at e1; cases e1), ?_⟩
          rw [List.dropLast_eq_take, e1]
          exact e2
        have lenr : p ≠ [] → p.dropLast = r → p.length = r.length + 1 ∧ p.take r.length = r := fun e1 e2 => by
          have h0 := List.length_pos_iff.mpr e1
          have e3 : r.length = p.length - 1 := by rw [← e2, List.length_dropLast]
          refine ⟨by omega, ?_⟩
          rw [e3, ← List.dropLast_eq_take]
          exact e2
        have no : ¬ (p.length = r.length + 1 ∧ p.take r.length = r) → plB kd pl j (.ask p) = false := fun n => by
          rw [epl]
          by_cases h1 : p ≠ []
          · by_cases h2 : p.dropLast = r
            · exact absurd (lenr h1 h2) n
            · rw [decide_eq_false h2, Bool.false_and, Bool.and_false]
          · rw [decide_eq_false h1, Bool.false_and]
        refine ⟨_, rfl, c, _, 1, _, rfl, rfl, hc.sq, rfl, yb, _, rfl, .inr hyb.sq, _, rfl, rb3, _, rfl, .inr hr3.sq, _, _, rfl, rfl, rfl, _, rfl, ite2 (fun z => ?_) (fun z => ?_)⟩
        · refine q false _ (Same.refl _) ?_
          rw [no (fun e => ?_), Bool.false_and]
          rw [nats_len, nats_len, e.1] at z
          simp at z
        have e1 : p.length = r.length + 1 := by
          rw [nats_len, nats_len] at z
          rcases Nat.lt_trichotomy p.length (r.length + 1) with h | h | h
          · exact absurd (by rw [decide_eq_false (fun e => by have := V.int.inj e; omega)]; rfl) z
          · exact h
          · exact absurd (by rw [decide_eq_false (fun e => by have := V.int.inj e; omega)]; rfl) z
        refine ⟨_, rfl, c, _, 1, _, rfl, rfl, hc.sq, rfl, _, rfl, rb3, _, rfl, .inr hr3.sq, _, rfl, yb, nats p, rfl, hyb, fun z1 H1 s1 hz1 => ?_⟩
        rw [cutV_to, nats_len] at hz1
        have et : (nats p).take r.length = nats (p.take r.length) := by
          unfold nats
          rw [List.map_take]
        rw [et] at hz1
        refine ⟨_, rfl, _, _, dp_noL (.tup hz1 (reps_nats _) : Rep K H1 (.ref z1) (plD (p.take r.length))) (noLd_nums _), dp_noL (ry3.mono (kx_same s1)) (noLd_nums _), shaped_pl _, shaped_pl _, _, rfl, ?_⟩
        rw [show PyData.eqv (toPy (D.tup ((p.take r.length).map numD'))) (toPy (plD r)) = decide (p.take r.length = r) from eqv_pl _ _]
        by_cases e2 : p.take r.length = r
        · rw [decide_eq_true e2]
          obtain ⟨n1, n2⟩ := lenl ⟨e1, e2⟩
          rw [decide_eq_true n1, decide_eq_true n2, Bool.true_and, Bool.true_and] at epl
          refine iteF ⟨_, rfl, _, rfl, c, _, 1, _, rfl, rfl, (hc.same s1).sq, rfl, kv, .ref yb, kd, p, rfl, rk.mono (kx_same s1), hk, hz, ry.mono (kx_same s1), fun zv hzv => ?_⟩
          cases hat : atD kd p with
          | none =>
            rw [hat] at hzv epl
            have ez : zv = .non := hzv
            subst ez
            rw [epl] at q
            exact ⟨rfl, _, rfl, iteT (q false _ s1 rfl)⟩
          | some e =>
            rw [hat] at hzv epl
            obtain ⟨rz, kz⟩ := hzv
            obtain ⟨ts, rfl, _⟩ := isK_inv kz
            obtain ⟨a4, x4, rfl, _⟩ := rz.inv
            exact ⟨rfl, _, rfl, iteF (rest _ _ ⟨s1, ⟨_, _, rfl⟩, by rw [hmv]; exact epl, by rw [hmv]⟩)⟩
        · rw [decide_eq_false e2]
          exact iteT (q false _ s1 (by rw [no (fun e => e2 e.2), Bool.false_and]))
    · rintro σ H1 ⟨s1, ⟨y6, y7, rfl⟩, hpl, hm⟩
      rw [hpl, hm, Bool.true_and, Bool.true_and] at q
      have fin : ∀ (p : Addr) (H2 : Hp), Nw p H1 H2 (nats (sight pl (pl.length - 1))) → ∃ p' xs', V.ref p = .ref p' ∧ (SqL K H2 p' xs' ∨ SqT K H2 p' xs') ∧ flatV (.int (j : Nat)) = true ∧ xs'.all flatV = true ∧ Q (.bl (if false = true then !inV (.int (j : Nat)) xs' else inV (.int (j : Nat)) xs')) H2 := fun p H2 h2 => by
        refine ⟨p, _, rfl, .inl (SqL.of h2.h), rfl, flat_nats _, ?_⟩
        show Q (.bl (inV (.int (j : Nat)) (nats (sight pl (pl.length - 1))))) H2
        rw [inV_iff]
        exact q _ H2 (s1.trans h2.s) rfl
      refine ⟨_, rfl, .inl ⟨_, rfl, _, _, rfl, rfl, (by show (0 : Int) < 2; decide), rfl, _, rfl, ite2 (fun z => ?_) (fun z => ?_)⟩⟩
      · have h0 : (((xs.length : Nat) : Int)) % 2 = 1 := V.int.inj (of_decide_eq_true z)
        exact ⟨_, rfl, _, rfl, .ref a, pl, rfl, rv.mono (kx_same s1), hL.lp.wb, hL.par, by omega, hp, by omega, by omega, fin⟩
      · have h0 : ¬ (((xs.length : Nat) : Int)) % 2 = 1 := fun e => z (decide_eq_true (congrArg V.int e))
        exact ⟨_, rfl, _, rfl, .ref a, pl, rfl, rv.mono (kx_same s1), hL.lp.wb, hL.par, by omega, hp, by omega, by omega, fin⟩
end
end Pk

set_option maxRecDepth 100000
set_option maxHeartbeats 4000000
set_option pp.maxSteps 600
namespace Pk
open PySem PySem.Spec PyProof.Rows L2
/-! ### _law_after -/
def movs (kd : D) (pl : List Stp) (j : Nat) : List Mv := [.say 0, .say 1] ++ (match askPl pl j with
  | some p => (List.range (kids kd p)).map fun k => .ask (p ++ [k])
  | none => [])
def cand (kd : D) (pl : List Stp) (j : Nat) : List Stp := ((movs kd pl j).map fun m => (⟨m, some j⟩ : Stp)).filter (lgB kd pl (opens pl pl.length))
def fnd (kd : D) (pl : List Stp) (n : Nat) : List Stp := (List.range n).flatMap (cand kd pl)
theorem fnd_succ (kd : D) (pl : List Stp) (n : Nat) : fnd kd pl (n + 1) = fnd kd pl n ++ cand kd pl n := by
  unfold fnd
  rw [List.range_succ, List.flatMap_append]
  show _ ++ (cand kd pl n ++ []) = _
  rw [List.append_nil]
theorem mem_movs {kd : D} {pl : List Stp} {j : Nat} {m : Mv} : m ∈ movs kd pl j ↔ (∃ u, u ≤ 1 ∧ m = .say u) ∨ ∃ p k, askPl pl j = some p ∧ k < kids kd p ∧ m = .ask (p ++ [k]) := by
  unfold movs
  rw [List.mem_append]
  refine or_congr ?_ ?_
  · simp only [List.mem_cons, List.not_mem_nil, or_false]
    constructor
    · rintro (rfl | rfl)
      · exact ⟨0, by omega, rfl⟩
      · exact ⟨1, by omega, rfl⟩
    · rintro ⟨u, h, rfl⟩
      have : u = 0 ∨ u = 1 := by omega
      rcases this with rfl | rfl
      · exact .inl rfl
      · exact .inr rfl
  · cases h : askPl pl j with
    | none => simp
    | some p =>
      simp only [List.mem_map, List.mem_range]
      constructor
      · rintro ⟨k, hk, e⟩
        exact ⟨p, k, rfl, hk, e.symm⟩
      · rintro ⟨q, k, e, hk, rfl⟩
        cases e
        exact ⟨k, hk, rfl⟩
theorem movs_nodup (kd : D) (pl : List Stp) (j : Nat) : (movs kd pl j).Nodup := by
  unfold movs
  refine List.nodup_append.mpr ⟨by simp, ?_, ?_⟩
  · cases h : askPl pl j with
    | none => exact List.nodup_nil
    | some p =>
      refine List.Pairwise.map _ (fun a b hab e => ?_) (List.nodup_range (n := kids kd p))
      injection e with e
      exact hab (List.cons.inj (List.append_cancel_left e)).1
  · intro a ha b hb e
    subst e
    cases h : askPl pl j with
    | none =>
      rw [h] at hb
      cases hb
    | some p =>
      rw [h] at hb
      obtain ⟨k, _, rfl⟩ := List.mem_map.mp hb
      simp at ha
theorem cand_back {kd : D} {pl : List Stp} {j : Nat} {s : Stp} (h : s ∈ cand kd pl j) : s.back = some j := by
  obtain ⟨h1, _⟩ := List.mem_filter.mp h
  obtain ⟨m, _, rfl⟩ := List.mem_map.mp h1
  rfl
theorem fnd_nodup (kd : D) (pl : List Stp) (n : Nat) : (fnd kd pl n).Nodup := by
  refine flat_nodup List.nodup_range (fun j => ?_) (fun j s h => cand_back h)
  refine List.Pairwise.filter _ (List.Pairwise.map _ (fun a b hab e => ?_) (movs_nodup kd pl j))
  injection e with e
  exact hab e
theorem mem_fnd {kd : D} (hk : isK kd = true) {pl : List Stp} (h : LW kd pl) (hne : pl ≠ []) {s : Stp} : s ∈ fnd kd pl pl.length ↔ s ∈ rows kd pl := by
  have hp : 0 < pl.length := List.length_pos_iff.mpr hne
  rw [mem_rows hk]
  unfold fnd cand
  rw [List.mem_flatMap]
  constructor
  · rintro ⟨j, hj, hs⟩
    obtain ⟨h1, h2⟩ := List.mem_filter.mp hs
    obtain ⟨m, hm, rfl⟩ := List.mem_map.mp h1
    refine ⟨h2, fun u e => ?_⟩
    have e' : m = .say u := e
    subst e'
    rcases mem_movs.mp hm with ⟨v, hv, e⟩ | ⟨p, k, _, _, e⟩
    · injection e with e
      omega
    · cases e
  · rintro ⟨h1, h2⟩
    have hj : ∀ j ∈ sight pl (pl.length - 1), j < pl.length := fun j m => by
      have := (sight_up h.lp.wb (pl.length - 1) (by omega)).2 j m
      omega
    obtain ⟨mv, b⟩ := s
    cases mv with
    | ask p =>
      obtain ⟨j, q, k, rfl, _, hq, hk2, rfl, hm⟩ := (lg_ask hk).mp h1
      exact ⟨j, List.mem_range.mpr (hj j hm), List.mem_filter.mpr ⟨List.mem_map.mpr ⟨_, mem_movs.mpr (.inr ⟨q, k, hq, hk2, rfl⟩), rfl⟩, h1⟩⟩
    | say v =>
      obtain ⟨j, q, rfl, _, hq, _, hm⟩ := lg_say.mp h1
      exact ⟨j, List.mem_range.mpr (hj j hm), List.mem_filter.mpr ⟨List.mem_map.mpr ⟨_, mem_movs.mpr (.inl ⟨v, h2 v rfl, rfl⟩), rfl⟩, h1⟩⟩
theorem sight_nodup {pl : List Stp} (h : WB pl) {n : Nat} (hn : n < pl.length) : (sight pl n).Nodup := (sight_up h n hn).1.imp fun hab e => by omega
theorem fnd_sort {kd : D} (hk : isK kd = true) {pl : List Stp} (h : LW kd pl) (hne : pl ≠ []) : sortE tokS (fnd kd pl pl.length) = lawR kd pl := by
  have hp : 0 < pl.length := List.length_pos_iff.mpr hne
  unfold lawR
  rw [if_neg hne]
  have hn := rows_nodup kd (sight_nodup h.lp.wb (show pl.length - 1 < pl.length by omega))
  have hok : ∀ s ∈ fnd kd pl pl.length, okS s := fun s m => rows_ok hk ((mem_fnd hk h hne).mp m)
  exact sortE_eq ((List.perm_ext_iff_of_nodup (fnd_nodup kd pl _) hn).mpr fun s => mem_fnd hk h hne) fun b hb c hc e => tokS_inj (hok b hb) (hok c hc) e
theorem kids_le {kd : D} (hk : isK kd = true) (p : List Nat) : kids kd p ≤ sz kd := by
  unfold kids
  split
  · next ts e =>
    have := (atD_kind p kd _ hk e).2
    have h2 := len_szs ts
    have : szs ts + 1 ≤ sz kd := this
    omega
  · exact Nat.zero_le _
theorem atD_len : ∀ (p : List Nat) (d e : D), atD d p = some e → p.length ≤ sz d
  | [], _, _, _ => Nat.zero_le _
  | k :: p, d, e, h => by
    obtain ⟨us, u, rfl, hu, h'⟩ := atD_cons h
    have := atD_len p u e h'
    have := sz_mem (List.mem_of_getElem? hu)
    show p.length + 1 ≤ szs us + 1
    omega
theorem movs_len {kd : D} (hk : isK kd = true) (pl : List Stp) (j : Nat) : (movs kd pl j).length ≤ 2 + sz kd := by
  unfold movs
  rw [List.length_append]
  have : (match askPl pl j with
  | some p => (List.range (kids kd p)).map fun k => Mv.ask (p ++ [k])
  | none => []).length ≤ sz kd := by
    split
    · rw [List.length_map, List.length_range]
      exact kids_le hk _
    · exact Nat.zero_le _
  show 2 + _ ≤ _
  omega
section
variable {P : Program} {w : World} {K : PySem.W.Frag} {mg : Str → Option Value} {base : Heap}
def LsAt (K : PySem.W.Frag) (H : Hp) (l : Addr) (ss : List Stp) : Prop := ∃ xs, H l = some (.lst xs) ∧ Reps K H xs (ss.map stD)
def spAf (K : PySem.W.Frag) : Sp := fun vs H Q _ => ∃ (kv v : V) (kd : D) (pl : List Stp), vs = [kv, v] ∧ Rep K H kv kd ∧ isK kd = true ∧ sz kd ≤ 60 ∧ Rep K H v (playD pl) ∧ LW kd pl ∧
  ∀ (l : Addr) (H' : Hp), Same H H' → H l = none → LsAt K H' l (lawR kd pl) → Q (.ref l) H'
def MsAt (K : PySem.W.Frag) (H : Hp) (l : Addr) (ms : List Mv) : Prop := ∃ xs, H l = some (.lst xs) ∧ Reps K H xs (ms.map mvD)
theorem ok_laf {f f0 f1 f2 f3 f4 : Addr} {fd d0 d1 d2 d3 d4 : FuncData} (D__law_after : Df K mg "_law_after" s__law_after ["kind", "play"] f fd) (D__law_goes_on : Df K mg "_law_goes_on" s__law_goes_on ["kind", "play", "step"] f0 d0) (D__law_sight : Df K mg "_law_sight" s__law_sight ["play"] f1 d1) (D__law_asker_sight : Df K mg "_law_asker_sight" s__law_asker_sight ["play"] f2 d2)
    (D__law_open : Df K mg "_law_open" s__law_open ["play"] f3 d3) (D__law_at : Df K mg "_law_at" s__law_at ["kind", "place"] f4 d4) (B : Bt mg) : FnOk P w K mg base CX0 43 f fd ["kind", "play"] (spAf K) := by
  have G__law_goes_on : FnOk P w K mg base CX0 42 f0 d0 ["kind", "play", "step"] (spGo K) := ok_lgo D__law_goes_on D__law_sight D__law_asker_sight D__law_open D__law_at B
  have G__law_at : FnOk P w K mg base CX0 1 f4 d4 ["kind", "place"] (spAtO K) := ok_latO D__law_at B
  refine D__law_after.ok c__law_after (fun vs H Q E h => ?_) (fun cdv A outer s0 H vs Q E hr h => ?_)
  · obtain ⟨kv, v, kd, pl, rfl, _⟩ := h
    rfl
  obtain ⟨kv, v, kd, pl, rfl, rk, hk, hz, rv, hL, q⟩ := h
  have nd := c__law_after.nd
  refine ⟨_, (pss_cons (ps_if (pt_cmpR op_eq (pe_callB call_len_seq (by rfl) B.b_len PySem.boot_len (pa_cons (pv 1) pa_nil)) pe_int (nomark _)) (pss_one (ps_ret (pe_lst (pa_cons (pe_tup (pa_cons (pe_tup (pa_cons pe_str (pa_cons (pe_tup pa_nil) pa_nil))) (pa_cons pe_non pa_nil))) pa_nil)))) pss_nil)
  (pss_cons (ps_set (i := 2) nd rfl (Or.inl rfl) (pe_lst pa_nil))
  (pss_cons (ps_for PassesOwn.never rfl (pi_range1 (by rfl) B.b_range (pa_cons (pe_callB call_len_seq (by rfl) B.b_len PySem.boot_len (pa_cons (pv 1) pa_nil)) pa_nil)) (pg_name (i := 3) nd rfl (Or.inr rfl)) (pss_cons (ps_set (i := 4) nd rfl (Or.inl rfl) (pe_lst (pa_cons (pe_tup (pa_cons pe_str (pa_cons pe_int pa_nil))) (pa_cons (pe_tup (pa_cons pe_str (pa_cons pe_int pa_nil))) pa_nil))))
  (pss_cons (ps_if (pt_cmpR op_eq (pe_ix ix_tup (pe_ix ix_tup (pe_ix ix_tup (pv 1) (pv 3) (fun _ _ => rfl)) pe_int (fun _ _ => rfl)) pe_int (fun _ _ => rfl)) pe_str (nomark _)) (pss_cons (ps_set (i := 5) nd rfl (Or.inr rfl) (pe_ix ix_tup (pe_ix ix_tup (pe_ix ix_tup (pv 1) (pv 3) (fun _ _ => rfl)) pe_int (fun _ _ => rfl)) pe_int (fun _ _ => rfl)))
  (pss_one (ps_set (i := 4) nd rfl (Or.inl rfl) (pe_op op_cat (pv 4) (pe_lc (own := [("k", 7)]) (g := (gName 7)) (tt := tYes) rfl nd (pi_range1 (by rfl) B.b_range (pa_cons (pe_callB call_len_seq (by rfl) B.b_len PySem.boot_len (pa_cons (pe_call G__law_at (hr.mono (by first | decide | omega)) (by rfl) D__law_at.m D__law_at.kp D__law_at.b .nil pass0 (pa_cons (pv 0) (pa_cons (pv 5) pa_nil))) pa_nil)) pa_nil)) (blkOk_by (own := [("k", 7)]) (N := ["kind", "play", "found", "back", "moves", "place", "move", "k"]) (sc := defScope s__law_after) (by decide +kernel)) (fun _ _ _ _ _ => (pg_name (i := 7) nd rfl (Or.inl rfl))) (fun _ _ _ _ _ => pts_nil) (fun _ _ _ _ _ => (pe_tup (pa_cons pe_str (pa_cons (pe_op (show OpR _ (binaryOp .Add) (rCatP K) from op_catP) (pv 5) (pe_tup (pa_cons (pv 7) pa_nil))) pa_nil))))))))) pss_nil)
  (pss_one (ps_set (i := 2) nd rfl (Or.inl rfl) (pe_op op_cat (pv 2) (pe_lc (own := [("move", 6)]) (g := (gName 6)) (tt := _) rfl nd (pi_list (pv 4)) (blkOk_by (own := [("move", 6)]) (N := ["kind", "play", "found", "back", "moves", "place", "move", "k"]) (sc := defScope s__law_after) (by decide +kernel)) (fun _ _ _ _ _ => (pg_name (i := 6) nd rfl (Or.inl rfl))) (fun _ _ _ _ _ => (pts_one (pt_val (pe_call G__law_goes_on (hr.mono (by first | decide | omega)) (by rfl) D__law_goes_on.m D__law_goes_on.kp D__law_goes_on.b .nil pass0 (pa_cons (pv 0) (pa_cons (pv 1) (pa_cons (pe_tup (pa_cons (pv 6) (pa_cons (pv 3) pa_nil))) pa_nil))))))) (fun _ _ _ _ _ => (pe_tup (pa_cons (pv 6) (pa_cons (pv 3) pa_nil)))))))))))
  (pss_one (ps_ret (pe_callB (cr_sortE hr.units encS) (by rfl) B.b_sorted (by decide +kernel) (pa_cons (pv 2) pa_nil))))))), ?_⟩
  obtain ⟨a, xs, rfl, ha, rxs, lx⟩ := play_inv rv
  have hlen := hL.lp.len
  refine ⟨_, rfl, a, xs, rfl, .inr ha.sq, rfl, _, rfl, ite2 (fun z => ?_) (fun z => ?_)⟩
  · have z' := V.int.inj (of_decide_eq_true z)
    have e0 : pl = [] := List.eq_nil_of_length_eq_zero (by omega)
    subst e0
    rw [lawR_nil] at q
    refine ⟨(by show 0 ≤ sizeLine; decide), fun t1 n1 => ⟨(by show 2 ≤ sizeLine; decide), fun t2 n2 => ⟨(by show 2 ≤ sizeLine; decide), fun t3 n3 => ⟨(by show 1 ≤ sizeLine; decide), fun l nl => ?_⟩⟩⟩⟩
    have u4 := same_new nl (.lst [.ref t3])
    have u3 := (same_new n3 (.tup [.ref t2, .non])).trans u4
    have u2 := (same_new n2 (.tup [.str "ask", .ref t1])).trans u3
    have u1 := (same_new n1 (.tup [])).trans u2
    refine q l _ u1 (new_none ((same_new n1 _).trans ((same_new n2 _).trans (same_new n3 _))) nl) ⟨_, upd_same, .one (.tup' (u4 _ _ upd_same) (.cons (.tup' (u3 _ _ upd_same) (.cons (.at rfl) (.one (.tup' (u2 _ _ upd_same) .nil)))) (.one (.at rfl))))⟩
  have hne : pl ≠ [] := fun e => z (decide_eq_true (by rw [e] at lx; rw [show xs.length = 0 from lx]; rfl))
  have hp : 0 < pl.length := List.length_pos_iff.mpr hne
  refine ⟨(by show 0 ≤ sizeLine; decide), fun l0 nl0 => ?_⟩
  refine ⟨_, rfl, a, xs, rfl, .inr (ha.same (same_new nl0 _)).sq, _, rfl, by omega, by omega, ?_⟩
  refine for_range (n := ((xs.length : Nat) : Int).toNat) (fun i σ H' => ∃ (l : Addr) (y3 y4 y5 y6 y7 : Option V), σ = [some kv, some (.ref a), some (.ref l), y3, y4, y5, y6, y7] ∧ Same H H' ∧ H l = none ∧ (∃ ys, H' l = some (.lst ys) ∧ Reps K H' ys ((fnd kd pl i).map stD) ∧ ys.length ≤ 62 * i))
    ⟨l0, none, none, none, none, none, rfl, same_new nl0 _, nl0, [], upd_same, .nil, Nat.zero_le _⟩ ?_ ?_
  · rintro i σ H1 hi ⟨l, y3, y4, y5, y6, y7, rfl, s1, nl, ys, hl, rys, lys⟩
    have hip : i < pl.length := by omega
    have ez : (0 : Int) + (i : Nat) = ((i : Nat) : Int) := Int.zero_add _
    have ep : pl[i]? = some pl[i] := List.getElem?_eq_getElem hip
    obtain ⟨x, hx, rx⟩ := play_at rxs ep
    obtain ⟨a2, m2, b2, rfl, ha2, rm2, rb2⟩ := step_inv rx
    have hx' := atI_nat hx
    rw [← ez] at hx'
    refine ⟨(by show 2 ≤ sizeLine; decide), fun t1 n1 => ⟨(by show 2 ≤ sizeLine; decide), fun t2 n2 => ⟨(by show 2 ≤ sizeLine; decide), fun l1 nl1 => ?_⟩⟩⟩
    have u3 := same_new nl1 (.lst [.ref t1, .ref t2])
    have u2 := (same_new n2 (.tup [.str "say", .int 1])).trans u3
    have u1 := (same_new n1 (.tup [.str "say", .int 0])).trans u2
    have rm0 : Reps K (upd (upd (upd H1 t1 (.tup [.str "say", .int 0])) t2 (.tup [.str "say", .int 1])) l1 (.lst [.ref t1, .ref t2])) [V.ref t1, .ref t2] ([Mv.say 0, .say 1].map mvD) := .cons (.tup' (u2 _ _ upd_same) (.cons (.at rfl) (.one (.at rfl)))) (.one (.tup' (u3 _ _ upd_same) (.cons (.at rfl) (.one (.at rfl)))))
    have hl1 : (upd (upd (upd H1 t1 (.tup [.str "say", .int 0])) t2 (.tup [.str "say", .int 1])) l1 (.lst [.ref t1, .ref t2])) l1 = some (.lst [.ref t1, .ref t2]) := upd_same
    have s2 := s1.trans u1
    have hl2 := u1 _ _ hl
    have rys2 := rys.mono (kx_same u1)
    generalize upd (upd (upd H1 t1 (.tup [.str "say", .int 0])) t2 (.tup [.str "say", .int 1])) l1 (.lst [.ref t1, .ref t2]) = H2 at *
    refine nx_rest (fun σ' H' => ∃ (lm : Addr) (y5 y6 y7 : Option V), σ' = [some kv, some (.ref a), some (.ref l), some (.int ((0 : Int) + (i : Nat))), some (.ref lm), y5, y6, y7] ∧ Same H2 H' ∧ MsAt K H' lm (movs kd pl i)) (fun rest => ?_) ?_
    · cases hmv : pl[i].mv with
      | say u =>
        rw [hmv] at rm2
        obtain ⟨a3, rfl, ha3⟩ := say_inv rm2
        refine ⟨_, rfl, _, rfl, a, xs, _, _, rfl, rfl, (ha.same s2).sq, hx', a2, _, 0, _, rfl, rfl, (ha2.same s2).sq, rfl, a3, _, 0, _, rfl, rfl, (ha3.same s2).sq, rfl, rfl, _, rfl, iteF (rest _ _ ⟨l1, _, _, _, rfl, Same.refl _, [.ref t1, .ref t2], hl1, ?_⟩)⟩
        unfold movs
        rw [askPl_say (v := u) (b := pl[i].back) (by rw [ep, ← hmv])]
        exact rm0
      | ask p =>
        rw [hmv] at rm2
        obtain ⟨a3, y3', rfl, ha3, ry3⟩ := ask_inv rm2
        have eap : askPl pl i = some p := askPl_of (b := pl[i].back) (by rw [ep, ← hmv])
        obtain ⟨e, he⟩ := hL.lp.pa i p pl[i].back (by rw [ep, ← hmv])
        obtain ⟨ke, ze⟩ := atD_kind p kd e hk he
        obtain ⟨ts, rfl, hts⟩ := isK_inv ke
        have ek : kids kd p = ts.length := by
          unfold kids
          rw [he]
        have hpl := atD_len p kd _ he
        have hkl := kids_le hk p
        rw [ek] at hkl
        have em : movs kd pl i = [.say 0, .say 1] ++ (List.range ts.length).map fun k => .ask (p ++ [k]) := by
          unfold movs
          rw [eap, ← ek]
        rw [em] at rest
        refine ⟨_, rfl, _, rfl, a, xs, _, _, rfl, rfl, (ha.same s2).sq, hx', a2, _, 0, _, rfl, rfl, (ha2.same s2).sq, rfl, a3, _, 0, _, rfl, rfl, (ha3.same s2).sq, rfl, rfl, _, rfl, iteT ?_⟩
        refine ⟨_, rfl, _, rfl, a, xs, _, _, rfl, rfl, (ha.same s2).sq, hx', a2, _, 0, _, rfl, rfl, (ha2.same s2).sq, rfl, a3, _, 1, _, rfl, rfl, (ha3.same s2).sq, rfl, ?_⟩
        refine ⟨_, rfl, _, rfl, _, rfl, kv, y3', kd, p, rfl, rk.mono (kx_same s2), hk, by omega, ry3.mono (kx_same s2), fun zv hzv => ?_⟩
        rw [he] at hzv
        obtain ⟨rz, _⟩ := hzv
        obtain ⟨a4, x4, rfl, ha4, rx4⟩ := rz.inv
        have l4 := rx4.length
        obtain ⟨qa, qx, rfl, hqa, rqx⟩ := Rep.inv (ts := p.map numD') ry3
        have eqx := rep_nats_inv rqx
        subst eqx
        refine ⟨a4, x4, rfl, .inr ha4.sq, _, rfl, by omega, by omega, fun d hd => ?_⟩
        refine lc_range (n := x4.length) (fun k H' => Same H2 H' ∧ ∃ acc, H' d = some (.lst acc) ∧ Reps K H' acc (((List.range k).map fun k => Mv.ask (p ++ [k])).map mvD) ∧ acc.length ≤ k) ⟨same_new hd _, [], upd_same, .nil, Nat.le_refl _⟩ ?_ ?_
        · rintro k H3 hk3 ⟨s3, acc, hd3, rcs, hcl⟩
          have ez3 : (0 : Int) + (k : Nat) = ((k : Nat) : Int) := Int.zero_add _
          refine ⟨rfl, yes_go ⟨_, rfl, _, rfl, (by show 1 ≤ sizeLine; decide), fun w1 m1 => ?_⟩⟩
          have v1 := same_new m1 (.tup [.int ((0 : Int) + (k : Nat))])
          refine ⟨qa, w1, nats p, _, rfl, rfl, ((hqa.same s2).same s3).same v1, .inl upd_same, small6' (by rw [nats_len]; show p.length + 1 ≤ 1000000; omega), fun cc H4 s4 hcc => ⟨(by show 2 ≤ sizeLine; decide), fun w2 m2 => ?_⟩⟩
          have v2 := same_new m2 (.tup [.str "ask", .ref cc])
          have s35 := v1.trans (s4.trans v2)
          have hd5 := s35 _ _ hd3
          have kl := kx_list hd5 (acc ++ [.ref w2])
          refine ⟨acc, hd5, small6 (by omega), fun o x e => ?_, acc ++ [.ref w2], upd_same, ?_, by rw [List.length_append, List.length_singleton]; omega⟩
          · rw [upd_ne (ne_of_none e hd)]
            exact s35 _ _ (s3 _ _ e)
          · rw [List.range_succ, List.map_append, List.map_append]
            refine (rcs.mono ((kx_same s35).trans kl)).append (.one (.tup (xs := [.str "ask", .ref cc]) (.inl (kl.t _ _ upd_same)) (.cons (.at rfl) (.one (.tup (xs := nats p ++ [.int ((0 : Int) + (k : Nat))]) ((hcc.same v2).kx kl) ?_)))))
            rw [ez3, nats_snoc]
            exact reps_nats _
        · rintro H3 ⟨s3, acc, hd3, rcs, hcl⟩
          rw [l4] at rcs hcl
          refine ⟨l1, d, _, _, rfl, rfl, s3 _ _ hl1, hd3, small6' (by show 2 + _ ≤ 1000000; omega), fun p3 np3 => ?_⟩
          have w6 := same_new np3 (.lst ([.ref t1, .ref t2] ++ acc))
          refine rest _ _ ⟨p3, _, _, _, rfl, s3.trans w6, [.ref t1, .ref t2] ++ acc, upd_same, ?_⟩
          rw [List.map_append]
          exact (rm0.mono (kx_same (s3.trans w6))).append (rcs.mono (kx_same w6))
    · rintro σ H3 ⟨lm, y5, y6, y7, rfl, s3, zs, hlm, rzs⟩
      have lzs := rzs.length
      rw [List.length_map] at lzs
      have hml := movs_len hk pl i
      refine ⟨_, rfl, _, rfl, lm, rfl, ⟨_, SqL.of hlm⟩, fun d nd' => ?_⟩
      have s23 := s2.trans s3
      refine lc_list (xs := zs) (fun k H' => Same H3 H' ∧ ∃ acc, H' d = some (.lst acc) ∧ acc.length ≤ k ∧ Reps K H' acc (((((movs kd pl i).take k).map fun m => (⟨m, some i⟩ : Stp)).filter (lgB kd pl (opens pl pl.length))).map stD)) ⟨same_new nd' _, [], upd_same, Nat.le_refl _, .nil⟩ (fun k H' _ h => SqL.of (h.1 _ _ hlm)) ?_ ?_
      · rintro k y H4 hk4 ⟨s4, acc, hd4, lacc, racc⟩
        obtain ⟨dd, hdd, rdd⟩ := rzs.get hk4
        rw [List.getElem?_map] at hdd
        obtain ⟨m, hm, rfl⟩ := Option.map_eq_some_iff.mp hdd
        have hkl := (List.getElem?_eq_some_iff.mp hm).1
        have etk : (((movs kd pl i).take (k + 1)).map fun m => (⟨m, some i⟩ : Stp)).filter (lgB kd pl (opens pl pl.length)) = (((movs kd pl i).take k).map fun m => (⟨m, some i⟩ : Stp)).filter (lgB kd pl (opens pl pl.length)) ++ [(⟨m, some i⟩ : Stp)].filter (lgB kd pl (opens pl pl.length)) := by
          rw [List.take_add_one, hm, List.map_append, List.filter_append]
          rfl
        have hmm := List.mem_of_getElem? hm
        refine ⟨rfl, _, rfl, _, rfl, _, rfl, _, rfl, (by show 2 ≤ sizeLine; decide), fun t nt => ?_⟩
        have v1 := same_new nt (.tup [y, .int ((0 : Int) + (i : Nat))])
        have s34 := s23.trans (s4.trans v1)
        have rst : Rep K _ (.ref t) (stD ⟨m, some i⟩) := .tup' upd_same (.cons (rdd.mono (kx_same (s4.trans v1))) (.one (by rw [ez]; exact .at rfl)))
        refine ⟨kv, .ref a, .ref t, kd, pl, ⟨m, some i⟩, i, rfl, rk.mono (kx_same s34), hk, by omega, rv.mono (kx_same s34), hL, hne, rst, rfl, hip, fun p e => ?_, fun b H5 s5 hb => ?_⟩
        · have e' : m = .ask p := e
          subst e'
          rcases mem_movs.mp hmm with ⟨u, _, e⟩ | ⟨q', k', hq, _, e⟩
          · cases e
          · injection e with e
            obtain ⟨bb, hbb⟩ := askPl_some hq
            obtain ⟨e2, he2⟩ := hL.lp.pa i q' bb hbb
            have := atD_len q' kd _ he2
            rw [e, List.length_append, List.length_singleton]
            omega
        · have hd5 := (v1.trans s5) _ _ hd4
          cases b with
          | false =>
            refine ⟨_, rfl, iteF ⟨(s4.trans v1).trans s5, acc, hd5, by omega, ?_⟩⟩
            rw [etk, List.filter_cons_of_neg (by rw [hb]; decide), List.filter_nil, List.append_nil]
            exact racc.mono (kx_same (v1.trans s5))
          | true =>
            refine ⟨_, rfl, iteT ⟨_, rfl, _, rfl, (by show 2 ≤ sizeLine; decide), fun t6 nt6 => ?_⟩⟩
            have v6 := same_new nt6 (.tup [y, .int ((0 : Int) + (i : Nat))])
            have s46 := v1.trans (s5.trans v6)
            have hd6 := s46 _ _ hd4
            have kl := kx_list hd6 (acc ++ [.ref t6])
            refine ⟨acc, hd6, small6 (by omega), fun o x e => ?_, acc ++ [.ref t6], upd_same, by rw [List.length_append, List.length_singleton]; omega, ?_⟩
            · rw [upd_ne (ne_of_none e nd')]
              exact s46 _ _ (s4 _ _ e)
            · rw [etk, List.filter_cons_of_pos hb, List.filter_nil, List.map_append]
              refine (racc.mono ((kx_same s46).trans kl)).append (.one (.tup' (kl.t _ _ upd_same) (.cons (rdd.mono ((kx_same (s4.trans s46)).trans kl)) (.one (by rw [ez]; exact .at rfl)))))
      · rintro H4 ⟨s4, acc, hd4, lacc, racc⟩
        rw [lzs, List.take_length] at racc
        rw [lzs] at lacc
        have hl4 := (s3.trans s4) _ _ hl2
        refine ⟨l, d, _, _, rfl, rfl, hl4, hd4, small6' (by omega), fun p3 np3 => ?_⟩
        have w6 := same_new np3 (.lst (ys ++ acc))
        have nn : H p3 = none := new_none (s23.trans s4) np3
        refine ⟨p3, _, _, _, _, _, rfl, (s23.trans s4).trans w6, nn, ys ++ acc, upd_same, ?_, by rw [List.length_append]; omega⟩
        rw [fnd_succ, List.map_append]
        exact (rys2.mono (kx_same (s3.trans (s4.trans w6)))).append (racc.mono (kx_same w6))
  · rintro σ H1 ⟨l, y3, y4, y5, y6, y7, rfl, s1, nl, ys, hl, rys, lys⟩
    have elx : ((xs.length : Nat) : Int).toNat = pl.length := by omega
    rw [elx] at rys lys
    refine ⟨_, rfl, l, ys, fnd kd pl pl.length, rfl, SqL.of hl, rys, fun s hs => rows_ok hk ((mem_fnd hk hL hne).mp hs), fun zs p rzs np => ?_⟩
    rw [fnd_sort hk hL hne] at rzs
    have w6 := same_new np (.lst zs)
    exact q p _ (s1.trans w6) (new_none s1 np) ⟨zs, upd_same, rzs.mono (kx_same w6)⟩
end
end Pk

set_option maxRecDepth 100000
set_option maxHeartbeats 4000000
set_option pp.maxSteps 600
namespace Pk
open PySem PySem.Spec PyProof.Rows L2
/-! ### _law_reply, _law_play -/
section
variable {P : Program} {w : World} {K : PySem.W.Frag} {mg : Str → Option Value} {base : Heap}
def RpAt (K : PySem.W.Frag) (H : Hp) (o : Option Stp) (z : V) : Prop := match o with
  | some s => Rep K H z (stD s)
  | none => z = .non
theorem RpAt.mono {K : PySem.W.Frag} {H H' : Hp} (k : Kx H H') {o : Option Stp} {z : V} (h : RpAt K H o z) : RpAt K H' o z := by
  cases o with
  | none => exact h
  | some s => exact Rep.mono k h
def Legs (rows : List Row) (pl : List Stp) : Prop := ∀ x, lkR rows (apart pl (sgl pl)) = some x → ∃ (c j : Nat), x.back = some c ∧ (sgl pl)[c]? = some j
theorem legs_of {kd : D} {t : T} (hw : wfP [] kd t = true) {pl : List Stp} (h : LW kd pl) (ho : pl.length % 2 = 1) : Legs (rowsT t) pl := fun x hx => by
  obtain ⟨c, p, b, e1, e2, e3, e4⟩ := rowsT_leg hw _ (lkR_mem hx)
  have up := sight_up h.lp.wb (pl.length - 1) (by omega)
  obtain ⟨j, b', hc, ej⟩ := apart_at (fun n hn => by have := up.2 n hn; omega) e3
  exact ⟨c, j, e1, hc⟩
def spRp (P : Program) (w : World) (K : PySem.W.Frag) : Sp := fun vs H Q _ => ∃ (d : Addr) (v : V) (kd : D) (rows : List Row) (pl : List Stp), vs = [.ref d, v] ∧ DR P w K H d rows ∧ Rep K H v (playD pl) ∧ LW kd pl ∧ pl.length % 2 = 1 ∧ Legs rows pl ∧
  ∀ z H', Same H H' → RpAt K H' (repl rows pl) z → Q z H'
theorem ok_lrp {f f1 f2 : Addr} {fd d1 d2 : FuncData} (D__law_reply : Df K mg "_law_reply" s__law_reply ["rows", "play"] f fd) (D__law_sight : Df K mg "_law_sight" s__law_sight ["play"] f1 d1) (D__law_alone : Df K mg "_law_alone" s__law_alone ["play", "numbers"] f2 d2) (B : Bt mg) :
    FnOk P w K mg base CX0 42 f fd ["rows", "play"] (spRp P w K) := by
  have G__law_sight : FnOk P w K mg base CX0 41 f1 d1 ["play"] (spSg K 1 41) := ok_sg D__law_sight B 41
  have G__law_alone : FnOk P w K mg base CX0 1 f2 d2 ["play", "numbers"] (spLAl K) := ok_lal D__law_alone B
  refine D__law_reply.ok c__law_reply (fun vs H Q E h => ?_) (fun cdv A outer s0 H vs Q E hr h => ?_)
  · obtain ⟨d, v, kd, rows, pl, rfl, _⟩ := h
    rfl
  obtain ⟨d, v, kd, rows, pl, rfl, hD, rv, hL, hodd, hleg, q⟩ := h
  have nd := c__law_reply.nd
  refine ⟨_, (pss_cons (ps_set (i := 2) nd rfl (Or.inl rfl) (pe_call G__law_sight (hr.mono (by first | decide | omega)) (by rfl) D__law_sight.m D__law_sight.kp D__law_sight.b .nil pass0 (pa_cons (pv 1) pa_nil)))
  (pss_cons (ps_set (i := 3) nd rfl (Or.inl rfl) (show PE _ _ (tDkGet1 P w K _ _) from pe_dkGet1 hr.units (pv 0) (pe_call G__law_alone (hr.mono (by first | decide | omega)) (by rfl) D__law_alone.m D__law_alone.kp D__law_alone.b .nil pass0 (pa_cons (pv 1) (pa_cons (pv 2) pa_nil))) ⟨rfl, rfl, rfl, rfl⟩))
  (pss_cons (ps_if (pt_cmpR op_isN (pv 3) pe_non (nomark _)) (pss_one (ps_ret pe_non)) pss_nil)
  (pss_one (ps_ret (pe_tup (pa_cons (pe_ix ix_tup (pv 3) pe_int (fun _ _ => rfl)) (pa_cons (pe_ix ix_list (pv 2) (pe_ix ix_tup (pv 3) pe_int (fun _ _ => rfl)) (fun _ _ => rfl)) pa_nil)))))))), ?_⟩
  have hlen := hL.lp.len
  have hp : 0 < pl.length := by omega
  refine ⟨_, rfl, v, pl, rfl, rv, hL.lp.wb, hL.par, hodd, hp, by omega, by omega, fun b H1 h1 => ?_⟩
  have s1 := h1.s
  have hsl := sight_len hL.lp.wb (pl.length - 1) (by omega)
  obtain ⟨xs, hx, px⟩ := hD.same s1
  refine ⟨_, rfl, d, xs, rfl, ⟨.inl hx, entR_keys px⟩, _, rfl, _, rfl, v, b, pl, sight pl (pl.length - 1), rfl, rv.mono (kx_same s1), h1.h, hL.lp.wb, sight_cl hL.lp.wb hL.lp.ws _ (by omega), by omega, fun z H2 s2 rz => ?_⟩
  have hx2 := s2 _ _ hx
  have px2 := entR_mono (kx_same s2) px
  obtain ⟨kb, ks, rfl, hkb, _, _⟩ := play_inv rz
  refine ⟨kb, xs, kyP (apart pl (sight pl (pl.length - 1))), rfl, ⟨.inl hx2, entR_keys px2⟩, keyP rz, ?_⟩
  have s12 := s1.trans s2
  rcases entR_at px2 (apart pl (sight pl (pl.length - 1))) with ⟨g1, g2⟩ | ⟨x, vx, g1, g2, g3⟩
  · have er : repl rows pl = none := by
      unfold repl sgl
      rw [g1]
      rfl
    rw [er] at q
    rw [g2]
    exact ⟨_, rfl, rfl, _, rfl, iteT (q _ _ s12 rfl)⟩
  · obtain ⟨c, j, e1, e2⟩ := hleg x g1
    have er : repl rows pl = some ⟨x.mv, some j⟩ := by
      unfold repl
      have g1' : lkR rows (apart pl (sgl pl)) = some x := g1
      rw [g1']
      show some (Stp.mk x.mv (x.back.map fun c => (sgl pl).getD c 0)) = _
      rw [e1]
      show some (Stp.mk x.mv (some ((sgl pl).getD c 0))) = _
      rw [List.getD_eq_getElem?_getD, e2]
      rfl
    rw [er] at q
    rw [g2]
    obtain ⟨a2, m2, b2, rfl, ha2, rm2, rb2⟩ := step_inv g3
    rw [e1] at rb2
    obtain ⟨rfl, _⟩ := Rep.inva (w := V.int (c : Nat)) rb2
    have hb2 := s2 _ _ h1.h
    refine ⟨_, rfl, rfl, _, rfl, iteF ?_⟩
    refine ⟨_, rfl, a2, _, 0, _, rfl, rfl, ha2.sq, rfl, _, rfl, _, rfl, a2, _, 1, _, rfl, rfl, ha2.sq, rfl, b, _, _, _, rfl, rfl, SqL.of hb2, atI_nat (nats_get e2), (by show 2 ≤ sizeLine; decide), fun t nt => ?_⟩
    have s3 := same_new nt (.tup [m2, .int (j : Nat)])
    exact q _ _ (s12.trans s3) (.tup' upd_same (.cons (rm2.mono (kx_same s3)) (.one (.at rfl))))
theorem DR.sbx {H H' : Hp} {d b : Addr} {rows : List Row} (h : DR P w K H d rows) {xs : List V} (hb : H b = some (.lst xs)) (s : SB b H H') (k : Kx H H') : DR P w K H' d rows := by
  obtain ⟨ys, hy, py⟩ := h
  refine ⟨ys, s _ _ (fun e => ?_) hy, entR_mono k py⟩
  subst e
  rw [hb] at hy
  cases hy
def spPlay (P : Program) (w : World) (K : PySem.W.Frag) : Sp := fun vs H Q _ => ∃ (b c d : Addr) (kv : V) (kd : D) (t : T) (free : Int) (mo : Nat), vs = [.ref b, kv, .ref d, .int (mo : Nat), .int free] ∧ mo ≤ 39 ∧ BoxAt H b c ∧ Rep K H kv kd ∧ isK kd = true ∧ sz kd ≤ 60 ∧ DR P w K H d (rowsT t) ∧ wfP [] kd t = true ∧
  ∀ (z : V) (pl : List Stp) (H' : Hp), Rep K H' z (playD pl) → LW kd pl → pl.length ≤ mo → BoxAt H' b c → SB b H H' → Q z H'
theorem ok_lpl {f f0 f1 f2 f3 f4 f5 f6 f7 f8 : Addr} {fd d0 d1 d2 d3 d4 d5 d6 d7 d8 : FuncData} (D__law_play : Df K mg "_law_play" s__law_play ["box", "kind", "rows", "most", "free"] f fd) (D__law_goes_on : Df K mg "_law_goes_on" s__law_goes_on ["kind", "play", "step"] f0 d0) (D__law_sight : Df K mg "_law_sight" s__law_sight ["play"] f1 d1) (D__law_asker_sight : Df K mg "_law_asker_sight" s__law_asker_sight ["play"] f2 d2)
    (D__law_open : Df K mg "_law_open" s__law_open ["play"] f3 d3) (D__law_at : Df K mg "_law_at" s__law_at ["kind", "place"] f4 d4) (D__law_after : Df K mg "_law_after" s__law_after ["kind", "play"] f5 d5) (D__law_reply : Df K mg "_law_reply" s__law_reply ["rows", "play"] f6 d6) (D__law_alone : Df K mg "_law_alone" s__law_alone ["play", "numbers"] f7 d7)
    (D__law_draw : Df K mg "_law_draw" s__law_draw ["box", "many"] f8 d8) (B : Bt mg) : FnOk P w K mg base CX0 44 f fd ["box", "kind", "rows", "most", "free"] (spPlay P w K) := by
  have G__law_after : FnOk P w K mg base CX0 43 f5 d5 ["kind", "play"] (spAf K) := ok_laf D__law_after D__law_goes_on D__law_sight D__law_asker_sight D__law_open D__law_at B
  have G__law_reply : FnOk P w K mg base CX0 42 f6 d6 ["rows", "play"] (spRp P w K) := ok_lrp D__law_reply D__law_sight D__law_alone B
  have G__law_draw : FnOk P w K mg base CX0 1 f8 d8 ["box", "many"] spDraw := ok_draw D__law_draw B
  refine D__law_play.ok c__law_play (fun vs H Q E h => ?_) (fun cdv A outer s0 H vs Q E hr h => ?_)
  · obtain ⟨b, c, d, kv, kd, t, free, mo, rfl, _⟩ := h
    rfl
  obtain ⟨b, c, d, kv, kd, t, free, mo, rfl, hmo, hB, rk, hk, hz, hD, hw, q⟩ := h
  have nd := c__law_play.nd
  refine ⟨_, (pss_cons (ps_set (i := 5) nd rfl (Or.inl rfl) (pe_tup pa_nil))
  (pss_cons (ps_for PassesOwn.never rfl (pi_range1 (by rfl) B.b_range (pa_cons (pv 3) pa_nil)) (pg_name (i := 6) nd rfl (Or.inl rfl)) (pss_cons (ps_set (i := 7) nd rfl (Or.inl rfl) (pe_call G__law_after (hr.mono (by first | decide | omega)) (by rfl) D__law_after.m D__law_after.kp D__law_after.b .nil pass0 (pa_cons (pv 1) (pa_cons (pv 5) pa_nil))))
  (pss_cons (ps_if (pt_cmpR op_eq (pe_callB call_len_seq (by rfl) B.b_len PySem.boot_len (pa_cons (pv 7) pa_nil)) pe_int (nomark _)) (pss_one (ps_ret (pv 5))) pss_nil)
  (pss_cons (ps_set (i := 8) nd rfl (Or.inl rfl) (pe_ix ix_list (pv 7) (pe_op op_mod (pe_callTy call_int1 (by rfl) B.b_int (by decide +kernel) (pa_cons (pe_call G__law_draw (hr.mono (by first | decide | omega)) (by rfl) D__law_draw.m D__law_draw.kp D__law_draw.b .nil pass0 (pa_cons (pv 0) (pa_cons pe_int pa_nil))) pa_nil)) (pe_callB call_len_seq (by rfl) B.b_len PySem.boot_len (pa_cons (pv 7) pa_nil))) (fun _ _ => rfl)))
  (pss_cons (ps_if (PW.pt (pw_and (pt_cmpR op_eq (pe_op op_mod (pe_callTy call_int1 (by rfl) B.b_int (by decide +kernel) (pa_cons (pe_callB call_len_seq (by rfl) B.b_len PySem.boot_len (pa_cons (pv 5) pa_nil)) pa_nil)) pe_int) pe_int (nomark _)) (pw_and1 (pt_cmpR op_ge (pe_call G__law_draw (hr.mono (by first | decide | omega)) (by rfl) D__law_draw.m D__law_draw.kp D__law_draw.b .nil pass0 (pa_cons (pv 0) (pa_cons pe_int pa_nil))) (pv 4) (nomark _))))) (pss_cons (ps_set (i := 8) nd rfl (Or.inl rfl) (pe_call G__law_reply (hr.mono (by first | decide | omega)) (by rfl) D__law_reply.m D__law_reply.kp D__law_reply.b .nil pass0 (pa_cons (pv 2) (pa_cons (pv 5) pa_nil))))
  (pss_one (ps_if (pt_cmpR op_isN (pv 8) pe_non (nomark _)) (pss_one (ps_ret (pv 5))) pss_nil))) pss_nil)
  (pss_one (ps_set (i := 5) nd rfl (Or.inl rfl) (pe_op op_catP (pv 5) (pe_tup (pa_cons (pv 8) pa_nil))))))))))
  (pss_one (ps_ret (pv 5))))), ?_⟩
  refine ⟨(by show 0 ≤ sizeLine; decide), fun p0 np0 => ?_⟩
  have s0' := same_new np0 (.tup [])
  refine ⟨_, rfl, _, rfl, by omega, by omega, for_range (n := ((mo : Nat) : Int).toNat) (fun i σ H' => ∃ (pv : V) (pl : List Stp) (y6 y7 y8 : Option V), σ = [some (.ref b), some kv, some (.ref d), some (.int (mo : Nat)), some (.int free), some pv, y6, y7, y8] ∧ Rep K H' pv (playD pl) ∧ LW kd pl ∧ pl.length ≤ i ∧ BoxAt H' b c ∧ SB b H H')
    ⟨.ref p0, [], none, none, none, rfl, .tup' upd_same .nil, LW.nil kd, Nat.zero_le _, hB.same s0', sb_same s0'⟩ ?_ ?_⟩
  · rintro i σ H1 hi ⟨pv', pl, y6, y7, y8, rfl, rv, hL, hli, hB1, sb1⟩
    have k1 := box_kx hB hB1 sb1
    have rk1 := rk.mono k1
    obtain ⟨bs1, hbs1⟩ := hB1.lst
    obtain ⟨bs, hbs⟩ := hB.lst
    refine ⟨_, rfl, _, rfl, kv, pv', kd, pl, rfl, rk1, hk, hz, rv, hL, fun l H2 s2 nl hls => ?_⟩
    obtain ⟨zs, hl2, rzs⟩ := hls
    have lzs := rzs.length
    have hB2 := hB1.same s2
    refine ⟨_, rfl, l, zs, rfl, .inl (SqL.of hl2), rfl, _, rfl, ite2 (fun z => ?_) (fun z => ?_)⟩
    · exact ⟨_, rfl, q _ pl _ (rv.mono (kx_same s2)) hL (by omega) hB2 (sb1.trans (sb_same s2))⟩
    · have hpos : (0 : Int) < ((zs.length : Nat) : Int) := by
        rcases Nat.eq_zero_or_pos zs.length with e | e
        · exact absurd (decide_eq_true (by rw [e]; rfl)) z
        · omega
      refine ⟨_, rfl, _, rfl, b, c, 1000, rfl, hB2, by decide, fun r4 H4 r40 r41 hB4 sb4 => .inl ⟨_, rfl, ?_⟩⟩
      have nlb : l ≠ b := (ne_of_none hbs1 nl).symm
      have hl4 := sb4 _ _ nlb hl2
      have k24 := box_kx hB2 hB4 sb4
      have rzs4 := rzs.mono k24
      obtain ⟨tv, te, ti, hat1, hte, rte⟩ := pickP rzs4 (r := r4 % ((zs.length : Nat) : Int)) (Int.emod_nonneg _ (by omega)) (Int.emod_lt_of_pos _ hpos)
      rw [List.getElem?_map] at hte
      obtain ⟨s, hs, rfl⟩ := Option.map_eq_some_iff.mp hte
      have hnx := nxw_of hk hL (List.mem_of_getElem? hs : NxR kd pl s)
      have sb14 : SB b H1 H4 := (sb_same s2).trans sb4
      have k14 := (kx_same s2).trans k24
      refine ⟨_, rfl, l, zs, rfl, .inl (SqL.of hl4), _, _, rfl, rfl, hpos, l, zs, _, _, rfl, rfl, SqL.of hl4, hat1, ?_⟩
      have rv4 := rv.mono k14
      obtain ⟨pa, ps, rfl, hpa, rps, lps⟩ := play_inv rv4
      refine nx_rest (fun σ' H' => ∃ (x' : V) (s' : Stp), σ' = [some (.ref b), some kv, some (.ref d), some (.int (mo : Nat)), some (.int free), some (.ref pa), some (.int ((0 : Int) + (i : Nat))), some (.ref l), some x'] ∧ SB b H4 H' ∧ BoxAt H' b c ∧ Rep K H' x' (stD s') ∧ NxW kd pl s') (fun rest => ?_) ?_
      · refine ⟨_, rfl, pa, ps, rfl, .inr hpa.sq, .inl ⟨_, rfl, _, _, rfl, rfl, (by show (0 : Int) < 2; decide), rfl, _, rfl, ite2 (fun z1 => ?_) (fun z1 => ?_)⟩⟩
        · have hodd : pl.length % 2 = 1 := by
            have h0 : ((ps.length : Nat) : Int) % 2 = 1 := V.int.inj (of_decide_eq_true z1)
            omega
          refine ⟨_, rfl, b, c, 4, rfl, hB4, by decide, fun r5 H5 r50 r51 hB5 sb5 => ⟨_, rfl, _, _, rfl, rfl, _, rfl, ite2 (fun z2 => ?_) (fun z2 => ?_)⟩⟩
          · have k45 := box_kx hB4 hB5 sb5
            have sb05 := (sb1.trans sb14).trans sb5
            have hD5 := hD.sbx hbs sb05 (box_kx hB hB5 sb05)
            refine ⟨_, rfl, _, rfl, d, .ref pa, kd, rowsT t, pl, rfl, hD5, rv4.mono k45, hL, hodd, legs_of hw hL hodd, fun z H6 s6 hz6 => ?_⟩
            cases hr6 : repl (rowsT t) pl with
            | none =>
              rw [hr6] at hz6
              have ez : z = .non := hz6
              subst ez
              exact ⟨_, rfl, rfl, _, rfl, iteT ⟨_, rfl, q _ pl _ ((rv4.mono k45).mono (kx_same s6)) hL (by omega) (hB5.same s6) (sb05.trans (sb_same s6))⟩⟩
            | some s' =>
              rw [hr6] at hz6
              have rz : Rep K H6 z (stD s') := hz6
              have hnx' := (repl_legal hw hL hodd hr6).1
              obtain ⟨a6, m6, b6, rfl, ha6, _, _⟩ := step_inv rz
              exact ⟨_, rfl, rfl, _, rfl, iteF (rest _ _ ⟨_, s', rfl, sb5.trans (sb_same s6), hB5.same s6, rz, hnx'⟩)⟩
          · exact rest _ _ ⟨tv, s, rfl, sb5, hB5, rte.mono (box_kx hB4 hB5 sb5), hnx⟩
        · exact rest _ _ ⟨tv, s, rfl, SB.refl _ _, hB4, rte, hnx⟩
      · rintro σ H5 ⟨x', s', rfl, sb5, hB5, rx', hnx'⟩
        have k45 := box_kx hB4 hB5 sb5
        obtain ⟨a6, m6, b6, rfl, ha6, _, _⟩ := step_inv rx'
        refine ⟨_, rfl, _, rfl, (by show 1 ≤ sizeLine; decide), fun t1 n1 => ?_⟩
        have v1 := same_new n1 (.tup [.ref a6])
        have hpa5 := hpa.kx k45
        refine ⟨pa, t1, ps, _, rfl, rfl, (hpa5.same v1), .inl upd_same, small6' (by show ps.length + 1 ≤ 1000000; omega), fun cc H6 s6 hcc => ?_⟩
        have s56 := v1.trans s6
        refine ⟨.ref cc, pl ++ [s'], _, _, _, rfl, snoc_rep (q := a6) (r := a6) rps (k45.trans (kx_same s56)) hcc (rx'.mono (kx_same s56)), hL.snoc hnx' (by omega), by rw [List.length_append, List.length_singleton]; omega, hB5.same s56, ((sb1.trans sb14).trans sb5).trans (sb_same s56)⟩
  · rintro σ H1 ⟨pv', pl, y6, y7, y8, rfl, rv, hL, hli, hB1, sb1⟩
    exact ⟨_, rfl, q _ pl _ rv hL (by omega) hB1 sb1⟩
end
end Pk

set_option maxRecDepth 100000
set_option maxHeartbeats 4000000
set_option pp.maxSteps 600
namespace Pk
open PySem PySem.Spec PyProof.Rows L2
/-! ### d < e, of data that compare -/
section
variable {X : Cx}
def rLtD (K : PySem.W.Frag) : R2 := fun x y H Q => ∃ d e : D, Rep K H x d ∧ Rep K H y e ∧ noLd d = true ∧ noLd e = true ∧ cpb (toPy d) (toPy e) = true ∧ toPy d ≠ .none ∧ dep d ≤ 60 ∧ Q (.bl (dlt (toPy d) (toPy e))) H
theorem op_ltD (hu : X.A.units + 64 < cLine) : OpR X (compareOp .Lt) (rLtD X.K) := by
  intro pins s σ H x y v u Q I rx ry h
  obtain ⟨d, e, hd, he, nd, ne, hc, hn, hp, q⟩ := h
  obtain ⟨as, r1⟩ := Dp.reads I _ x v (dp_noL hd nd) rx
  obtain ⟨bs, r2⟩ := Dp.reads I _ y u (dp_noL he ne) ry
  have := depth_noL d
  have m := Nat.min_le_left (toPy d).depth (toPy e).depth
  have z : wpAny (model X.prog X.w) X.A (compareOp .Lt v u) (EP X pins σ Q) X.xe s := rcLt_cpb _ _ X.A s v u as bs r1 r2 (plain_noL d nd) (plain_noL e ne) hc hn (by omega) X.prog X.w X.xe _ ⟨.bl _, H, I, rfl, q⟩
  exact z
end
theorem dlt_LX {d e : D} (h1 : noLd d = true) (h2 : noLd e = true) (hc : cpb (toPy d) (toPy e) = true) : dlt (toPy d) (toPy e) = LX (tkD d) (tkD e) := by
  have z := tk_lex d e h1 h2 hc [] []
  rw [List.append_nil, List.append_nil] at z
  refine Eq.trans ?_ z.symm
  cases q : PyData.eqv (toPy d) (toPy e) with
  | true =>
    rw [if_pos rfl, dlt_eqv _ _ q hc]
    rfl
  | false => rw [if_neg Bool.false_ne_true]
/-- sights: the beginning, then steps with a back -/
def WkS (s : List Stp) : Prop := ∃ r, s = BEG :: r ∧ ∀ x ∈ r, x.back ≠ none
theorem cpb_wk {s t : List Stp} (hs : WkS s) (ht : WkS t) : cpb (toPy (playD s)) (toPy (playD t)) = true := by
  obtain ⟨r, rfl, h1⟩ := hs
  obtain ⟨u, rfl, h2⟩ := ht
  show cpbs (toPy (stD BEG) :: toPys (r.map stD)) (toPy (stD BEG) :: toPys (u.map stD)) = true
  rw [cpbs, cpb_beg, cpbs_sts r u h1 h2, Bool.or_true]
  rfl
abbrev ltP (s t : List Stp) : Bool := LX (tkD (playD s)) (tkD (playD t))
theorem dlt_wk {s t : List Stp} (hs : WkS s) (ht : WkS t) : dlt (toPy (playD s)) (toPy (playD t)) = ltP s t := dlt_LX (noLd_play s) (noLd_play t) (cpb_wk hs ht)
theorem eqv_wk {s t : List Stp} (hs : WkS s) (ht : WkS t) : PyData.eqv (toPy (playD s)) (toPy (playD t)) = decide (s = t) := by
  cases q : PyData.eqv (toPy (playD s)) (toPy (playD t)) with
  | true => exact (decide_eq_true (play_inj (eqv_toPy _ _ (noLd_play _) (noLd_play _) q (cpb_wk hs ht)))).symm
  | false =>
    refine (decide_eq_false fun e => ?_).symm
    subst e
    have z : PyData.eqv (toPy (playD s)) (toPy (playD s)) = true := by
      exact SeqAt.eqv_refl_plain _ (plain_noL _ (noLd_play s))
    rw [z] at q
    cases q
/-! ### the rows in order, by their sights -/
theorem ltP_irr (s : List Stp) : ltP s s = false := (listOrd itemOrd).irrefl _
theorem ltP_trans {s t u : List Stp} (h1 : ltP s t = true) (h2 : ltP t u = true) : ltP s u = true := (listOrd itemOrd).trans _ _ _ h1 h2
theorem ltP_tot {s t : List Stp} (hs : OkS s) (ht : OkS t) (h1 : ltP s t = false) (h2 : ltP t s = false) : s = t := tkP_inj hs ht ((listOrd itemOrd).total _ _ h1 h2)
theorem sorted_rows {rows : List Row} (hn : (keysR rows).Nodup) (hk : ∀ r ∈ rows, OkR r) {i j : Nat} {r t : Row} (hi : (sortR rows)[i]? = some r) (hj : (sortR rows)[j]? = some t) (hij : i < j) : ltP r.1 t.1 = true := by
  have T := PySem.W.sortLe_total (listOrd itemOrd) false (fun r : Row => tkD (rowD r))
  have tot : ∀ a b : Row, (PySem.W.sortLe (listOrd itemOrd) false (fun r : Row => tkD (rowD r)) a b || PySem.W.sortLe (listOrd itemOrd) false (fun r : Row => tkD (rowD r)) b a) = true := fun a b => by
    rw [Bool.or_eq_true]
    exact T.total a b
  have p1 := List.pairwise_mergeSort T.trans tot rows
  have li := (List.getElem?_eq_some_iff.mp hi)
  have lj := (List.getElem?_eq_some_iff.mp hj)
  obtain ⟨l1, e1⟩ := li
  obtain ⟨l2, e2⟩ := lj
  have h := List.pairwise_iff_getElem.mp p1 i j l1 l2 hij
  have h' : (!LX (tkD (rowD ((sortR rows)[j]))) (tkD (rowD ((sortR rows)[i])))) = true := h
  rw [e1, e2, Bool.not_eq_true'] at h'
  have mi : r ∈ rows := (sortE_perm _ rows).mem_iff.mp (List.mem_of_getElem? hi)
  have mj : t ∈ rows := (sortE_perm _ rows).mem_iff.mp (List.mem_of_getElem? hj)
  rw [LX_rows (hk t mj) (hk r mi) (fun e => key_one hn mj mi e)] at h'
  cases q : ltP r.1 t.1 with
  | true => rfl
  | false =>
    have e := ltP_tot (hk r mi).1 (hk t mj).1 q h'
    have er := key_one hn mi mj e
    have hnd : (keysR (sortR rows)).Nodup := ((sortE_perm (fun r : Row => tkD (rowD r)) rows).map Prod.fst).nodup_iff.mpr hn
    have hi' : (keysR (sortR rows))[i]? = some r.1 := by rw [List.getElem?_map, hi]; rfl
    have hj' : (keysR (sortR rows))[j]? = some r.1 := by rw [List.getElem?_map, hj, er]; rfl
    have := (List.getElem?_inj (List.getElem?_eq_some_iff.mp hi').1 hnd).mp (hi'.trans hj'.symm)
    omega
section
variable {P : Program} {w : World} {K : PySem.W.Frag} {mg : Str → Option Value} {base : Heap}
/-! ### _sight_behind -/
def spSB (K : PySem.W.Frag) : Sp := fun vs H Q _ => ∃ (v : V) (pl : List Stp), vs = [v] ∧ Rep K H v (playD pl) ∧ WB pl ∧ 0 < pl.length ∧ pl.length ≤ 500 ∧ ∀ z H', Same H H' → Rep K H' z (plD (sight pl (pl.length - 1))) → Q z H'
/-- the sight as far as it is not yet found -/
def rest (pl : List Stp) (n : Int) : List Nat := if n < 0 then [] else sight pl n.toNat
theorem rest_step {pl : List Stp} (h : WB pl) {n : Nat} (h0 : 0 < n) (hn : n < pl.length) : sight pl n = rest pl ((bk pl n : Int) - 1) ++ [bk pl n, n] := by
  unfold rest
  by_cases hb : bk pl n = 0
  · rw [sight_one h0 hb, hb, if_pos (by decide)]
    rfl
  · rw [sight_more h h0 hn hb, if_neg (by omega)]
    rw [show ((bk pl n : Int) - 1).toNat = bk pl n - 1 by omega]
theorem nats_rev (ns : List Nat) : (nats ns).reverse = nats ns.reverse := by
  unfold nats
  rw [List.map_reverse]/-! ### alone -/
def spAl (K : PySem.W.Frag) : Sp := fun vs H Q _ => ∃ (v x : V) (pl : List Stp) (ns : List Nat), vs = [v, x] ∧ Rep K H v (playD pl) ∧ Rep K H x (plD ns) ∧ WB pl ∧ Cl pl ns ∧ ns.Pairwise (· < ·) ∧ ns.length ≤ 500 ∧ ∀ z H', Same H H' → Rep K H' z (playD (apart pl ns)) → Q z H'
theorem at_one1 {xs : List V} {v : V} (h : xs[1]? = some v) : atI xs (1 : Int) = some v := atI_nat (j := 1) h
def keyN (n : Nat) : Option L2.Key := some (Sum.inl ((n : Nat) : Int))
theorem keyN_inj {m n : Nat} (h : keyN m = keyN n) : m = n := by
  have := Sum.inl.inj (Option.some.inj h)
  omega
/-- what the dict answers behind the first i numbers -/
structure Anew (ns : List Nat) (i : Nat) (g : Option L2.Key → Option V) : Prop where
  non : g none = some .non
  has : ∀ k n, k < i → ns[k]? = some n → g (keyN n) = some (.int (k : Nat))
theorem Anew.put {ns : List Nat} {i n : Nat} {g : Option L2.Key → Option V} (h : Anew ns i g) (up : ns.Pairwise (· < ·)) (e : ns[i]? = some n) : Anew ns (i + 1) (putN g (keyN n) (.int (i : Nat))) := by
  refine ⟨?_, fun k m hk hm => ?_⟩
  · unfold putN
    rw [if_neg (fun z => by cases z)]
    exact h.non
  · unfold putN
    by_cases hki : k = i
    · subst hki
      rw [e] at hm
      rw [Option.some.inj hm, if_pos rfl]
    · have hlt : k < i := by omega
      have hne : keyN m ≠ keyN n := fun z => by
        have z' := keyN_inj z
        obtain ⟨a1, a2⟩ := List.getElem?_eq_some_iff.mp e
        obtain ⟨b1, b2⟩ := List.getElem?_eq_some_iff.mp hm
        have := List.pairwise_iff_getElem.mp up k i b1 a1 hlt
        omega
      rw [if_neg hne]
      exact h.has k m hlt hm
theorem idx_up {ns : List Nat} (up : ns.Pairwise (· < ·)) {j : Nat} (h : j ∈ ns) : ns[ns.idxOf j]? = some j ∧ ns.idxOf j < ns.length := by
  have hl := List.idxOf_lt_length_of_mem h
  refine ⟨?_, hl⟩
  rw [List.getElem?_eq_getElem hl, List.getElem_idxOf hl]
theorem ok_al {f : Addr} {fd : FuncData} (D_alone : Df K mg "alone" s_alone ["play", "numbers"] f fd) (B : Bt mg) : FnOk P w K mg base CX0 1 f fd ["play", "numbers"] (spAl K) := by
  refine D_alone.ok c_alone (fun vs H Q E h => ?_) (fun cdv A outer s H vs Q E hr h => ?_)
  · obtain ⟨v, x, pl, ns, rfl, _⟩ := h
    rfl
  obtain ⟨v, x, pl, ns, rfl, rv, rx, hwb, hcl, up, hlen, q⟩ := h
  have nd := c_alone.nd
  refine ⟨_, (pss_cons (ps_set (i := 2) nd rfl (Or.inr rfl) pe_nkNew)
  (pss_cons (ps_for PassesOwn.never rfl (pi_enumT (by rfl) B.b_enumerate (pa_cons (pv 1) pa_nil)) (pg_tup rfl (pgs_cons (pg_name (i := 3) nd rfl (Or.inl rfl)) (pgs_cons (pg_name (i := 4) nd rfl (Or.inl rfl)) pgs_nil))) (pss_one (ps_nkPut (pv 2) (pv 4) (pv 3) rfl)))
  (pss_one (ps_ret (pe_callTy call_tuple_of (by rfl) B.b_tuple (by decide +kernel) (pa_cons (pe_lc (own := [("number", 4)]) (g := (gName 4)) (tt := tYes) rfl nd (pi_tup (pv 1)) (blkOk_by (own := [("number", 4)]) (N := ["play", "numbers", "anew", "at", "number"]) (sc := defScope s_alone) (by decide +kernel)) (fun _ _ _ _ _ => (pg_name (i := 4) nd rfl (Or.inl rfl))) (fun _ _ _ _ _ => pts_nil) (fun _ _ _ _ _ => (pe_tup (pa_cons (pe_ix (show IxR _ (rIxT K) from ix_tup) (pe_ix (show IxR _ (rIxT K) from ix_tup) (pv 0) (pv 4) (fun _ _ => rfl)) pe_int (fun _ _ => rfl)) (pa_cons (show PE _ _ (tNkGet P w _ _) from pe_nkGet (pv 2) (pe_ix (show IxR _ (rIxT K) from ix_tup) (pe_ix (show IxR _ (rIxT K) from ix_tup) (pv 0) (pv 4) (fun _ _ => rfl)) pe_int (fun _ _ => rfl)) (fun _ _ => rfl)) pa_nil))))) pa_nil)))))), ?_⟩
  obtain ⟨a, xs, rfl, ha, rxs, lx⟩ := play_inv rv
  obtain ⟨b, zs, rfl, hb, rzs⟩ := Rep.inv (ts := ns.map numD') rx
  have ezs := rep_nats_inv rzs
  subst ezs
  refine fun d hd => ?_
  have s0 := same_new hd (NkO P w d (putN (fun _ => none) none .non) 1)
  refine ⟨_, rfl, b, _, rfl, (hb.same s0).sq, for_it walk_enumT (fun i σ H' => (∃ g n, H' d = some (NkO P w d g n) ∧ n ≤ i + 1 ∧ Anew ns i g) ∧ Same H H' ∧ ∃ (y3 y4 : Option V), σ = [some (.ref a), some (.ref b), some (.ref d), y3, y4])
    ⟨⟨_, 1, upd_same, Nat.le_refl _, ⟨rfl, fun k n hk _ => absurd hk (Nat.not_lt_zero k)⟩⟩, s0, none, none, rfl⟩ (fun i σ H' _ h => (hb.same h.2.1).sq) ?_ ?_⟩
  · rintro i x σ H1 H1' hi ⟨⟨g, n, hdn, hn, hA⟩, s1, y3, y4, rfl⟩ ⟨T, x1, y1, rfl, nT, rfl, hx1, hy1⟩
    have hx2 : V.int (i : Nat) = x1 := Option.some.inj hx1
    subst hx2
    rw [nats_len] at hi
    have hy2 : (nats ns)[i]? = some y1 := hy1
    have e1 : ns[i]? = some ns[i] := List.getElem?_eq_getElem hi
    have hy3 : y1 = V.int (ns[i] : Nat) := by
      unfold nats at hy2
      rw [List.getElem?_map, e1] at hy2
      exact (Option.some.inj hy2).symm
    subst hy3
    have sT := same_new nT (.tup [.int (i : Nat), .int (ns[i] : Nat)])
    refine ⟨T, _, rfl, SqT.of upd_same, rfl, _, _, rfl, _, _, rfl, rfl, ?_⟩
    have hd2 := sT _ _ hdn
    refine ⟨_, rfl, _, rfl, _, rfl, d, g, n, keyN ns[i], rfl, rfl, hd2, by omega, ⟨_, _, upd_same, by omega, hA.put up e1⟩, fun z o e => ?_, _, _, rfl⟩
    rw [upd_ne (ne_of_none e hd)]
    exact sT _ _ (s1 _ _ e)
  · rintro σ H1 ⟨⟨g, n, hdn, hn, hA⟩, s1, y3, y4, rfl⟩
    rw [nats_len] at hn hA
    refine ⟨_, rfl, b, rfl, ⟨_, (hb.same s1).sq⟩, fun l nl => ?_⟩
    refine lc_tup (K := K) (a := b) (xs := nats ns) (fun i H' => Same H1 H' ∧ ∃ acc, H' l = some (.lst acc) ∧ acc.length ≤ i ∧ Reps K H' acc (((ns.take i).map (apS pl ns)).map stD))
      ⟨same_new nl _, [], upd_same, Nat.le_refl _, .nil⟩ (fun i H' _ h => (hb.same (s1.trans h.1)).sq) ?_ ?_
    · rintro i x H3 hi ⟨s3, acc, hl3, lacc, racc⟩
      have hil : i < ns.length := by
        have := (List.getElem?_eq_some_iff.mp hi).1
        rw [nats_len] at this
        exact this
      have e1 : ns[i]? = some ns[i] := List.getElem?_eq_getElem hil
      have hx3 : x = V.int (ns[i] : Nat) := by
        unfold nats at hi
        rw [List.getElem?_map, e1] at hi
        exact (Option.some.inj hi).symm
      subst hx3
      obtain ⟨c1, c2⟩ := hcl ns[i] (List.getElem_mem hil)
      have hpl : pl[ns[i]]? = some pl[ns[i]] := List.getElem?_eq_getElem c1
      obtain ⟨y, hy, ry⟩ := play_at rxs hpl
      obtain ⟨a2, m2, b2, rfl, ha2, rm2, rb2⟩ := step_inv ry
      have s13 := s1.trans s3
      have sq1 := (ha.same s13).sq
      have sq2 := (ha2.same s13).sq
      -- what the dict answers of the back
      have hk : ∃ (k : Option L2.Key) (r : V), b2 = kVN k ∧ g k = some r ∧ ∀ H', Rep K H' r (bkD ((pl[ns[i]].back).map fun j => ns.idxOf j)) := by
        by_cases h0 : ns[i] = 0
        · have e0 : pl[0]? = some pl[ns[i]] := by
            rw [← h0]
            exact hpl
          have ef := hwb.first _ e0
          rw [ef] at rb2 ⊢
          obtain ⟨rfl, _⟩ := Rep.inva (w := V.non) rb2
          exact ⟨none, .non, rfl, hA.non, fun H' => .at rfl⟩
        · obtain ⟨mv, em⟩ := hwb.at (Nat.pos_of_ne_zero h0) c1
          rw [hpl] at em
          have ef := Option.some.inj em
          rw [ef] at rb2 ⊢
          obtain ⟨rfl, _⟩ := Rep.inva (w := V.int (bk pl ns[i] : Nat)) rb2
          obtain ⟨i1, i2⟩ := idx_up up (c2.resolve_left h0)
          exact ⟨keyN (bk pl ns[i]), .int (ns.idxOf (bk pl ns[i]) : Nat), rfl, hA.has _ _ i2 i1, fun H' => .at rfl⟩
      obtain ⟨k, r, ek, gk, rr⟩ := hk
      subst ek
      refine ⟨rfl, yes_go ⟨_, rfl, _, rfl, a, xs, _, _, rfl, rfl, sq1, atI_nat hy, a2, _, 0, _, rfl, rfl, sq2, atI_nat (j := 0) rfl, ?_⟩⟩
      refine ⟨_, rfl, _, rfl, _, rfl, a, xs, _, _, rfl, rfl, sq1, atI_nat hy, a2, _, 1, _, rfl, rfl, sq2, at_one1 rfl, d, g, n, k, r, rfl, rfl, s3 _ _ hdn, gk, (by show 2 ≤ sizeLine; decide), fun t nt => ?_⟩
      have st := same_new nt (.tup [m2, r])
      have hl4 := st _ _ hl3
      have kl := kx_list hl4 (acc ++ [.ref t])
      refine ⟨acc, hl4, small6 (by omega), fun z o e => ?_, acc ++ [.ref t], upd_same, by rw [List.length_append, List.length_singleton]; omega, ?_⟩
      · rw [upd_ne (ne_of_none e nl)]
        exact st _ _ (s3 _ _ e)
      · have e3 : (((ns.take (i + 1)).map (apS pl ns)).map stD) = (((ns.take i).map (apS pl ns)).map stD) ++ [stD (apS pl ns ns[i])] := by
          rw [List.take_add_one, e1, List.map_append, List.map_append]
          rfl
        rw [e3]
        refine (racc.mono ((kx_same st).trans kl)).append (.one (.tup (xs := [m2, r]) (.inl (kl.t _ _ upd_same)) (.cons ?_ (.one ?_))))
        · have e4 : (apS pl ns ns[i]).mv = pl[ns[i]].mv := by
            unfold apS
            rw [hpl]
            rfl
          rw [e4]
          exact (rm2.mono (kx_same (s13.trans st))).mono kl
        · have e5 : (apS pl ns ns[i]).back = (pl[ns[i]].back).map fun j => ns.idxOf j := by
            unfold apS
            rw [hpl]
            rfl
          rw [e5]
          exact rr _
    · rintro H3 ⟨s3, acc, hl3, lacc, racc⟩
      rw [nats_len, List.take_length] at racc
      refine ⟨l, _, rfl, .inl ⟨SqL.of hl3, fun t nt => ?_⟩⟩
      have st := same_new nt (.tup acc)
      exact q _ _ (s1.trans (s3.trans st)) (.tup' upd_same (racc.mono (kx_same st)))
end
end Pk

set_option maxRecDepth 100000
set_option maxHeartbeats 4000000
set_option pp.maxSteps 600
namespace Pk
open PySem PySem.Spec PyProof.Rows L2
theorem code_ref {K : PySem.W.Frag} {cd : Value} {q : Str} (h : PySem.W.codeIn K cd q = true) : ∃ c, cd = .ref c := by
  cases cd with
  | ref c => exact ⟨c, rfl⟩
  | _ => cases h
theorem Df.okC {P : Program} {w : World} {K : PySem.W.Frag} {mg : Str → Option Value} {base : Heap} {x : Str} {st : Stmt} {ps : List Str} {f : Addr} {fd : FuncData} {N : List Str} {k : Nat} {sp : Sp} (D : Df K mg x st ps f fd) (S : FnScope N ps (defScope st)) (len : ∀ vs H Q E, sp vs H Q E → vs.length = ps.length)
    (hbody : ∀ (c : Addr) (A : Around) (outer : List Env) (s : Shared) (H : Hp) (vs : List V) (Q : VK) (E : XK), fd.code = .ref c → PySem.W.codeIn K (.ref c) x = true → Room k (A.deeper (envOfC x (defScope st) s.heap.objs.size f (.ref c))) → sp vs H Q E →
      ∃ t, PSs (cxOf CX0 P w K mg base N x (defScope st) f (.ref c) A outer s H E).nox (defBody st) t ∧ t { nx := fun _ H' => Q .non H', rt := Q } (L2.start N vs) H) : FnOk P w K mg base CX0 (k + 1) f fd ps sp := by
  obtain ⟨oc, od, dV, kV, doc, pm, an, cdv, ct, osl, rfl, lk, hcd, _, _⟩ := D.F.ex
  obtain ⟨c, rfl⟩ := code_ref hcd
  refine fn_of lk hcd S len fun A outer s H vs Q E hr hsp => ?_
  obtain ⟨t, h, q⟩ := hbody c A outer s H vs Q E rfl hcd hr hsp
  exact ⟨t, h.nox, q⟩
theorem kds_of {K : PySem.W.Frag} {cd : Value} {x : Str} (h : PySem.W.codeIn K cd x = true) : PySem.W.kdsCode K cd = true := by
  unfold PySem.W.codeIn at h
  unfold PySem.W.kdsCode
  cases cd with
  | ref c =>
    dsimp only at h ⊢
    split at h
    · next e => rw [e]
    · cases h
  | _ => cases h
/-! ### thread -/
def thrF (pl : List Stp) (n : Nat) : Nat → List Nat
  | 0 => [n]
  | j + 1 => thrF pl n j ++ (if bk pl (n + 1 + j) ∈ thrF pl n j then [n + 1 + j] else [])
def thr (pl : List Stp) (n : Nat) : List Nat := thrF pl n (pl.length - (n + 1))
theorem thrF_up (pl : List Stp) (n : Nat) : ∀ j, (thrF pl n j).Pairwise (· < ·) ∧ (∀ m ∈ thrF pl n j, n ≤ m ∧ m ≤ n + j) ∧ (thrF pl n j).length ≤ j + 1
  | 0 => ⟨List.pairwise_singleton _ _, fun m h => by rw [List.mem_singleton.mp h]; omega, Nat.le_refl _⟩
  | j + 1 => by
    obtain ⟨h1, h2, h3⟩ := thrF_up pl n j
    unfold thrF
    by_cases hb : bk pl (n + 1 + j) ∈ thrF pl n j
    · rw [if_pos hb]
      refine ⟨List.pairwise_append.mpr ⟨h1, List.pairwise_singleton _ _, fun a ha b hb => ?_⟩, fun m hm => ?_, ?_⟩
      · rw [List.mem_singleton.mp hb]
        have := h2 a ha
        omega
      · rcases List.mem_append.mp hm with hm | hm
        · have := h2 m hm
          omega
        · rw [List.mem_singleton.mp hm]
          omega
      · rw [List.length_append, List.length_singleton]
        omega
    · rw [if_neg hb, List.append_nil]
      exact ⟨h1, fun m hm => by have := h2 m hm; omega, by omega⟩
theorem up_eq : ∀ (l m : List Int), l.Pairwise (· < ·) → m.Pairwise (· < ·) → (∀ k, k ∈ l ↔ k ∈ m) → l = m
  | [], [], _, _, _ => rfl
  | [], y :: m, _, _, h => by have := (h y).mpr (List.mem_cons_self ..); cases this
  | x :: l, [], _, _, h => by have := (h x).mp (List.mem_cons_self ..); cases this
  | x :: l, y :: m, h1, h2, h => by
    rw [List.pairwise_cons] at h1 h2
    have hx := (h x).mp (List.mem_cons_self ..)
    have hy := (h y).mpr (List.mem_cons_self ..)
    have e : x = y := by
      rcases List.mem_cons.mp hx with e | e
      · exact e
      · rcases List.mem_cons.mp hy with e2 | e2
        · exact e2.symm
        · have a1 := h2.1 x e
          have a2 := h1.1 y e2
          omega
    subst e
    rw [up_eq l m h1.2 h2.2 fun k => ⟨fun hk => ?_, fun hk => ?_⟩]
    · rcases List.mem_cons.mp ((h k).mp (List.mem_cons_of_mem _ hk)) with e | e
      · have := h1.1 k hk
        omega
      · exact e
    · rcases List.mem_cons.mp ((h k).mpr (List.mem_cons_of_mem _ hk)) with e | e
      · have := h2.1 k hk
        omega
      · exact e
def intL (ns : List Nat) : List Int := ns.map fun k : Nat => ((k : Nat) : Int)
theorem intL_up {ns : List Nat} (h : ns.Pairwise (· < ·)) : (intL ns).Pairwise (· < ·) := by
  unfold intL
  rw [List.pairwise_map]
  exact h.imp fun hab => by omega
theorem intL_mem {ns : List Nat} {k : Nat} : ((k : Nat) : Int) ∈ intL ns ↔ k ∈ ns := by
  unfold intL
  constructor
  · intro h
    obtain ⟨m, hm, e⟩ := List.mem_map.mp h
    have : m = k := by omega
    exact this ▸ hm
  · intro h
    exact List.mem_map.mpr ⟨k, h, rfl⟩
section
variable {P : Program} {w : World} {K : PySem.W.Frag} {mg : Str → Option Value} {base : Heap}
def spThr (K : PySem.W.Frag) : Sp := fun vs H Q _ => ∃ (v : V) (pl : List Stp) (n : Nat), vs = [v, .int (n : Nat)] ∧ Rep K H v (playD pl) ∧ WB pl ∧ n < pl.length ∧ pl.length ≤ 39 ∧ ∀ z H', Same H H' → Rep K H' z (plD (thr pl n)) → Q z H'
theorem ok_thr {f : Addr} {fd : FuncData} (D_thread : Df K mg "thread" s_thread ["play", "n"] f fd) (B : Bt mg) : FnOk P w K mg base CX0 1 f fd ["play", "n"] (spThr K) := by
  refine D_thread.okC c_thread (fun vs H Q E h => ?_) (fun c A outer s H vs Q E hfc hcd hr h => ?_)
  · obtain ⟨v, pl, n, rfl, _⟩ := h
    rfl
  obtain ⟨v, pl, n, rfl, rv, hwb, hn, hl, q⟩ := h
  have nd := c_thread.nd
  have hkd := kds_of hcd
  refine ⟨_, (pss_cons (ps_set (i := 2) nd rfl (Or.inl rfl) (pe_set1 hkd (pv 1) rfl))
  (pss_cons (ps_for PassesOwn.never rfl (pi_range2 (by rfl) B.b_range (pa_cons (pe_op op_add (pv 1) pe_int) (pa_cons (pe_callB call_len_seq (by rfl) B.b_len PySem.boot_len (pa_cons (pv 0) pa_nil)) pa_nil))) (pg_name (i := 3) nd rfl (Or.inl rfl)) (pss_one (ps_if (pt_cmpR or_sin (pe_ix ix_tup (pe_ix ix_tup (pv 0) (pv 3) (fun _ _ => rfl)) pe_int (fun _ _ => rfl)) (pv 2) rfl) (pss_one (ps_expr (pe_sadd (pv 2) (pa_cons (pv 3) pa_nil)))) pss_nil)))
  (pss_one (ps_ret (pe_callTy call_tuple_of (by rfl) B.b_tuple (by decide +kernel) (pa_cons (pe_callB (cr_sortedSet rfl) (by rfl) B.b_sorted (by decide +kernel) (pa_cons (pv 2) pa_nil)) pa_nil)))))), ?_⟩
  obtain ⟨a, xs, rfl, ha, rxs, lx⟩ := play_inv rv
  refine seq_rest (fun σ' H' => ∃ p, σ' = [some (.ref a), some (.int (n : Nat)), some (.ref p), none] ∧ Same H H' ∧ H p = none ∧ H' p = some (SetO w p (fun j => decide (j = (n : Int))) 1)) (fun rest => ?_) ?_
  · intro p np
    refine ⟨_, rfl, _, rfl, upd_same, rest _ _ ⟨p, rfl, fun b o e => ?_, np, upd_same⟩⟩
    rw [upd_ne (ne_of_none e np), upd_ne (ne_of_none e np)]
    exact e
  rintro σ' H1 ⟨p, rfl, s0, np, hp1⟩
  refine seq_rest (fun σ' H' => Same H H' ∧ (∃ (S : Int → Bool) (m : Nat), H' p = some (SetO w p S m) ∧ m ≤ pl.length ∧ m = (thr pl n).length ∧ ∀ k : Int, S k = true ↔ k ∈ intL (thr pl n)) ∧ ∃ y3 : Option V, σ' = [some (.ref a), some (.int (n : Nat)), some (.ref p), y3]) (fun rest => ?_) ?_
  · refine ⟨_, rfl, _, _, rfl, rfl, _, rfl, a, xs, rfl, .inr (ha.same s0).sq, (n : Int) + 1, ((xs.length : Nat) : Int), rfl, ⟨by omega, by omega, by omega, by omega⟩, ?_⟩
    refine for_range (lo := (n : Int) + 1) (n := (((xs.length : Nat) : Int) - ((n : Int) + 1)).toNat) (fun i σ H' => Same H H' ∧ (∃ (S : Int → Bool) (m : Nat), H' p = some (SetO w p S m) ∧ m = (thrF pl n i).length ∧ ∀ k : Int, S k = true ↔ k ∈ intL (thrF pl n i)) ∧ ∃ y3 : Option V, σ = [some (.ref a), some (.int (n : Nat)), some (.ref p), y3])
      ⟨s0, ⟨_, 1, hp1, rfl, fun k => ?_⟩, none, rfl⟩ ?_ ?_
    · show decide (k = (n : Int)) = true ↔ k ∈ [((n : Nat) : Int)]
      rw [List.mem_singleton]
      exact decide_eq_true_iff
    · rintro i σ H2 hi ⟨s2, ⟨S, m, hp2, hm, hS⟩, y3, rfl⟩
      have hi2 : n + 1 + i < pl.length := by omega
      obtain ⟨a2, m2, hx2, ha2⟩ := back_at rxs hwb (by omega) hi2
      have hx3 := atI_nat hx2
      have ez : (((n + 1 + i : Nat)) : Int) = (n : Int) + 1 + (i : Nat) := by omega
      rw [ez] at hx3
      have up := thrF_up pl n i
      have e1 : thrF pl n (i + 1) = thrF pl n i ++ (if bk pl (n + 1 + i) ∈ thrF pl n i then [n + 1 + i] else []) := rfl
      refine ⟨_, rfl, _, rfl, a, xs, _, _, rfl, rfl, (ha.same s2).sq, hx3, a2, _, 1, _, rfl, rfl, (ha2.same s2).sq, at_one1 rfl, _, rfl, _, p, S, m, rfl, rfl, hp2, _, rfl, ?_⟩
      have hSb : S ((bk pl (n + 1 + i) : Nat) : Int) = true ↔ bk pl (n + 1 + i) ∈ thrF pl n i := (hS _).trans intL_mem
      by_cases hb : bk pl (n + 1 + i) ∈ thrF pl n i
      · rw [hSb.mpr hb]
        rw [if_pos hb] at e1
        have hno : S ((n : Int) + 1 + (i : Nat)) = false := by
          cases h : S ((n : Int) + 1 + (i : Nat)) with
          | false => rfl
          | true =>
            have h2 := (hS _).mp h
            rw [← ez] at h2
            have := up.2.1 _ (intL_mem.mp h2)
            omega
        have hl3 := up.2.2
        refine iteT ⟨_, rfl, ⟨p, S, m, rfl, hp2⟩, _, rfl, p, _, S, m, rfl, rfl, hp2, Nat.lt_of_le_of_lt (show m + 1 ≤ 100 by omega) (by decide), ?_⟩
        rw [hno]
        refine ⟨fun b o e => ?_, ⟨_, _, upd_same, ?_, fun k => ?_⟩, _, rfl⟩
        · rw [upd_ne (ne_of_none e np)]
          exact s2 _ _ e
        · rw [e1, List.length_append, ← hm]
          rfl
        · rw [e1]
          unfold intL
          rw [List.map_append, List.mem_append]
          show (S k || decide (k = (n : Int) + 1 + (i : Nat))) = true ↔ k ∈ intL (thrF pl n i) ∨ k ∈ [((n + 1 + i : Nat) : Int)]
          rw [Bool.or_eq_true, hS k, decide_eq_true_iff, List.mem_singleton, ez]
      · have hf : S ((bk pl (n + 1 + i) : Nat) : Int) = false := by
          cases h : S ((bk pl (n + 1 + i) : Nat) : Int) with
          | false => rfl
          | true => exact absurd (hSb.mp h) hb
        rw [hf]
        rw [if_neg hb, List.append_nil] at e1
        refine iteF ⟨s2, ⟨S, m, hp2, by rw [e1]; exact hm, by rw [e1]; exact hS⟩, _, rfl⟩
    · rintro σ H2 ⟨s2, ⟨S, m, hp2, hm, hS⟩, y3, rfl⟩
      have e : (((xs.length : Nat) : Int) - ((n : Int) + 1)).toNat = pl.length - (n + 1) := by omega
      rw [e] at hm hS
      have h3 := (thrF_up pl n (pl.length - (n + 1))).2.2
      exact rest _ _ ⟨s2, ⟨S, m, hp2, by omega, hm, hS⟩, y3, rfl⟩
  · rintro σ' H2 ⟨s2, ⟨S, m, hp2, hm, hml, hS⟩, y3, rfl⟩
    refine ⟨_, rfl, p, S, m, rfl, hp2, by omega, fun ns l hup hmem hlen nl => ?_⟩
    have e : ns = intL (thr pl n) := up_eq _ _ hup (intL_up (thrF_up pl n _).1) fun k => (hmem k).trans (hS k)
    subst e
    refine ⟨l, _, rfl, .inl ⟨SqL.of upd_same, fun t nt => ?_⟩⟩
    have s3 := same_new nl (.lst ((intL (thr pl n)).map V.int))
    have s4 := same_new nt (.tup ((intL (thr pl n)).map V.int))
    refine q _ _ (s2.trans (s3.trans s4)) (.tup' upd_same ?_)
    unfold intL
    rw [nats_int]
    exact reps_nats _
end
end Pk

set_option maxRecDepth 100000
set_option maxHeartbeats 4000000
set_option pp.maxSteps 600
namespace Pk
open PySem PySem.Spec PyProof.Rows L2
section
variable {X : Cx}
def rEqNilT (K : PySem.W.Frag) : R2 := fun x y H Q => ∃ a b xs, x = .ref a ∧ y = .ref b ∧ SqT K H a xs ∧ SqT K H b [] ∧ Q (.bl xs.isEmpty) H
theorem tup_isTuple {h : Heap} {a : Addr} {items : Array Value} (x : IsTup h a items) : h.IsTuple a items := x
theorem op_eqNilT (hu : X.A.units + 64 < cLine) : OpR X (compareOp .Eq) (rEqNilT X.K) := by
  intro pins s σ H x y v u Q I rx ry h
  obtain ⟨a, b, xs, rfl, rfl, ha, hb, q⟩ := h
  cases rx
  cases ry
  obtain ⟨its, r1, p1, _⟩ := I.tuple ha
  obtain ⟨its2, r2, p2, _⟩ := I.tuple hb
  cases r2
  have hu' : X.A.units < cLine := by omega
  refine SeqAt.eq_tupleAt (e := fun _ => true) p1 p2 hu' (fun j h1 h2 => by simp at h2) ⟨.bl xs.isEmpty, H, I, ?_, q⟩
  cases r1 <;> rfl
def rNeNilT (K : PySem.W.Frag) : R2 := fun x y H Q => ∃ a b xs, x = .ref a ∧ y = .ref b ∧ SqT K H a xs ∧ SqT K H b [] ∧ Q (.bl (!xs.isEmpty)) H
theorem op_neNilT (hu : X.A.units + 64 < cLine) : OpR X (compareOp .NotEq) (rNeNilT X.K) := by
  intro pins s σ H x y v u Q I rx ry h
  obtain ⟨a, b, xs, rfl, rfl, ha, hb, q⟩ := h
  cases rx
  cases ry
  obtain ⟨its, r1, p1, _⟩ := I.tuple ha
  obtain ⟨its2, r2, p2, _⟩ := I.tuple hb
  cases r2
  have hu' : X.A.units < cLine := by omega
  refine SeqAt.RcNeAt.tuples (e := fun _ => true) p1 p2 hu' (fun j h1 h2 => by simp at h2) _ _ _ _ ⟨.bl (!xs.isEmpty), H, I, ?_, q⟩
  cases r1 <;> rfl
end
/-! ### _argument_of, _moved_on, _with_place -/
def vN : Option Nat → V
  | none => .non
  | some v => .int (v : Nat)
def plcO (pl : List Stp) (s : Stp) : List Nat := match s.mv with
  | .ask p => p
  | .say _ => match s.back with
    | some j => (askPl pl j).getD []
    | none => []
def argO (pl : List Stp) (s : Stp) : Option Nat := (plcO pl s).head?
def lowP (k : Nat) : List Nat → List Nat
  | [] => []
  | a :: r => if a < k then a :: r else (a - 1) :: r
def lowM (k : Nat) : Mv → Mv
  | .ask p => .ask (lowP k p)
  | .say u => .say u
section
variable {P : Program} {w : World} {K : PySem.W.Frag} {mg : Str → Option Value} {base : Heap}
theorem pl_inv {H : Hp} {v : V} {p : List Nat} (r : Rep K H v (plD p)) : ∃ a, v = .ref a ∧ TupAt K H a (nats p) := by
  obtain ⟨a, xs, e, h, rs⟩ := Rep.inv (ts := p.map numD') r
  exact ⟨a, e, rep_nats_inv rs ▸ h⟩
theorem pl_rep {H : Hp} {a : Addr} {p : List Nat} (h : TupAt K H a (nats p)) : Rep K H (.ref a) (plD p) := .tup h (reps_nats p)
def spArg (K : PySem.W.Frag) : Sp := fun vs H Q _ => ∃ (v sv : V) (pl : List Stp) (s : Stp), vs = [v, sv] ∧ Rep K H v (playD pl) ∧ Rep K H sv (stD s) ∧ (∀ u, s.mv = .say u → ∃ j p b, s.back = some j ∧ pl[j]? = some (Stp.mk (.ask p) b)) ∧ ∀ H', Same H H' → Q (vN (argO pl s)) H'
theorem ok_arg {f : Addr} {fd : FuncData} (D__argument_of : Df K mg "_argument_of" s__argument_of ["play", "step"] f fd) (B : Bt mg) : FnOk P w K mg base CX0 1 f fd ["play", "step"] (spArg K) := by
  refine D__argument_of.ok c__argument_of (fun vs H Q E h => ?_) (fun cdv A outer s0 H vs Q E hr h => ?_)
  · obtain ⟨v, sv, pl, s, rfl, _⟩ := h
    rfl
  obtain ⟨v, sv, pl, s, rfl, rv, rs, hsay, q⟩ := h
  have nd := c__argument_of.nd
  refine ⟨_, (pss_cons (ps_asg (pv 1) (pg_tup rfl (pgs_cons (pg_tup rfl (pgs_cons (pg_name (i := 2) nd rfl (Or.inl rfl)) (pgs_cons (pg_name (i := 3) nd rfl (Or.inl rfl)) pgs_nil))) (pgs_cons (pg_name (i := 4) nd rfl (Or.inl rfl)) pgs_nil))))
  (pss_cons (ps_set (i := 5) nd rfl (Or.inl rfl) (pe_ifExp (pt_cmpR op_eq (pv 2) pe_str (nomark _)) (pv 3) (pe_ix ix_tup (pe_ix ix_tup (pe_ix ix_tup (pv 0) (pv 4) (fun _ _ => rfl)) pe_int (fun _ _ => rfl)) pe_int (fun _ _ => rfl))))
  (pss_one (ps_ret (pe_ifExp (pt_cmpR (op_eqNilT hr.units) (pv 5) (pe_tup pa_nil) (nomark _)) pe_non (pe_ix ix_tup (pv 5) pe_int (fun _ _ => rfl))))))), ?_⟩
  obtain ⟨a, xs, rfl, ha, rxs, lx⟩ := play_inv rv
  obtain ⟨sa, mv, bv, rfl, hsa, rm, rb⟩ := step_inv rs
  have done : ∀ (pa : Addr) (σ : L2.St), TupAt K H pa (nats (plcO pl s)) → σ[5]? = some (some (.ref pa)) → ∀ t, H t = none → rEqNilT K (.ref pa) (.ref t) (upd H t (.tup [])) fun x H' => ∃ k, x = V.bl k ∧ (if k = true then Q .non H' else ∃ u, σ[5]? = some (some u) ∧ ∃ (a : Addr) (xs : List V) (i : Int) (v : V), u = .ref a ∧ V.int 0 = .int i ∧ SqT K H' a xs ∧ atI xs i = some v ∧ Q v H') := fun pa σ hpa h5 t nt => by
    have sT := same_new nt (.tup [])
    refine ⟨pa, t, _, rfl, rfl, (hpa.same sT).sq, SqT.of upd_same, _, rfl, ?_⟩
    unfold argO at q
    cases hp : plcO pl s with
    | nil =>
      rw [hp] at q
      exact iteT (q _ sT)
    | cons k r =>
      rw [hp] at q hpa
      exact iteF ⟨_, h5, pa, _, 0, _, rfl, rfl, (hpa.same sT).sq, atI_nat (j := 0) rfl, q _ sT⟩
  cases hm : s.mv with
  | ask p =>
    rw [hm] at rm
    obtain ⟨ma, qv, rfl, hma, rq⟩ := ask_inv rm
    obtain ⟨pa, rfl, hpa⟩ := pl_inv rq
    have epl : plcO pl s = p := by
      unfold plcO
      rw [hm]
    refine ⟨_, rfl, sa, _, rfl, hsa.sq, rfl, _, _, rfl, ⟨ma, _, rfl, hma.sq, rfl, _, _, rfl, _, _, rfl, rfl, ⟨_, _, rfl, rfl, ?_⟩⟩⟩
    refine nx_rest (fun σ' H' => σ' = [some (.ref a), some (.ref sa), some (.str "ask"), some (.ref pa), some bv, some (.ref pa)] ∧ H = H') (fun rest => ?_) ?_
    · refine ⟨_, rfl, rfl, _, rfl, ?_⟩
      rw [show decide (V.str "ask" = V.str (Str.ofString "ask")) = true by decide]
      exact iteT ⟨_, rfl, rest _ _ ⟨rfl, rfl⟩⟩
    rintro σ' H' ⟨rfl, rfl⟩
    exact ⟨_, rfl, (by show 0 ≤ sizeLine; decide), fun t nt => done pa [some (.ref a), some (.ref sa), some (.str "ask"), some (.ref pa), some bv, some (.ref pa)] (by rw [epl]; exact hpa) rfl t nt⟩
  | say u =>
    rw [hm] at rm
    obtain ⟨ma, rfl, hma⟩ := say_inv rm
    obtain ⟨jj, p, b0, ej, epj⟩ := hsay u hm
    rw [ej] at rb
    obtain ⟨rfl, _⟩ := Rep.inva (w := V.int (jj : Nat)) rb
    obtain ⟨y, hy, ry⟩ := play_at rxs epj
    obtain ⟨a2, m2, b2, rfl, ha2, rm2, rb2⟩ := step_inv ry
    obtain ⟨ma2, qv, rfl, hma2, rq⟩ := ask_inv rm2
    obtain ⟨pa, rfl, hpa⟩ := pl_inv rq
    have epl : plcO pl s = p := by
      unfold plcO
      rw [hm, ej]
      show (askPl pl jj).getD [] = p
      rw [askPl_of epj]
      rfl
    refine ⟨_, rfl, sa, _, rfl, hsa.sq, rfl, _, _, rfl, ⟨ma, _, rfl, hma.sq, rfl, _, _, rfl, _, _, rfl, rfl, ⟨_, _, rfl, rfl, ?_⟩⟩⟩
    refine nx_rest (fun σ' H' => σ' = [some (.ref a), some (.ref sa), some (.str "say"), some (.int (u : Nat)), some (.int (jj : Nat)), some (.ref pa)] ∧ H = H') (fun rest => ?_) ?_
    · refine ⟨_, rfl, rfl, _, rfl, ?_⟩
      rw [show decide (V.str "say" = V.str (Str.ofString "ask")) = false by decide]
      exact iteF ⟨_, rfl, _, rfl, a, xs, _, _, rfl, rfl, ha.sq, atI_nat hy, a2, _, 0, _, rfl, rfl, ha2.sq, atI_nat (j := 0) rfl, ma2, _, 1, _, rfl, rfl, hma2.sq, atI_nat (j := 1) rfl, rest _ _ ⟨rfl, rfl⟩⟩
    rintro σ' H' ⟨rfl, rfl⟩
    exact ⟨_, rfl, (by show 0 ≤ sizeLine; decide), fun t nt => done pa [some (.ref a), some (.ref sa), some (.str "say"), some (.int (u : Nat)), some (.int (jj : Nat)), some (.ref pa)] (by rw [epl]; exact hpa) rfl t nt⟩
def spMov (K : PySem.W.Frag) : Sp := fun vs H Q _ => ∃ (v : V) (p : List Nat) (k : Nat), vs = [v, .int (k : Nat), .int (-1)] ∧ Rep K H v (plD p) ∧ (∀ a r, p = a :: r → a ≠ k) ∧ p.length ≤ 1000 ∧ ∀ z H', Same H H' → Rep K H' z (plD (lowP k p)) → Q z H'
theorem ok_mov {f : Addr} {fd : FuncData} (D__moved_on : Df K mg "_moved_on" s__moved_on ["place", "k", "by"] f fd) (B : Bt mg) : FnOk P w K mg base CX0 1 f fd ["place", "k", "by"] (spMov K) := by
  refine D__moved_on.ok c__moved_on (fun vs H Q E h => ?_) (fun cdv A outer s0 H vs Q E hr h => ?_)
  · obtain ⟨v, p, k, rfl, _⟩ := h
    rfl
  obtain ⟨v, p, k, rfl, rv, hk, hl, q⟩ := h
  have nd := c__moved_on.nd
  refine ⟨_, (pss_cons (ps_if (PW.pt (pw_or (pt_cmpR (op_eqNilT hr.units) (pv 0) (pe_tup pa_nil) (nomark _)) (pw_or1 (pt_cmpR op_lt (pe_ix ix_tup (pv 0) pe_int (fun _ _ => rfl)) (pv 1) (nomark _))))) (pss_one (ps_ret (pv 0))) pss_nil)
  (pss_one (ps_ret (pe_op op_catP (pe_tup (pa_cons (pe_op op_add (pe_ix ix_tup (pv 0) pe_int (fun _ _ => rfl)) (pv 2)) pa_nil)) (pe_slice sl_tupP (pv 0) (po_some pe_int) po_none))))), ?_⟩
  obtain ⟨pa, rfl, hpa⟩ := pl_inv rv
  refine seq_rest (fun σ' H' => ∃ (a : Nat) (r : List Nat), σ' = [some (.ref pa), some (.int (k : Nat)), some (.int (-1))] ∧ Same H H' ∧ p = a :: r ∧ ¬ a < k) (fun rest => ?_) ?_
  · refine ⟨_, rfl, (by show 0 ≤ sizeLine; decide), fun t nt => ?_⟩
    have sT := same_new nt (.tup [])
    refine ⟨pa, t, _, rfl, rfl, (hpa.same sT).sq, SqT.of upd_same, _, rfl, ?_⟩
    cases p with
    | nil => exact iteT ⟨_, rfl, q _ _ sT (rv.mono (kx_same sT))⟩
    | cons a r =>
      refine iteF ⟨_, rfl, pa, _, 0, _, rfl, rfl, (hpa.same sT).sq, atI_nat (j := 0) rfl, _, rfl, _, _, rfl, rfl, _, rfl, ?_⟩
      by_cases h : a < k
      · rw [show decide (((a : Nat) : Int) < ((k : Nat) : Int)) = true from decide_eq_true (by omega)]
        refine iteT ⟨_, rfl, q _ _ sT ?_⟩
        rw [show lowP k (a :: r) = a :: r from if_pos h]
        exact rv.mono (kx_same sT)
      · rw [show decide (((a : Nat) : Int) < ((k : Nat) : Int)) = false from decide_eq_false (by omega)]
        exact iteF (rest _ _ ⟨a, r, rfl, sT, rfl, h⟩)
  rintro σ' H1 ⟨a, r, rfl, s1, rfl, h⟩
  have hak := hk a r rfl
  have h1 := hpa.same s1
  refine ⟨_, rfl, pa, _, 0, _, rfl, rfl, h1.sq, atI_nat (j := 0) rfl, _, rfl, _, _, rfl, rfl, (by show 1 ≤ sizeLine; decide), fun t nt => ?_⟩
  have sT := same_new nt (.tup [V.int (((a : Nat) : Int) + (-1))])
  refine ⟨_, rfl, 1, rfl, pa, _, rfl, h1.same sT, fun c1 H2 s2 hc1 => ?_⟩
  rw [show nats (a :: r) = V.int (a : Nat) :: nats r from rfl] at hc1
  have hc1 : TupAt K H2 c1 (cutV (V.int (a : Nat) :: nats r) (some ((1 : Nat) : Int)) none) := hc1
  rw [cutV_from] at hc1
  have ln : (nats r).length = r.length := nats_len r
  have hl' : r.length + 1 ≤ 1000 := hl
  refine ⟨t, c1, _, _, rfl, rfl, .inl (s2 _ _ upd_same), hc1, small6' (by show 1 + (nats r).length ≤ _; omega), fun c2 H3 s3 hc2 => q _ _ (((s1.trans sT).trans s2).trans s3) ?_⟩
  rw [show lowP k (a :: r) = (a - 1) :: r from if_neg h]
  have e : ((a : Nat) : Int) + (-1) = ((a - 1 : Nat) : Int) := by omega
  have hc2 : TupAt K H3 c2 (V.int (((a : Nat) : Int) + (-1)) :: nats r) := hc2
  rw [e] at hc2
  exact pl_rep hc2
end
end Pk

set_option maxRecDepth 100000
set_option maxHeartbeats 4000000
set_option pp.maxSteps 600
namespace Pk
open PySem PySem.Spec PyProof.Rows L2
open LamX
/-! ### the lambdas: _with_place, _without_argument -/
def TTw (K : PySem.W.Frag) : V → (V → Hp → VK → Prop) → Hp → VK → Prop := fun v1 tl H Q => ∃ m : Mv, Rep K H v1 (mvD m) ∧
  (∀ p, m = .ask p → ∀ x, Rep K H x (plD p) → tl x H fun z H' => ([V.str "ask", z] : List V).length ≤ sizeLine ∧ ∀ t, H' t = none → Q (.ref t) (upd H' t (.tup [V.str "ask", z]))) ∧ (∀ u, m = .say u → Q v1 H)
theorem room_at {k : Nat} {A : Around} {e e' : Env} (r : Room k (A.deeper e)) : Room k (A.deeper e') := ⟨r.hd, r.dp, r.un⟩
theorem gives_wp (X : Cx) (g : Addr) (cdg : Value) (q : Str) : GivesP X ["move", "changed", "word", "told"] "_with_place" (defScope s__with_place) g cdg (defBody s__with_place) 1 "changed" q (TTw X.K) := by
  intro f c' s H Q v1 tl act hc h
  obtain ⟨m, rm, hask, hsay⟩ := h
  have nd := c__with_place.nd
  refine ⟨_, (pss_cons (ps_asg (pv 0) (pg_tup rfl (pgs_cons (pg_name (i := 2) nd rfl (Or.inl rfl)) (pgs_cons (pg_name (i := 3) nd rfl (Or.inl rfl)) pgs_nil))))
  (pss_one (ps_ret (pe_ifExp (pt_cmpR op_eq (pv 2) pe_str (nomark _)) (pe_tup (pa_cons (pv 2) (pa_cons (act _ _ _ _ (pv 3) rfl) pa_nil))) (pv 0))))), ?_⟩
  cases m with
  | ask p =>
    obtain ⟨ma, qv, rfl, hma, rq⟩ := ask_inv rm
    refine ⟨_, rfl, ma, _, rfl, hma.sq, rfl, _, _, rfl, _, _, rfl, rfl, ?_⟩
    refine ⟨_, rfl, rfl, _, rfl, ?_⟩
    rw [show decide (V.str "ask" = V.str (Str.ofString "ask")) = true by decide]
    exact iteT ⟨_, rfl, rfl, _, rfl, hc, hask p rfl qv rq⟩
  | say u =>
    obtain ⟨ma, rfl, hma⟩ := say_inv rm
    refine ⟨_, rfl, ma, _, rfl, hma.sq, rfl, _, _, rfl, _, _, rfl, rfl, ?_⟩
    refine ⟨_, rfl, rfl, _, rfl, ?_⟩
    rw [show decide (V.str "say" = V.str (Str.ofString "ask")) = false by decide]
    exact iteF ⟨_, rfl, hsay u rfl⟩
theorem extN_kx {H H' : Hp} (e : ExtN H H') : Kx H H' := ⟨fun a xs h => e _ _ h (fun ps z => by cases z), fun a xs h => ⟨xs, e _ _ h (fun ps z => by cases z)⟩⟩
theorem extN_of {H H' : Hp} (s : Same H H') : ExtN H H' := ExtN.of s
section
variable {P : Program} {w : World} {K : PySem.W.Frag} {mg : Str → Option Value} {base : Heap} {T : List (Addr × Str)}
def qLam (x : Str) : Str := (envOfC x (defScope s_law) 0 0 .none).qual ++ "<lambda>"
def spWo (K : PySem.W.Frag) (T : List (Addr × Str)) : Sp := fun vs H Q _ => ∃ (v : V) (m : Mv) (k : Nat), vs = [v, .int (k : Nat)] ∧ Rep K H v (mvD m) ∧ (∀ a r, m = .ask (a :: r) → a ≠ k) ∧ (∀ p, m = .ask p → p.length ≤ 1000) ∧ Tabs T H ∧ ∀ z H', ExtN H H' → Tabs T H' → Rep K H' z (mvD (lowM k m)) → Q z H'
theorem ok_wo {f f1 f2 c0 P0 : Addr} {fd d1 d2 : FuncData} (D__without_argument : Df K mg "_without_argument" s__without_argument ["move", "k"] f fd) (D__with_place : Df K mg "_with_place" s__with_place ["move", "changed"] f1 d1) (D__moved_on : Df K mg "_moved_on" s__moved_on ["place", "k", "by"] f2 d2) (B : Bt mg)
    (hc0 : fd.code = .ref c0) (TB : TabB base mg c0 P0) (hTm : (P0, qLam "_without_argument") ∈ T) (hTu : ∀ p ∈ T, p.1 = P0 → p.2 = qLam "_without_argument") : FnOk P w K mg base CX0 4 f fd ["move", "k"] (spWo K T) := by
  have G__moved_on : FnOk P w K mg base CX0 1 f2 d2 ["place", "k", "by"] (spMov K) := ok_mov D__moved_on B
  refine D__without_argument.okC c__without_argument (fun vs H Q E h => ?_) (fun c A outer s H vs Q E hfc hcd hr h => ?_)
  · obtain ⟨v, m, k, rfl, _⟩ := h
    rfl
  obtain ⟨v, m, k, rfl, rm, hk, hl, hT, q⟩ := h
  have nd := c__without_argument.nd
  rw [hc0] at hfc
  obtain rfl : c0 = c := by injection hfc
  have hcode : (cxOf CX0 P w K mg base ["move", "k", "place"] "_without_argument" (defScope s__without_argument) f (.ref c0) A outer s H E).nox.env.code = .ref c0 := rfl
  refine ⟨_, (pss_one (ps_ret (pe_lamcallP (T := T) (TT := TTw K) (k := 1) (i := 1) (j := 2) (a := "place") (p1n := "move") (pf := "changed") D__with_place.F D__with_place.b (by rfl) D__with_place.m c__with_place rfl (.inl rfl) (fun cdg => gives_wp _ _ _ _) TB hcode hTm hTu hr (lamP_by (by kernel_rfl)) rfl nd rfl (fun _ _ _ _ _ _ => rfl) (pv 0) (fun A outer s H f c' B hr2 => (pe_call G__moved_on (room_at hr2) (by rfl) D__moved_on.m D__moved_on.kp D__moved_on.b .nil pass0 (pa_cons (pv 2) (pa_cons (pv 1) (pa_cons (pe_un un_neg pe_int) pa_nil)))))))), ?_⟩
  refine ⟨_, rfl, hT, fun H2 eN T2 => ⟨m, rm.mono (extN_kx eN), fun p hp x rx => ?_, fun u hu => ?_⟩⟩
  · subst hp
    refine ⟨_, rfl, _, rfl, _, rfl, x, p, k, rfl, rx, fun a r e => hk a r (by rw [e]), hl p rfl, fun z H3 s3 rz => ⟨(by show 2 ≤ sizeLine; decide), fun t nt => ?_⟩⟩
    have sT := same_new nt (.tup [V.str "ask", z])
    refine q _ _ (eN.trans (extN_of (s3.trans sT))) (T2.ext fun b o e => (s3.trans sT) _ _ e) ?_
    exact .tup' upd_same (.cons (.at rfl) (.one (rz.mono (kx_same sT))))
  · subst hu
    exact q _ _ eN T2 (rm.mono (extN_kx eN))
end
end Pk

set_option maxRecDepth 100000
set_option maxHeartbeats 4000000
set_option pp.maxSteps 600
namespace Pk
open PySem PySem.Spec PyProof.Rows L2
open LamX
/-! ### _from_within -/
def tailM : Mv → Mv
  | .ask p => .ask (p.drop 1)
  | .say u => .say u
def fwS (s : Stp) : Stp := ⟨tailM s.mv, s.back.map (· - 1)⟩
def fromW (pl : List Stp) : List Stp := BEG :: (pl.drop 2).map fwS
section
variable {P : Program} {w : World} {K : PySem.W.Frag} {mg : Str → Option Value} {base : Heap} {T : List (Addr × Str)}
theorem tabs_put {H : Hp} {d : Addr} {xs ys : List V} (h : Tabs T H) (hd : H d = some (.lst xs)) : Tabs T (upd H d (.lst ys)) := by
  intro p hp
  obtain ⟨ps, h1, h2, h3⟩ := h p hp
  have n1 : p.1 ≠ d := fun z => by
    rw [z, hd] at h1
    cases h1
  refine ⟨ps, by rw [upd_ne n1]; exact h1, h2, fun pos cv hc => ?_⟩
  obtain ⟨c, e1, e2⟩ := h3 pos cv hc
  refine ⟨c, e1, ?_⟩
  have n2 : c ≠ d := fun z => by
    rw [z, hd] at e2
    cases e2
  rw [upd_ne n2]
  exact e2
theorem extN_put {H H' : Hp} {d : Addr} {o : HO} (e : ExtN H H') (n : H d = none) : ExtN H (upd H' d o) := fun b u h t => by
  rw [upd_ne (ne_of_none h n)]
  exact e b u h t
theorem extN_lst {H H' : Hp} (e : ExtN H H') {d : Addr} {xs : List V} (h : H d = some (.lst xs)) : H' d = some (.lst xs) := e _ _ h fun ps z => by cases z
def spFw (K : PySem.W.Frag) (T : List (Addr × Str)) : Sp := fun vs H Q _ => ∃ (v : V) (pl : List Stp), vs = [v] ∧ Rep K H v (playD pl) ∧ (∀ s ∈ pl.drop 2, ∃ j, s.back = some j ∧ 1 ≤ j) ∧ pl.length ≤ 39 ∧ Tabs T H ∧ ∀ z H', ExtN H H' → Tabs T H' → Rep K H' z (playD (fromW pl)) → Q z H'
theorem ok_fw {bg : Addr} (hBG : mg "BEGINNING" = some (.ref bg)) (hKB : ∀ H, Rep K H (.ref bg) (stD BEG)) {f f1 c0 P0 : Addr} {fd d1 : FuncData} (D__from_within : Df K mg "_from_within" s__from_within ["play"] f fd) (D__with_place : Df K mg "_with_place" s__with_place ["move", "changed"] f1 d1) (B : Bt mg)
    (hc0 : fd.code = .ref c0) (TB : TabB base mg c0 P0) (hTm : (P0, qLam "_from_within") ∈ T) (hTu : ∀ p ∈ T, p.1 = P0 → p.2 = qLam "_from_within") : FnOk P w K mg base CX0 4 f fd ["play"] (spFw K T) := by
  refine D__from_within.okC c__from_within (fun vs H Q E h => ?_) (fun c A outer s H vs Q E hfc hcd hr h => ?_)
  · obtain ⟨v, pl, rfl, _⟩ := h
    rfl
  obtain ⟨v, pl, rfl, rv, hb, hl, hT, q⟩ := h
  have nd := c__from_within.nd
  rw [hc0] at hfc
  obtain rfl : c0 = c := by injection hfc
  refine ⟨_, (pss_cons (ps_setLc (i := 1) (own := [("move", 2), ("back", 3)]) (g := (gTup K 2 (gCons (gName 2) (gCons (gName 3) gNil)))) (tt := tYes) rfl nd rfl rfl (sw_true rfl rfl rfl (by decide +kernel)) (pi_tup (pe_slice sl_tupP (pv 0) (po_some pe_int) po_none)) (blkOk_by (own := [("move", 2), ("back", 3)]) (N := ["play", "later", "move", "back", "place"]) (sc := defScope s__from_within) (by decide +kernel)) (fun _ _ _ _ _ => (pg_tup rfl (pgs_cons (pg_name (i := 2) nd rfl (Or.inl rfl)) (pgs_cons (pg_name (i := 3) nd rfl (Or.inl rfl)) pgs_nil)))) (fun _ _ _ _ _ => pts_nil) (fun _ _ _ _ _ => (pe_tup (pa_cons (pe_lamcallP (T := T) (TT := TTw K) (tb := tSl (rSlP K) (tVar 4) (tPart (tC (.int 1))) tNoPart) (k := 1) (i := 1) (j := 4) (c := c0) (P := P0) (a := "place") (p1n := "move") (pf := "changed") D__with_place.F D__with_place.b (by rfl) D__with_place.m c__with_place rfl (.inl rfl) (fun cdg => gives_wp _ _ _ _) TB rfl hTm hTu hr (lamP_by (by kernel_rfl)) rfl nd rfl (fun _ _ _ _ _ _ => rfl) (pv 2) (fun A outer s H f c' B hr2 => (pe_slice (show SlR _ (rSlP K) from sl_tupP) (pv 4) (po_some pe_int) po_none))) (pa_cons (pe_op op_sub (pv 3) pe_int) pa_nil)))))
  (pss_one (ps_ret (pe_tup (pa_cons (pe_glob rfl hBG (rel_ref _)) (show PA _ _ (StX.tStar K _ _) from StX.pa_star (pv 1) pa_nil)))))), ?_⟩
  obtain ⟨a, xs, rfl, ha, rxs, lx⟩ := play_inv rv
  refine seq_rest (fun σ' H' => ∃ (l : Addr) (acc : List V), σ' = [some (.ref a), some (.ref l), none, none, none] ∧ ExtN H H' ∧ Tabs T H' ∧ H' l = some (.lst acc) ∧ acc.length ≤ 40 ∧ Reps K H' acc (((pl.drop 2).map fwS).map stD)) (fun rest => ?_) ?_
  · refine ⟨_, rfl, 2, rfl, a, xs, rfl, ha, fun c1 H1 s1 hc1 => ?_⟩
    have hc1 : TupAt K H1 c1 (cutV xs (some ((2 : Nat) : Int)) none) := hc1
    rw [cutV_from] at hc1
    have T1 : Tabs T H1 := hT.ext fun b o e => s1 _ _ e
    refine ⟨c1, rfl, ⟨_, hc1.sq⟩, fun d nd' => ?_⟩
    have lxd : (xs.drop 2).length = (pl.drop 2).length := by rw [List.length_drop, List.length_drop, lx]
    refine lc_tup (K := K) (a := c1) (xs := xs.drop 2) (fun i H' => ExtN H1 H' ∧ Tabs T H' ∧ ∃ acc, H' d = some (.lst acc) ∧ acc.length ≤ i ∧ Reps K H' acc ((((pl.drop 2).take i).map fwS).map stD))
      ⟨extN_of (same_new nd' _), T1.ext (fun b o e => same_new nd' _ _ _ e), [], upd_same, Nat.le_refl _, .nil⟩ (fun i H' _ h => (hc1.kx (extN_kx h.1)).sq) ?_ ?_
    · rintro i x H2 hi ⟨e2, T2, acc, hd, lacc, racc⟩
      have hx0 : xs[2 + i]? = some x := by rw [← List.getElem?_drop]; exact hi
      obtain ⟨dd, hdd, rx⟩ := rxs.get hx0
      rw [List.getElem?_map] at hdd
      obtain ⟨st, hst, rfl⟩ := Option.map_eq_some_iff.mp hdd
      have hsd : (pl.drop 2)[i]? = some st := by rw [List.getElem?_drop]; exact hst
      obtain ⟨jj, ej, hj1⟩ := hb st (List.mem_of_getElem? hsd)
      have hil := (List.getElem?_eq_some_iff.mp hst).1
      obtain ⟨sa, mv, bv, rfl, hsa, rm, rb⟩ := step_inv rx
      rw [ej] at rb
      obtain ⟨rfl, _⟩ := Rep.inva (w := V.int (jj : Nat)) rb
      have k12 := (kx_same s1).trans (extN_kx e2)
      have hsa2 := hsa.kx k12
      have ebk : ((jj : Nat) : Int) - 1 = ((jj - 1 : Nat) : Int) := by omega
      have fin : ∀ (z : V) (H3 : Hp), ExtN H2 H3 → Tabs T H3 → Rep K H3 z (mvD (tailM st.mv)) → ([z, V.int (((jj : Nat) : Int) - 1)] : List V).length ≤ sizeLine ∧ ∀ t, H3 t = none → ∃ ac, (upd H3 t (.tup [z, V.int (((jj : Nat) : Int) - 1)])) d = some (.lst ac) ∧ ac.length < sizeLine ∧ ExtN H1 (upd (upd H3 t (.tup [z, V.int (((jj : Nat) : Int) - 1)])) d (.lst (ac ++ [.ref t]))) ∧ Tabs T (upd (upd H3 t (.tup [z, V.int (((jj : Nat) : Int) - 1)])) d (.lst (ac ++ [.ref t]))) ∧ ∃ acc', (upd (upd H3 t (.tup [z, V.int (((jj : Nat) : Int) - 1)])) d (.lst (ac ++ [.ref t]))) d = some (.lst acc') ∧ acc'.length ≤ i + 1 ∧ Reps K (upd (upd H3 t (.tup [z, V.int (((jj : Nat) : Int) - 1)])) d (.lst (ac ++ [.ref t]))) acc' ((((pl.drop 2).take (i + 1)).map fwS).map stD) := by
        intro z H3 e3 T3 rz
        refine ⟨(by show 2 ≤ sizeLine; decide), fun t nt => ?_⟩
        have sT := same_new nt (.tup [z, V.int (((jj : Nat) : Int) - 1)])
        have hd3 := extN_lst e3 hd
        have hd4 := sT _ _ hd3
        have T4 : Tabs T (upd H3 t (.tup [z, V.int (((jj : Nat) : Int) - 1)])) := T3.ext fun b o e => sT _ _ e
        have kl := kx_list hd4 (acc ++ [.ref t])
        have k34 := ((extN_kx e3).trans (kx_same sT)).trans kl
        refine ⟨acc, hd4, small6 (by omega), extN_put ((e2.trans e3).trans (extN_of sT)) nd', tabs_put T4 hd4, acc ++ [.ref t], upd_same, by rw [List.length_append, List.length_singleton]; omega, ?_⟩
        rw [List.take_add_one, hsd, List.map_append, List.map_append]
        refine (racc.mono k34).append (.one (.tup (xs := [z, V.int (((jj : Nat) : Int) - 1)]) (.inl (kl.t _ _ upd_same)) (.cons ((rz.mono (kx_same sT)).mono kl) (.one ?_))))
        show Rep K _ _ (bkD (st.back.map (· - 1)))
        rw [ej]
        show Rep K _ (V.int (((jj : Nat) : Int) - 1)) (numD' (jj - 1))
        rw [ebk]
        exact .at rfl
      refine ⟨sa, _, rfl, hsa2.sq, rfl, _, _, rfl, _, _, rfl, rfl, rfl, yes_go ⟨_, rfl, T2, fun H3 e3 T3 => ⟨st.mv, (rm.mono k12).mono (extN_kx e3), fun p hp y ry => ?_, fun u hu => ?_⟩⟩⟩
      · obtain ⟨pa, rfl, hpa⟩ := pl_inv ry
        refine ⟨_, rfl, 1, rfl, pa, _, rfl, hpa, fun c2 H4 s4 hc2 => ⟨(by show 2 ≤ sizeLine; decide), fun t nt => ?_⟩⟩
        have hc2 : TupAt K H4 c2 (cutV (nats p) (some ((1 : Nat) : Int)) none) := hc2
        rw [cutV_from] at hc2
        have sT := same_new nt (.tup [V.str "ask", .ref c2])
        have s34 := s4.trans sT
        refine ⟨_, rfl, _, _, rfl, rfl, ?_⟩
        refine fin (.ref t) _ (e3.trans (extN_of s34)) (T3.ext fun b o e => s34 _ _ e) ?_
        rw [hp]
        have en : (nats p).drop 1 = nats (p.drop 1) := by
          unfold nats
          rw [List.map_drop]
        rw [en] at hc2
        exact .tup' upd_same (.cons (.at rfl) (.one (pl_rep (hc2.same sT))))
      · refine ⟨_, rfl, _, _, rfl, rfl, ?_⟩
        refine fin mv _ e3 T3 ?_
        have := (rm.mono k12).mono (extN_kx e3)
        rw [hu] at this ⊢
        exact this
    · rintro H2 ⟨e2, T2, acc, hd, lacc, racc⟩
      rw [lxd, List.take_length] at racc
      have := List.length_drop (i := 2) (l := xs)
      exact rest _ _ ⟨d, acc, rfl, (extN_of s1).trans e2, T2, hd, by omega, racc⟩
  rintro σ' H2 ⟨l, acc, rfl, e2, T2, hd, lacc, racc⟩
  refine ⟨_, rfl, l, acc, rfl, .inr (SqL.of hd), small6' (by show (acc ++ []).length + 1 ≤ _; rw [List.append_nil]; omega), fun t nt => ?_⟩
  have sT := same_new nt (.tup (V.ref bg :: (acc ++ [])))
  refine q _ _ (e2.trans (extN_of sT)) (T2.ext fun b o e => sT _ _ e) ?_
  rw [List.append_nil]
  exact .tup' upd_same (.cons (hKB _) (racc.mono (kx_same (same_new nt _))))
end
end Pk

set_option maxRecDepth 100000
set_option maxHeartbeats 4000000
set_option pp.maxSteps 600
namespace Pk
open PySem PySem.Spec PyProof.Rows L2
/-! ### alone, its numbers in a list -/
theorem walk_enumL {K : PySem.W.Frag} {a : Addr} {xs : List V} : Walk (Ite K a) xs.length (fun H => SqL K H a xs) (YPair (fun i => some (.int (i : Nat))) (fun i => xs[i]?)) := by
  refine ⟨fun i H hi q => ⟨xs, xs[i], q, List.getElem?_eq_getElem hi⟩, fun H q => ⟨xs, q, Nat.le_refl _⟩, fun i H v H' hi q y => ?_⟩
  obtain ⟨T, x, h1, h2, h3, h4⟩ := y
  exact ⟨T, .int (i : Nat), x, h1, h2, h3, rfl, h4 xs q⟩
section
variable {P : Program} {w : World} {K : PySem.W.Frag} {mg : Str → Option Value} {base : Heap}
def spAlL (K : PySem.W.Frag) : Sp := fun vs H Q _ => ∃ (v : V) (b : Addr) (pl : List Stp) (ns : List Nat), vs = [v, .ref b] ∧ Rep K H v (playD pl) ∧ H b = some (.lst (nats ns)) ∧ WB pl ∧ Cl pl ns ∧ ns.Pairwise (· < ·) ∧ ns.length ≤ 500 ∧ ∀ z H', Same H H' → Rep K H' z (playD (apart pl ns)) → Q z H'
theorem ok_alL {f : Addr} {fd : FuncData} (D_alone : Df K mg "alone" s_alone ["play", "numbers"] f fd) (B : Bt mg) : FnOk P w K mg base CX0 1 f fd ["play", "numbers"] (spAlL K) := by
  refine D_alone.ok c_alone (fun vs H Q E h => ?_) (fun cdv A outer s H vs Q E hr h => ?_)
  · obtain ⟨v, b, pl, ns, rfl, _⟩ := h
    rfl
  obtain ⟨v, b, pl, ns, rfl, rv, hb, hwb, hcl, up, hlen, q⟩ := h
  have nd := c_alone.nd
  refine ⟨_, (pss_cons (ps_set (i := 2) nd rfl (Or.inr rfl) pe_nkNew)
  (pss_cons (ps_for PassesOwn.never rfl (pi_enum (by rfl) B.b_enumerate (pa_cons (pv 1) pa_nil)) (pg_tup rfl (pgs_cons (pg_name (i := 3) nd rfl (Or.inl rfl)) (pgs_cons (pg_name (i := 4) nd rfl (Or.inl rfl)) pgs_nil))) (pss_one (ps_nkPut (pv 2) (pv 4) (pv 3) rfl)))
  (pss_one (ps_ret (pe_callTy call_tuple_of (by rfl) B.b_tuple (by decide +kernel) (pa_cons (pe_lc (own := [("number", 4)]) (g := (gName 4)) (tt := tYes) rfl nd (pi_list (pv 1)) (blkOk_by (own := [("number", 4)]) (N := ["play", "numbers", "anew", "at", "number"]) (sc := defScope s_alone) (by decide +kernel)) (fun _ _ _ _ _ => (pg_name (i := 4) nd rfl (Or.inl rfl))) (fun _ _ _ _ _ => pts_nil) (fun _ _ _ _ _ => (pe_tup (pa_cons (pe_ix (show IxR _ (rIxT K) from ix_tup) (pe_ix (show IxR _ (rIxT K) from ix_tup) (pv 0) (pv 4) (fun _ _ => rfl)) pe_int (fun _ _ => rfl)) (pa_cons (show PE _ _ (tNkGet P w _ _) from pe_nkGet (pv 2) (pe_ix (show IxR _ (rIxT K) from ix_tup) (pe_ix (show IxR _ (rIxT K) from ix_tup) (pv 0) (pv 4) (fun _ _ => rfl)) pe_int (fun _ _ => rfl)) (fun _ _ => rfl)) pa_nil))))) pa_nil)))))), ?_⟩
  obtain ⟨a, xs, rfl, ha, rxs, lx⟩ := play_inv rv
  refine fun d hd => ?_
  have s0 := same_new hd (NkO P w d (putN (fun _ => none) none .non) 1)
  refine ⟨_, rfl, b, _, rfl, SqL.of (s0 _ _ hb), for_it walk_enumL (fun i σ H' => (∃ g n, H' d = some (NkO P w d g n) ∧ n ≤ i + 1 ∧ Anew ns i g) ∧ Same H H' ∧ ∃ (y3 y4 : Option V), σ = [some (.ref a), some (.ref b), some (.ref d), y3, y4])
    ⟨⟨_, 1, upd_same, Nat.le_refl _, ⟨rfl, fun k n hk _ => absurd hk (Nat.not_lt_zero k)⟩⟩, s0, none, none, rfl⟩ (fun i σ H' _ h => SqL.of (h.2.1 _ _ hb)) ?_ ?_⟩
  · rintro i x σ H1 H1' hi ⟨⟨g, n, hdn, hn, hA⟩, s1, y3, y4, rfl⟩ ⟨T, x1, y1, rfl, nT, rfl, hx1, hy1⟩
    have hx2 : V.int (i : Nat) = x1 := Option.some.inj hx1
    subst hx2
    rw [nats_len] at hi
    have hy2 : (nats ns)[i]? = some y1 := hy1
    have e1 : ns[i]? = some ns[i] := List.getElem?_eq_getElem hi
    have hy3 : y1 = V.int (ns[i] : Nat) := by
      unfold nats at hy2
      rw [List.getElem?_map, e1] at hy2
      exact (Option.some.inj hy2).symm
    subst hy3
    have sT := same_new nT (.tup [.int (i : Nat), .int (ns[i] : Nat)])
    refine ⟨T, _, rfl, SqT.of upd_same, rfl, _, _, rfl, _, _, rfl, rfl, ?_⟩
    have hd2 := sT _ _ hdn
    refine ⟨_, rfl, _, rfl, _, rfl, d, g, n, keyN ns[i], rfl, rfl, hd2, by omega, ⟨_, _, upd_same, by omega, hA.put up e1⟩, fun z o e => ?_, _, _, rfl⟩
    rw [upd_ne (ne_of_none e hd)]
    exact sT _ _ (s1 _ _ e)
  · rintro σ H1 ⟨⟨g, n, hdn, hn, hA⟩, s1, y3, y4, rfl⟩
    rw [nats_len] at hn hA
    refine ⟨_, rfl, b, rfl, ⟨_, SqL.of (s1 _ _ hb)⟩, fun l nl => ?_⟩
    refine lc_list (K := K) (a := b) (xs := nats ns) (fun i H' => Same H1 H' ∧ ∃ acc, H' l = some (.lst acc) ∧ acc.length ≤ i ∧ Reps K H' acc (((ns.take i).map (apS pl ns)).map stD))
      ⟨same_new nl _, [], upd_same, Nat.le_refl _, .nil⟩ (fun i H' _ h => SqL.of ((s1.trans h.1) _ _ hb)) ?_ ?_
    · rintro i x H3 hi ⟨s3, acc, hl3, lacc, racc⟩
      have hil : i < ns.length := by
        have := (List.getElem?_eq_some_iff.mp hi).1
        rw [nats_len] at this
        exact this
      have e1 : ns[i]? = some ns[i] := List.getElem?_eq_getElem hil
      have hx3 : x = V.int (ns[i] : Nat) := by
        unfold nats at hi
        rw [List.getElem?_map, e1] at hi
        exact (Option.some.inj hi).symm
      subst hx3
      obtain ⟨c1, c2⟩ := hcl ns[i] (List.getElem_mem hil)
      have hpl : pl[ns[i]]? = some pl[ns[i]] := List.getElem?_eq_getElem c1
      obtain ⟨y, hy, ry⟩ := play_at rxs hpl
      obtain ⟨a2, m2, b2, rfl, ha2, rm2, rb2⟩ := step_inv ry
      have s13 := s1.trans s3
      have sq1 := (ha.same s13).sq
      have sq2 := (ha2.same s13).sq
      -- what the dict answers of the back
      have hk : ∃ (k : Option L2.Key) (r : V), b2 = kVN k ∧ g k = some r ∧ ∀ H', Rep K H' r (bkD ((pl[ns[i]].back).map fun j => ns.idxOf j)) := by
        by_cases h0 : ns[i] = 0
        · have e0 : pl[0]? = some pl[ns[i]] := by
            rw [← h0]
            exact hpl
          have ef := hwb.first _ e0
          rw [ef] at rb2 ⊢
          obtain ⟨rfl, _⟩ := Rep.inva (w := V.non) rb2
          exact ⟨none, .non, rfl, hA.non, fun H' => .at rfl⟩
        · obtain ⟨mv, em⟩ := hwb.at (Nat.pos_of_ne_zero h0) c1
          rw [hpl] at em
          have ef := Option.some.inj em
          rw [ef] at rb2 ⊢
          obtain ⟨rfl, _⟩ := Rep.inva (w := V.int (bk pl ns[i] : Nat)) rb2
          obtain ⟨i1, i2⟩ := idx_up up (c2.resolve_left h0)
          exact ⟨keyN (bk pl ns[i]), .int (ns.idxOf (bk pl ns[i]) : Nat), rfl, hA.has _ _ i2 i1, fun H' => .at rfl⟩
      obtain ⟨k, r, ek, gk, rr⟩ := hk
      subst ek
      refine ⟨rfl, yes_go ⟨_, rfl, _, rfl, a, xs, _, _, rfl, rfl, sq1, atI_nat hy, a2, _, 0, _, rfl, rfl, sq2, atI_nat (j := 0) rfl, ?_⟩⟩
      refine ⟨_, rfl, _, rfl, _, rfl, a, xs, _, _, rfl, rfl, sq1, atI_nat hy, a2, _, 1, _, rfl, rfl, sq2, at_one1 rfl, d, g, n, k, r, rfl, rfl, s3 _ _ hdn, gk, (by show 2 ≤ sizeLine; decide), fun t nt => ?_⟩
      have st := same_new nt (.tup [m2, r])
      have hl4 := st _ _ hl3
      have kl := kx_list hl4 (acc ++ [.ref t])
      refine ⟨acc, hl4, small6 (by omega), fun z o e => ?_, acc ++ [.ref t], upd_same, by rw [List.length_append, List.length_singleton]; omega, ?_⟩
      · rw [upd_ne (ne_of_none e nl)]
        exact st _ _ (s3 _ _ e)
      · have e3 : (((ns.take (i + 1)).map (apS pl ns)).map stD) = (((ns.take i).map (apS pl ns)).map stD) ++ [stD (apS pl ns ns[i])] := by
          rw [List.take_add_one, e1, List.map_append, List.map_append]
          rfl
        rw [e3]
        refine (racc.mono ((kx_same st).trans kl)).append (.one (.tup (xs := [m2, r]) (.inl (kl.t _ _ upd_same)) (.cons ?_ (.one ?_))))
        · have e4 : (apS pl ns ns[i]).mv = pl[ns[i]].mv := by
            unfold apS
            rw [hpl]
            rfl
          rw [e4]
          exact (rm2.mono (kx_same (s13.trans st))).mono kl
        · have e5 : (apS pl ns ns[i]).back = (pl[ns[i]].back).map fun j => ns.idxOf j := by
            unfold apS
            rw [hpl]
            rfl
          rw [e5]
          exact rr _
    · rintro H3 ⟨s3, acc, hl3, lacc, racc⟩
      rw [nats_len, List.take_length] at racc
      refine ⟨l, _, rfl, .inl ⟨SqL.of hl3, fun t nt => ?_⟩⟩
      have st := same_new nt (.tup acc)
      exact q _ _ (s1.trans (s3.trans st)) (.tup' upd_same (racc.mono (kx_same st)))
end
end Pk

set_option maxRecDepth 100000
set_option maxHeartbeats 4000000
set_option pp.maxSteps 600
namespace Pk
open PySem PySem.Spec PyProof.Rows L2
/-! ### threads and arguments -/
theorem thrF_n (pl : List Stp) (n : Nat) : ∀ j, n ∈ thrF pl n j
  | 0 => List.mem_singleton.mpr rfl
  | j + 1 => List.mem_append_left _ (thrF_n pl n j)
theorem thrF_mem {pl : List Stp} (hw : WB pl) (n : Nat) : ∀ j, n + j < pl.length → ∀ m, m ∈ thrF pl n j ↔ m = n ∨ (n < m ∧ m ≤ n + j ∧ bk pl m ∈ thrF pl n j)
  | 0, _, m => by
    constructor
    · intro h
      exact .inl (List.mem_singleton.mp h)
    · rintro (h | ⟨h1, h2, _⟩)
      · exact List.mem_singleton.mpr h
      · omega
  | j + 1, hj, m => by
    have ih := thrF_mem hw n j (by omega)
    have e : ∀ x, x ∈ thrF pl n (j + 1) ↔ x ∈ thrF pl n j ∨ (x = n + 1 + j ∧ bk pl (n + 1 + j) ∈ thrF pl n j) := by
      intro x
      rw [show thrF pl n (j + 1) = thrF pl n j ++ (if bk pl (n + 1 + j) ∈ thrF pl n j then [n + 1 + j] else []) from rfl, List.mem_append]
      by_cases hb : bk pl (n + 1 + j) ∈ thrF pl n j
      · rw [if_pos hb, List.mem_singleton]
        constructor
        · rintro (h | h)
          · exact .inl h
          · exact .inr ⟨h, hb⟩
        · rintro (h | h)
          · exact .inl h
          · exact .inr h.1
      · rw [if_neg hb]
        constructor
        · rintro (h | h)
          · exact .inl h
          · cases h
        · rintro (h | h)
          · exact .inl h
          · exact absurd h.2 hb
    have old : ∀ x, x ≤ n + j → (x ∈ thrF pl n (j + 1) ↔ x ∈ thrF pl n j) := fun x hx => by
      rw [e x]
      constructor
      · rintro (h | h)
        · exact h
        · omega
      · intro h
        exact .inl h
    constructor
    · intro h
      rcases (e m).mp h with h | ⟨h1, h2⟩
      · rcases (ih m).mp h with h | ⟨a, b, c⟩
        · exact .inl h
        · exact .inr ⟨a, by omega, (e _).mpr (.inl c)⟩
      · exact .inr ⟨by omega, by omega, (e _).mpr (.inl (h1 ▸ h2))⟩
    · rintro (h | ⟨a, b, c⟩)
      · rw [h]
        exact thrF_n pl n _
      · have hlt := hw.bk_lt (n := m) (by omega) (by omega)
        have c' := (old _ (by omega)).mp c
        by_cases hm : m ≤ n + j
        · exact (e m).mpr (.inl ((ih m).mpr (.inr ⟨a, hm, c'⟩)))
        · have em : m = n + 1 + j := by omega
          exact (e m).mpr (.inr ⟨em, em ▸ c'⟩)
theorem thr_mem {pl : List Stp} (hw : WB pl) {n : Nat} (hn : n < pl.length) (m : Nat) : m ∈ thr pl n ↔ m = n ∨ (n < m ∧ m < pl.length ∧ bk pl m ∈ thr pl n) := by
  have := thrF_mem hw n (pl.length - (n + 1)) (by omega) m
  unfold thr
  rw [this]
  constructor
  · rintro (h | ⟨a, b, c⟩)
    · exact .inl h
    · exact .inr ⟨a, by omega, c⟩
  · rintro (h | ⟨a, b, c⟩)
    · exact .inl h
    · exact .inr ⟨a, by omega, c⟩
def arg (pl : List Stp) (m : Nat) : Option Nat := match pl[m]? with
  | some s => argO pl s
  | none => none
theorem arg_ask {pl : List Stp} {m : Nat} {q : List Nat} {b : Option Nat} (h : pl[m]? = some ⟨.ask q, b⟩) : arg pl m = q.head? := by
  unfold arg
  rw [h]
  rfl
theorem arg_zero {pl : List Stp} (hw : WB pl) (h : 0 < pl.length) : arg pl 0 = none := by
  have e : pl[0]? = some pl[0] := List.getElem?_eq_getElem h
  have := hw.first _ e
  rw [this] at e
  exact arg_ask e
theorem arg_step {kd : D} {pl : List Stp} (h : LW kd pl) {m : Nat} (h0 : 0 < m) (hm : m < pl.length) : ∃ q b, pl[bk pl m]? = some ⟨.ask q, b⟩ ∧ ((∃ kk b', pl[m]? = some ⟨.ask (q ++ [kk]), b'⟩ ∧ arg pl m = (q ++ [kk]).head?) ∨ (∃ u b', pl[m]? = some ⟨.say u, b'⟩ ∧ arg pl m = q.head?)) := by
  obtain ⟨mv, em⟩ := h.lp.wb.at h0 hm
  cases mv with
  | ask p =>
    obtain ⟨q, b', kk, e1, e2⟩ := h.dl m p _ h0 em
    subst e2
    exact ⟨q, b', e1, .inl ⟨kk, _, em, arg_ask em⟩⟩
  | say u =>
    obtain ⟨p, b, e1⟩ := h.tg m h0 hm
    refine ⟨p, b, e1, .inr ⟨u, _, em, ?_⟩⟩
    unfold arg
    rw [em]
    show ((askPl pl (bk pl m)).getD []).head? = p.head?
    rw [askPl_of e1]
    rfl
theorem root_zero {kd : D} {pl : List Stp} (h : LW kd pl) {m : Nat} {b : Option Nat} (e : pl[m]? = some ⟨.ask [], b⟩) : m = 0 := by
  rcases Nat.eq_zero_or_pos m with h0 | h0
  · exact h0
  · obtain ⟨q, b', kk, _, e2⟩ := h.dl m [] _ h0 e
    have := congrArg List.length e2
    rw [List.length_append] at this
    simp at this
def Start (pl : List Stp) (k n : Nat) : Prop := 0 < n ∧ ∃ b, pl[n]? = some ⟨.ask [k], b⟩
theorem Start.lt {pl : List Stp} {k n : Nat} (h : Start pl k n) : n < pl.length := let ⟨_, _, e⟩ := h; (List.getElem?_eq_some_iff.mp e).1
theorem start_bk {kd : D} {pl : List Stp} (h : LW kd pl) {k n : Nat} (s : Start pl k n) : bk pl n = 0 := by
  obtain ⟨h0, b, e⟩ := s
  obtain ⟨q, b', kk, e1, e2⟩ := h.dl n [k] _ h0 e
  have hq : q = [] := by
    cases q with
    | nil => rfl
    | cons a r =>
      have := congrArg List.length e2
      rw [List.length_append] at this
      simp at this
  subst hq
  exact root_zero h e1
theorem arg_thr {kd : D} {pl : List Stp} (h : LW kd pl) (k : Nat) : ∀ m, m < pl.length → (arg pl m = some k ↔ ∃ n, Start pl k n ∧ m ∈ thr pl n) := by
  intro m
  induction m using Nat.strongRecOn with
  | ind m ih =>
    intro hm
    rcases Nat.eq_zero_or_pos m with h0 | h0
    · subst h0
      rw [arg_zero h.lp.wb hm]
      constructor
      · intro z
        cases z
      · rintro ⟨n, s, hn⟩
        have := (thrF_up pl n _).2.1 0 hn
        have := s.1
        omega
    · have hlt := h.lp.wb.bk_lt h0 hm
      obtain ⟨q, b, e1, e2⟩ := arg_step h h0 hm
      have ihb := ih (bk pl m) hlt (by omega)
      have earg := arg_ask e1
      have same : q ≠ [] → arg pl m = arg pl (bk pl m) := fun hq => by
        obtain ⟨a, r, rfl⟩ := List.exists_cons_of_ne_nil hq
        rcases e2 with ⟨kk, b', _, e3⟩ | ⟨u, b', _, e3⟩
        · rw [e3, earg]
          rfl
        · rw [e3, earg]
      constructor
      · intro ha
        by_cases hq : q = []
        · subst hq
          rcases e2 with ⟨kk, b', e4, e3⟩ | ⟨u, b', _, e3⟩
          · rw [e3] at ha
            have : kk = k := Option.some.inj ha
            subst this
            exact ⟨m, ⟨h0, b', e4⟩, (thr_mem h.lp.wb hm m).mpr (.inl rfl)⟩
          · rw [e3] at ha
            cases ha
        · rw [same hq] at ha
          obtain ⟨n, s, hn⟩ := ihb.mp ha
          have := (thrF_up pl n _).2.1 _ hn
          exact ⟨n, s, (thr_mem h.lp.wb s.lt m).mpr (.inr ⟨by omega, hm, hn⟩)⟩
      · rintro ⟨n, s, hn⟩
        rcases (thr_mem h.lp.wb s.lt m).mp hn with e | ⟨a, _, c⟩
        · subst e
          obtain ⟨_, b', e4⟩ := s
          rw [arg_ask e4]
          rfl
        · have ha := ihb.mpr ⟨n, s, c⟩
          have hq : q ≠ [] := fun z => by
            rw [z] at earg
            rw [earg] at ha
            cases ha
          rw [same hq]
          exact ha
/-- the numbers that are in no thread of the argument k -/
def outK (pl : List Stp) (k : Nat) : List Nat := (List.range pl.length).filter fun m => !decide (arg pl m = some k)
theorem outK_up (pl : List Stp) (k : Nat) : (outK pl k).Pairwise (· < ·) := (List.pairwise_lt_range).filter _
theorem outK_mem {pl : List Stp} {k m : Nat} : m ∈ outK pl k ↔ m < pl.length ∧ arg pl m ≠ some k := by
  unfold outK
  rw [List.mem_filter, List.mem_range, Bool.not_eq_true', decide_eq_false_iff_not]
theorem outK_cl {kd : D} {pl : List Stp} (h : LW kd pl) (k : Nat) : Cl pl (outK pl k) := by
  intro m hm
  obtain ⟨h1, h2⟩ := outK_mem.mp hm
  refine ⟨h1, ?_⟩
  rcases Nat.eq_zero_or_pos m with h0 | h0
  · exact .inl h0
  · have hlt := h.lp.wb.bk_lt h0 h1
    refine .inr (outK_mem.mpr ⟨by omega, fun ha => h2 ?_⟩)
    obtain ⟨q, b, e1, e2⟩ := arg_step h h0 h1
    have earg := arg_ask e1
    cases q with
    | nil => rw [earg] at ha; cases ha
    | cons a r =>
      rw [earg] at ha
      rcases e2 with ⟨kk, b', _, e3⟩ | ⟨u, b', _, e3⟩
      · rw [e3]
        exact ha
      · rw [e3]
        exact ha
/-- a thread, with the step 0 -/
theorem thr0_cl {kd : D} {pl : List Stp} (h : LW kd pl) {k n : Nat} (s : Start pl k n) : Cl pl (0 :: thr pl n) ∧ (0 :: thr pl n).Pairwise (· < ·) := by
  have up := thrF_up pl n (pl.length - (n + 1))
  refine ⟨fun m hm => ?_, List.pairwise_cons.mpr ⟨fun m hm => ?_, up.1⟩⟩
  · rcases List.mem_cons.mp hm with e | hm
    · subst e
      exact ⟨Nat.lt_trans s.1 s.lt, .inl rfl⟩
    · rcases (thr_mem h.lp.wb s.lt m).mp hm with e | ⟨a, b, c⟩
      · subst e
        exact ⟨s.lt, .inr (by rw [start_bk h s]; exact List.mem_cons_self ..)⟩
      · exact ⟨b, .inr (List.mem_cons_of_mem _ c)⟩
  · have := up.2.1 m hm
    have := s.1
    omega
theorem thr_cons (pl : List Stp) (n : Nat) : ∃ r, thr pl n = n :: r := by
  unfold thr
  have : ∀ j, ∃ r, thrF pl n j = n :: r := fun j => by
    induction j with
    | zero => exact ⟨[], rfl⟩
    | succ j ih =>
      obtain ⟨r, e⟩ := ih
      refine ⟨r ++ (if bk pl (n + 1 + j) ∈ thrF pl n j then [n + 1 + j] else []), ?_⟩
      show thrF pl n j ++ _ = _
      rw [e]
      rfl
  exact this _
/-- a thread as a play of its own, as the statement tells it -/
def toldS (pl : List Stp) (ns : List Nat) (m : Nat) : Stp := ⟨tailM (((pl[m]?).map Stp.mv).getD (.say 0)), if some m = ns.head? then none else some (ns.idxOf (bk pl m))⟩
theorem told_eq {kd : D} {pl : List Stp} (h : LW kd pl) {k n : Nat} (s : Start pl k n) : fromW (apart pl (0 :: thr pl n)) = (thr pl n).map (toldS pl (thr pl n)) := by
  obtain ⟨r, er⟩ := thr_cons pl n
  have up := thrF_up pl n (pl.length - (n + 1))
  have hmem := fun m => thr_mem h.lp.wb s.lt m
  have hup : (thr pl n).Pairwise (· < ·) := up.1
  obtain ⟨h0, b, e⟩ := id s
  unfold fromW apart
  rw [er] at hup hmem ⊢
  rw [List.pairwise_cons] at hup
  show BEG :: (r.map (apS pl (0 :: n :: r))).map fwS = toldS pl (n :: r) n :: r.map (toldS pl (n :: r))
  have e1 : toldS pl (n :: r) n = BEG := by
    unfold toldS
    rw [e]
    show (⟨tailM (.ask [k]), if some n = some n then none else _⟩ : Stp) = BEG
    rw [if_pos rfl]
    rfl
  rw [e1, List.map_map]
  congr 1
  refine List.map_congr_left fun m hm => ?_
  have hnm := hup.1 m hm
  have hml : m < pl.length := by
    rcases (hmem m).mp (List.mem_cons_of_mem _ hm) with e | ⟨_, b, _⟩
    · omega
    · exact b
  have hbm : bk pl m ∈ n :: r := by
    rcases (hmem m).mp (List.mem_cons_of_mem _ hm) with e | ⟨_, _, c⟩
    · omega
    · exact c
  have hb0 : bk pl m ≠ 0 := fun z => by
    have : ∀ x ∈ n :: r, n ≤ x := fun x hx => by
      rcases List.mem_cons.mp hx with e | hx
      · omega
      · exact Nat.le_of_lt (hup.1 x hx)
    have := this _ hbm
    omega
  obtain ⟨mv, em⟩ := h.lp.wb.at (Nat.lt_trans h0 hnm) hml
  show fwS (apS pl (0 :: n :: r) m) = toldS pl (n :: r) m
  unfold fwS apS toldS
  rw [em]
  show (⟨tailM mv, some ((0 :: n :: r).idxOf (bk pl m) - 1)⟩ : Stp) = ⟨tailM mv, if some m = some n then none else some ((n :: r).idxOf (bk pl m))⟩
  rw [if_neg (fun z => by have := Option.some.inj z; omega)]
  have ei : (0 :: n :: r).idxOf (bk pl m) = (n :: r).idxOf (bk pl m) + 1 := by
    rw [List.idxOf_cons]
    rw [show ((0 : Nat) == bk pl m) = false from beq_eq_false_iff_ne.mpr (Ne.symm hb0)]
    rfl
  rw [ei]
  rfl
theorem drop_back {kd : D} {pl : List Stp} (h : LW kd pl) {k n : Nat} (s : Start pl k n) : ∀ x ∈ (apart pl (0 :: thr pl n)).drop 2, ∃ j, x.back = some j ∧ 1 ≤ j := by
  obtain ⟨r, er⟩ := thr_cons pl n
  have up := thrF_up pl n (pl.length - (n + 1))
  have hmem := fun m => thr_mem h.lp.wb s.lt m
  have hup : (thr pl n).Pairwise (· < ·) := up.1
  intro x hx
  unfold apart at hx
  rw [er] at hx hup hmem
  rw [List.pairwise_cons] at hup
  have hx : x ∈ r.map (apS pl (0 :: n :: r)) := hx
  obtain ⟨m, hm, rfl⟩ := List.mem_map.mp hx
  have hnm := hup.1 m hm
  have h0 := s.1
  have hml : m < pl.length ∧ bk pl m ∈ n :: r := by
    rcases (hmem m).mp (List.mem_cons_of_mem _ hm) with e | ⟨_, b, c⟩
    · omega
    · exact ⟨b, c⟩
  have hb0 : bk pl m ≠ 0 := fun z => by
    have : ∀ x ∈ n :: r, n ≤ x := fun x hx => by
      rcases List.mem_cons.mp hx with e | hx
      · omega
      · exact Nat.le_of_lt (hup.1 x hx)
    have := this _ hml.2
    omega
  obtain ⟨mv, em⟩ := h.lp.wb.at (Nat.lt_trans h0 hnm) hml.1
  refine ⟨(0 :: n :: r).idxOf (bk pl m), ?_, ?_⟩
  · unfold apS
    rw [em]
    rfl
  · rw [List.idxOf_cons]
    rw [show ((0 : Nat) == bk pl m) = false from beq_eq_false_iff_ne.mpr (Ne.symm hb0)]
    exact Nat.le_add_left ..
end Pk

set_option maxRecDepth 100000
set_option maxHeartbeats 4000000
set_option pp.maxSteps 600
namespace Pk
open PySem PySem.Spec PyProof.Rows L2
open LamX
/-! ### told_alone, seen -/
section
variable {P : Program} {w : World} {K : PySem.W.Frag} {mg : Str → Option Value} {base : Heap} {T : List (Addr × Str)}
def tolds (pl : List Stp) (n : Nat) : List Stp := (thr pl n).map (toldS pl (thr pl n))
def spTo (K : PySem.W.Frag) (T : List (Addr × Str)) : Sp := fun vs H Q _ => ∃ (v : V) (kd : D) (pl : List Stp) (k n : Nat), vs = [v, .int (n : Nat)] ∧ Rep K H v (playD pl) ∧ LW kd pl ∧ Start pl k n ∧ pl.length ≤ 39 ∧ Tabs T H ∧ ∀ z H', ExtN H H' → Tabs T H' → Rep K H' z (playD (tolds pl n)) → Q z H'
theorem ok_to {f f1 f2 f3 : Addr} {fd d1 d2 d3 : FuncData} (D_told_alone : Df K mg "told_alone" s_told_alone ["play", "n"] f fd) (D__from_within : Df K mg "_from_within" s__from_within ["play"] f1 d1) (D_alone : Df K mg "alone" s_alone ["play", "numbers"] f2 d2) (D_thread : Df K mg "thread" s_thread ["play", "n"] f3 d3) (B : Bt mg)
    (G__from_within : FnOk P w K mg base CX0 4 f1 d1 ["play"] (spFw K T)) : FnOk P w K mg base CX0 5 f fd ["play", "n"] (spTo K T) := by
  have G_alone : FnOk P w K mg base CX0 1 f2 d2 ["play", "numbers"] (spAl K) := ok_al D_alone B
  have G_thread : FnOk P w K mg base CX0 1 f3 d3 ["play", "n"] (spThr K) := ok_thr D_thread B
  refine D_told_alone.ok c_told_alone (fun vs H Q E h => ?_) (fun cdv A outer s0 H vs Q E hr h => ?_)
  · obtain ⟨v, kd, pl, k, n, rfl, _⟩ := h
    rfl
  obtain ⟨v, kd, pl, k, n, rfl, rv, hLW, hst, hl, hT, q⟩ := h
  have nd := c_told_alone.nd
  refine ⟨_, (pss_one (ps_ret (pe_call G__from_within (hr.mono (by first | decide | omega)) (by rfl) D__from_within.m D__from_within.kp D__from_within.b .nil pass0 (pa_cons (pe_call G_alone (hr.mono (by first | decide | omega)) (by rfl) D_alone.m D_alone.kp D_alone.b .nil pass0 (pa_cons (pv 0) (pa_cons (pe_op op_catP (pe_tup (pa_cons pe_int pa_nil)) (pe_call G_thread (hr.mono (by first | decide | omega)) (by rfl) D_thread.m D_thread.kp D_thread.b .nil pass0 (pa_cons (pv 0) (pa_cons (pv 1) pa_nil)))) pa_nil))) pa_nil)))), ?_⟩
  have up := thrF_up pl n (pl.length - (n + 1))
  have hlt := hst.lt
  have h0 := hst.1
  obtain ⟨hcl, hup⟩ := thr0_cl hLW hst
  have hlen : (thr pl n).length ≤ pl.length - (n + 1) + 1 := up.2.2
  refine ⟨_, rfl, (by show 1 ≤ sizeLine; decide), fun t nt => ?_⟩
  have sT := same_new nt (.tup [V.int 0])
  refine ⟨_, rfl, _, rfl, v, pl, n, rfl, rv.mono (kx_same sT), hLW.lp.wb, hlt, hl, fun z H2 s2 rz => ?_⟩
  obtain ⟨za, rfl, hza⟩ := pl_inv rz
  refine ⟨t, za, _, _, rfl, rfl, .inl (s2 _ _ upd_same), hza, small6' (by rw [nats_len]; show 1 + _ ≤ _; omega), fun c H3 s3 hc => ?_⟩
  have s13 := (sT.trans s2).trans s3
  have hc : TupAt K H3 c (nats (0 :: thr pl n)) := hc
  refine ⟨v, .ref c, pl, 0 :: thr pl n, rfl, rv.mono (kx_same s13), pl_rep hc, hLW.lp.wb, hcl, hup, by show (thr pl n).length + 1 ≤ 500; omega, fun z' H4 s4 rz' => ?_⟩
  have s14 := s13.trans s4
  refine ⟨z', apart pl (0 :: thr pl n), rfl, rz', drop_back hLW hst, ?_, hT.ext (fun b o e => s14 _ _ e), fun z'' H5 e5 T5 rz'' => q _ _ ((extN_of s14).trans e5) T5 ?_⟩
  · unfold apart
    rw [List.length_map]
    show (thr pl n).length + 1 ≤ 39
    omega
  · rw [told_eq hLW hst] at rz''
    exact rz''
def lowS (k : Nat) (s : Stp) : Stp := ⟨lowM k s.mv, s.back⟩
def seenP (pl : List Stp) (k : Nat) : List Stp := (apart pl (outK pl k)).map (lowS k)
theorem vN_eq (o : Option Nat) (k : Nat) : decide (vN o = V.int (k : Nat)) = decide (o = some k) := by
  cases o with
  | none => rfl
  | some j =>
    refine decide_eq_decide.mpr ⟨fun e => ?_, fun e => ?_⟩
    · have : (j : Int) = (k : Int) := V.int.inj e
      have : j = k := by omega
      rw [this]
    · rw [Option.some.inj e]
      rfl
def spSeen (K : PySem.W.Frag) (T : List (Addr × Str)) : Sp := fun vs H Q _ => ∃ (v : V) (kd : D) (pl : List Stp) (k : Nat), vs = [v, .int (k : Nat)] ∧ Rep K H v (playD pl) ∧ LW kd pl ∧ sz kd ≤ 60 ∧ pl.length ≤ 39 ∧ Tabs T H ∧ ∀ z H', ExtN H H' → Tabs T H' → Rep K H' z (playD (seenP pl k)) → Q z H'
theorem ok_seen {f f1 f2 f3 : Addr} {fd d1 d2 d3 : FuncData} (D_seen : Df K mg "seen" s_seen ["talk", "k"] f fd) (D__without_argument : Df K mg "_without_argument" s__without_argument ["move", "k"] f1 d1) (D_alone : Df K mg "alone" s_alone ["play", "numbers"] f2 d2) (D__argument_of : Df K mg "_argument_of" s__argument_of ["play", "step"] f3 d3) (B : Bt mg)
    (G__without_argument : FnOk P w K mg base CX0 4 f1 d1 ["move", "k"] (spWo K T)) : FnOk P w K mg base CX0 5 f fd ["talk", "k"] (spSeen K T) := by
  have G_alone : FnOk P w K mg base CX0 1 f2 d2 ["play", "numbers"] (spAlL K) := ok_alL D_alone B
  have G__argument_of : FnOk P w K mg base CX0 1 f3 d3 ["play", "step"] (spArg K) := ok_arg D__argument_of B
  refine D_seen.ok c_seen (fun vs H Q E h => ?_) (fun cdv A outer s0 H vs Q E hr h => ?_)
  · obtain ⟨v, kd, pl, k, rfl, _⟩ := h
    rfl
  obtain ⟨v, kd, pl, k, rfl, rv, hLW, hsz, hl, hT, q⟩ := h
  have nd := c_seen.nd
  refine ⟨_, (pss_cons (ps_setLc (i := 2) (own := [("number", 3), ("step", 4)]) (g := (gTup K 2 (gCons (gName 3) (gCons (gName 4) gNil)))) (tt := _) rfl nd rfl rfl (sw_true rfl rfl rfl (by decide +kernel)) (pi_enumT (by rfl) B.b_enumerate (pa_cons (pv 0) pa_nil)) (blkOk_by (own := [("number", 3), ("step", 4)]) (N := ["talk", "k", "numbers", "number", "step", "move", "back"]) (sc := defScope s_seen) (by decide +kernel)) (fun _ _ _ _ _ => (pg_tup rfl (pgs_cons (pg_name (i := 3) nd rfl (Or.inl rfl)) (pgs_cons (pg_name (i := 4) nd rfl (Or.inl rfl)) pgs_nil)))) (fun _ _ _ _ _ => (pts_one (pt_cmpR op_ne (pe_call G__argument_of (hr.mono (by first | decide | omega)) (by rfl) D__argument_of.m D__argument_of.kp D__argument_of.b .nil pass0 (pa_cons (pv 0) (pa_cons (pv 4) pa_nil))) (pv 1) (nomark _)))) (fun _ _ _ _ _ => (pv 3)))
  (pss_one (ps_ret (pe_callTy call_tuple_of (by rfl) B.b_tuple (by decide +kernel) (pa_cons (pe_lc (own := [("move", 5), ("back", 6)]) (g := (gTup K 2 (gCons (gName 5) (gCons (gName 6) gNil)))) (tt := tYes) rfl nd (pi_tup (pe_call G_alone (hr.mono (by first | decide | omega)) (by rfl) D_alone.m D_alone.kp D_alone.b .nil pass0 (pa_cons (pv 0) (pa_cons (pv 2) pa_nil)))) (blkOk_by (own := [("move", 5), ("back", 6)]) (N := ["talk", "k", "numbers", "number", "step", "move", "back"]) (sc := defScope s_seen) (by decide +kernel)) (fun _ _ _ _ _ => (pg_tup rfl (pgs_cons (pg_name (i := 5) nd rfl (Or.inl rfl)) (pgs_cons (pg_name (i := 6) nd rfl (Or.inl rfl)) pgs_nil)))) (fun _ _ _ _ _ => pts_nil) (fun _ _ _ _ _ => (pe_tup (pa_cons (pe_call G__without_argument (hr.mono (by first | decide | omega)) (by rfl) D__without_argument.m D__without_argument.kp D__without_argument.b .nil pass0 (pa_cons (pv 5) (pa_cons (pv 1) pa_nil))) (pa_cons (pv 6) pa_nil))))) pa_nil))))), ?_⟩
  obtain ⟨a, xs, rfl, ha, rxs, lx⟩ := play_inv rv
  have rv : Rep K H (.ref a) (playD pl) := .tup ha rxs
  refine seq_rest (fun σ' H' => ∃ (l : Addr), σ' = [some (.ref a), some (.int (k : Nat)), some (.ref l), none, none, none, none] ∧ Same H H' ∧ H' l = some (.lst (nats (outK pl k)))) (fun rest => ?_) ?_
  · refine ⟨_, rfl, a, _, rfl, ha.sq, fun d nd' => ?_⟩
    refine lc_it walk_enumT (fun i H' => Same H H' ∧ H' d = some (.lst (nats ((List.range i).filter fun m => !decide (arg pl m = some k))))) ⟨same_new nd' _, upd_same⟩ (fun i H' _ h => (ha.same h.1).sq) ?_ ?_
    · rintro i x H2 H2' hi ⟨s2, hd⟩ ⟨T', x1, y1, rfl, nT, rfl, hx1, hy1⟩
      have hx2 : V.int (i : Nat) = x1 := Option.some.inj hx1
      subst hx2
      have hy2 : xs[i]? = some y1 := hy1
      obtain ⟨dd, hdd, rs⟩ := rxs.get hy2
      rw [List.getElem?_map] at hdd
      obtain ⟨st, hst, rfl⟩ := Option.map_eq_some_iff.mp hdd
      have hil := (List.getElem?_eq_some_iff.mp hst).1
      have sT := same_new nT (.tup [V.int (i : Nat), y1])
      have s2T := s2.trans sT
      have hdT := sT _ _ hd
      have earg : arg pl i = argO pl st := by
        unfold arg
        rw [hst]
      refine ⟨T', _, rfl, SqT.of upd_same, rfl, _, _, rfl, _, _, rfl, rfl, rfl, ?_⟩
      refine ⟨_, rfl, _, rfl, .ref a, y1, pl, st, rfl, rv.mono (kx_same s2T), rs.mono (kx_same s2T), fun u hu => ?_, fun H4 s4 => ⟨_, rfl, by cases argO pl st <;> rfl, _, rfl, ?_⟩⟩
      · rcases Nat.eq_zero_or_pos i with h0 | h0
        · subst h0
          rw [hLW.lp.wb.first st hst] at hu
          cases hu
        · obtain ⟨mv, em⟩ := hLW.lp.wb.at h0 hil
          rw [hst] at em
          obtain ⟨p, b, e1⟩ := hLW.tg i h0 hil
          exact ⟨_, p, b, by rw [Option.some.inj em], e1⟩
      · have hd4 := s4 _ _ hdT
        have er : (List.range (i + 1)).filter (fun m => !decide (arg pl m = some k)) = (List.range i).filter (fun m => !decide (arg pl m = some k)) ++ (if argO pl st = some k then [] else [i]) := by
          rw [List.range_succ, List.filter_append]
          congr 1
          show List.filter _ [i] = _
          rw [List.filter_cons, earg]
          by_cases h : argO pl st = some k
          · rw [decide_eq_true h, if_pos h]
            rfl
          · rw [decide_eq_false h, if_neg h]
            rfl
        rw [vN_eq, er]
        by_cases h : argO pl st = some k
        · rw [decide_eq_true h, if_pos h, List.append_nil]
          exact iteF ⟨s2T.trans s4, hd4⟩
        · rw [decide_eq_false h, if_neg h]
          have hlen := List.length_filter_le (fun m => !decide (arg pl m = some k)) (List.range i)
          rw [List.length_range] at hlen
          refine iteT ⟨_, rfl, _, hd4, small6 (by rw [nats_len]; omega), fun u w' e => ?_, ?_⟩
          · rw [upd_ne (ne_of_none e nd')]
            exact (s2T.trans s4) _ _ e
          · rw [upd_same, nats_snoc]
    · rintro H1 ⟨s1, hd⟩
      rw [lx] at hd
      exact rest _ _ ⟨d, rfl, s1, hd⟩
  rintro σ' H1 ⟨l, rfl, s1, hl1⟩
  have hlo : (outK pl k).length ≤ pl.length := by
    have := List.length_filter_le (fun m => !decide (arg pl m = some k)) (List.range pl.length)
    rw [List.length_range] at this
    exact this
  refine ⟨_, rfl, _, rfl, .ref a, l, pl, outK pl k, rfl, rv.mono (kx_same s1), hl1, hLW.lp.wb, outK_cl hLW k, outK_up pl k, by omega, fun z H2 s2 rz => ?_⟩
  obtain ⟨za, zs, rfl, hza, rzs, lz⟩ := play_inv rz
  have s12 := s1.trans s2
  have T2 : Tabs T H2 := hT.ext fun b o e => s12 _ _ e
  have lap : (apart pl (outK pl k)).length = (outK pl k).length := List.length_map _
  refine ⟨za, rfl, ⟨_, hza.sq⟩, fun d nd' => ?_⟩
  refine lc_tup (K := K) (a := za) (xs := zs) (fun i H' => ExtN H2 H' ∧ Tabs T H' ∧ ∃ acc, H' d = some (.lst acc) ∧ acc.length ≤ i ∧ Reps K H' acc ((((apart pl (outK pl k)).take i).map (lowS k)).map stD))
    ⟨extN_of (same_new nd' _), T2.ext (fun b o e => same_new nd' _ _ _ e), [], upd_same, Nat.le_refl _, .nil⟩ (fun i H' _ h => (hza.kx (extN_kx h.1)).sq) ?_ ?_
  · rintro i x H3 hi ⟨e3, T3, acc, hd, lacc, racc⟩
    obtain ⟨dd, hdd, rx⟩ := rzs.get hi
    rw [List.getElem?_map] at hdd
    obtain ⟨st, hst, rfl⟩ := Option.map_eq_some_iff.mp hdd
    have hil := (List.getElem?_eq_some_iff.mp hst).1
    obtain ⟨m, hm, rfl⟩ := List.mem_map.mp (List.mem_of_getElem? hst)
    obtain ⟨hm1, hm2⟩ := outK_mem.mp hm
    have epm : pl[m]? = some pl[m] := List.getElem?_eq_getElem hm1
    have emv : (apS pl (outK pl k) m).mv = pl[m].mv := by
      unfold apS
      rw [epm]
      rfl
    obtain ⟨sa, mv, bv, rfl, hsa, rm, rb⟩ := step_inv rx
    have k3 := extN_kx e3
    refine ⟨sa, _, rfl, (hsa.kx k3).sq, rfl, _, _, rfl, _, _, rfl, rfl, rfl, yes_go ⟨_, rfl, _, rfl, mv, (apS pl (outK pl k) m).mv, k, rfl, rm.mono k3, fun a r e => ?_, fun p e => ?_, T3, fun z H4 e4 T4 rz4 => ⟨_, rfl, (by show 2 ≤ sizeLine; decide), fun t nt => ?_⟩⟩⟩
    · rw [emv] at e
      have : arg pl m = some a := by
        unfold arg
        rw [epm]
        show (plcO pl pl[m]).head? = some a
        unfold plcO
        rw [e]
        rfl
      intro z
      rw [this, z] at hm2
      exact hm2 rfl
    · rw [emv] at e
      have ep : pl[m]? = some ⟨.ask p, pl[m].back⟩ := by
        rw [epm, ← e]
      obtain ⟨e', he'⟩ := hLW.lp.pa m p _ ep
      have := atD_len p kd e' he'
      omega
    · have sT := same_new nt (.tup [z, bv])
      have hd4 := extN_lst e4 hd
      have hd5 := sT _ _ hd4
      have T5 : Tabs T (upd H4 t (.tup [z, bv])) := T4.ext fun b o e => sT _ _ e
      have kl := kx_list hd5 (acc ++ [.ref t])
      have k45 := ((extN_kx e4).trans (kx_same sT)).trans kl
      refine ⟨acc, hd5, small6 (by omega), extN_put ((e3.trans e4).trans (extN_of sT)) nd', tabs_put T5 hd5, acc ++ [.ref t], upd_same, by rw [List.length_append, List.length_singleton]; omega, ?_⟩
      rw [List.take_add_one, hst, List.map_append, List.map_append]
      exact (racc.mono k45).append (.one (.tup (xs := [z, bv]) (.inl (kl.t _ _ upd_same)) (.cons ((rz4.mono (kx_same sT)).mono kl) (.one ((rb.mono k3).mono k45)))))
  · rintro H3 ⟨e3, T3, acc, hd, lacc, racc⟩
    rw [lz, List.take_length] at racc
    refine ⟨d, acc, rfl, .inl ⟨SqL.of hd, fun t nt => ?_⟩⟩
    have sT := same_new nt (.tup acc)
    exact q _ _ (((extN_of s12).trans e3).trans (extN_of sT)) (T3.ext fun b o e => sT _ _ e) (.tup' upd_same (racc.mono (kx_same sT)))
end
end Pk

set_option maxRecDepth 100000
set_option maxHeartbeats 4000000
set_option pp.maxSteps 600
namespace Pk
open PySem PySem.Spec PyProof.Rows L2
/-! ### _law_thread, _law_told, _law_lower -/
section
variable {P : Program} {w : World} {K : PySem.W.Frag} {mg : Str → Option Value} {base : Heap}
def spLth (K : PySem.W.Frag) : Sp := fun vs H Q _ => ∃ (v : V) (pl : List Stp) (n : Nat), vs = [v, .int (n : Nat)] ∧ Rep K H v (playD pl) ∧ WB pl ∧ n < pl.length ∧ pl.length ≤ 39 ∧ ∀ l H', Nw l H H' (nats (thr pl n)) → Q (.ref l) H'
theorem ok_lth {f : Addr} {fd : FuncData} (D__law_thread : Df K mg "_law_thread" s__law_thread ["play", "n"] f fd) (B : Bt mg) : FnOk P w K mg base CX0 1 f fd ["play", "n"] (spLth K) := by
  refine D__law_thread.ok c__law_thread (fun vs H Q E h => ?_) (fun cdv A outer s H vs Q E hr h => ?_)
  · obtain ⟨v, pl, n, rfl, _⟩ := h
    rfl
  obtain ⟨v, pl, n, rfl, rv, hwb, hn, hl, q⟩ := h
  have nd := c__law_thread.nd
  refine ⟨_, (pss_cons (ps_set (i := 2) nd rfl (Or.inl rfl) (pe_lst (pa_cons (pv 1) pa_nil)))
  (pss_cons (ps_for PassesOwn.never rfl (pi_range2 (by rfl) B.b_range (pa_cons (pe_op op_add (pv 1) pe_int) (pa_cons (pe_callB call_len_seq (by rfl) B.b_len PySem.boot_len (pa_cons (pv 0) pa_nil)) pa_nil))) (pg_name (i := 3) nd rfl (Or.inl rfl)) (pss_one (ps_if (pt_cmpR op_in_seq (pe_ix ix_tup (pe_ix ix_tup (pv 0) (pv 3) (fun _ _ => rfl)) pe_int (fun _ _ => rfl)) (pv 2) rfl) (pss_one (ps_expr (pe_bm PySem.F.plainAttrs_list PySem.F.slot_list_append PySem.F.type_list_append mt_append (pv 2) (pa_cons (pv 3) pa_nil)))) pss_nil)))
  (pss_one (ps_ret (pv 2))))), ?_⟩
  obtain ⟨a, xs, rfl, ha, rxs, lx⟩ := play_inv rv
  refine seq_rest (fun σ' H' => ∃ p, σ' = [some (.ref a), some (.int (n : Nat)), some (.ref p), none] ∧ Nw p H H' (nats (thrF pl n 0))) (fun rest => ?_) ?_
  · exact ⟨_, rfl, (by show 1 ≤ sizeLine; decide), fun p np => rest _ _ ⟨p, rfl, Nw.new np _⟩⟩
  rintro σ' H1 ⟨p, rfl, hp1⟩
  refine seq_rest (fun σ' H' => (∃ y3 : Option V, σ' = [some (.ref a), some (.int (n : Nat)), some (.ref p), y3]) ∧ Nw p H H' (nats (thr pl n))) (fun rest => ?_) ?_
  · refine ⟨_, rfl, _, _, rfl, rfl, _, rfl, a, xs, rfl, .inr (ha.same hp1.s).sq, (n : Int) + 1, ((xs.length : Nat) : Int), rfl, ⟨by omega, by omega, by omega, by omega⟩, ?_⟩
    refine for_range (lo := (n : Int) + 1) (n := (((xs.length : Nat) : Int) - ((n : Int) + 1)).toNat) (fun i σ H' => Nw p H H' (nats (thrF pl n i)) ∧ ∃ y3 : Option V, σ = [some (.ref a), some (.int (n : Nat)), some (.ref p), y3])
      ⟨hp1, none, rfl⟩ ?_ ?_
    · rintro i σ H2 hi ⟨hp2, y3, rfl⟩
      have hi2 : n + 1 + i < pl.length := by omega
      obtain ⟨a2, m2, hx2, ha2⟩ := back_at rxs hwb (by omega) hi2
      have hx3 := atI_nat hx2
      have ez : (((n + 1 + i : Nat)) : Int) = (n : Int) + 1 + (i : Nat) := by omega
      rw [ez] at hx3
      have up := (thrF_up pl n i).2.2
      have e1 : thrF pl n (i + 1) = thrF pl n i ++ (if bk pl (n + 1 + i) ∈ thrF pl n i then [n + 1 + i] else []) := rfl
      refine ⟨_, rfl, _, rfl, a, xs, _, _, rfl, rfl, (ha.same hp2.s).sq, hx3, a2, _, 1, _, rfl, rfl, (ha2.same hp2.s).sq, at_one1 rfl, _, rfl, p, _, rfl, .inl (SqL.of hp2.h), rfl, flat_nats _, _, rfl, ?_⟩
      show (if inV (.int ((bk pl (n + 1 + i) : Nat) : Int)) (nats (thrF pl n i)) = true then _ else _)
      rw [inV_iff]
      by_cases hb : bk pl (n + 1 + i) ∈ thrF pl n i
      · rw [decide_eq_true hb]
        rw [if_pos hb] at e1
        refine iteT ⟨_, rfl, .inl ⟨rfl, _, SqL.of hp2.h⟩, _, rfl, p, _, _, rfl, rfl, hp2.h, small6 (by rw [nats_len]; omega), ?_, _, rfl⟩
        rw [e1, ← nats_snoc, ez]
        exact hp2.put _
      · rw [decide_eq_false hb]
        rw [if_neg hb, List.append_nil] at e1
        exact iteF ⟨by rw [e1]; exact hp2, _, rfl⟩
    · rintro σ H2 ⟨hp2, y3, rfl⟩
      have e : (((xs.length : Nat) : Int) - ((n : Int) + 1)).toNat = pl.length - (n + 1) := by omega
      rw [e] at hp2
      exact rest _ _ ⟨⟨_, rfl⟩, hp2⟩
  rintro σ' H2 ⟨⟨y3, rfl⟩, hp2⟩
  exact ⟨_, rfl, q p _ hp2⟩
def spLow (K : PySem.W.Frag) : Sp := fun vs H Q _ => ∃ (v : V) (m : Mv) (k : Nat), vs = [.int (k : Nat), v] ∧ Rep K H v (mvD m) ∧ (∀ a r, m = .ask (a :: r) → a ≠ k) ∧ (∀ p, m = .ask p → p.length ≤ 1000) ∧ ∀ z H', Same H H' → Rep K H' z (mvD (lowM k m)) → Q z H'
theorem ok_low {f : Addr} {fd : FuncData} (D__law_lower : Df K mg "_law_lower" s__law_lower ["k", "move"] f fd) (B : Bt mg) : FnOk P w K mg base CX0 1 f fd ["k", "move"] (spLow K) := by
  refine D__law_lower.ok c__law_lower (fun vs H Q E h => ?_) (fun cdv A outer s H vs Q E hr h => ?_)
  · obtain ⟨v, m, k, rfl, _⟩ := h
    rfl
  obtain ⟨v, m, k, rfl, rm, hk, hl, q⟩ := h
  have nd := c__law_lower.nd
  refine ⟨_, (pss_cons (ps_if (PW.pt (pw_and (pt_cmpR op_eq (pe_ix ix_tup (pv 1) pe_int (fun _ _ => rfl)) pe_str (nomark _)) (pw_and (pt_cmpR op_gt (pe_callB call_len_seq (by rfl) B.b_len PySem.boot_len (pa_cons (pe_ix ix_tup (pv 1) pe_int (fun _ _ => rfl)) pa_nil)) pe_int (nomark _)) (pw_and1 (pt_cmpR op_gt (pe_ix ix_tup (pe_ix ix_tup (pv 1) pe_int (fun _ _ => rfl)) pe_int (fun _ _ => rfl)) (pv 0) (nomark _)))))) (pss_one (ps_ret (pe_tup (pa_cons pe_str (pa_cons (pe_op op_catP (pe_tup (pa_cons (pe_op op_sub (pe_ix ix_tup (pe_ix ix_tup (pv 1) pe_int (fun _ _ => rfl)) pe_int (fun _ _ => rfl)) pe_int) pa_nil)) (pe_slice sl_tupP (pe_ix ix_tup (pv 1) pe_int (fun _ _ => rfl)) (po_some pe_int) po_none)) pa_nil))))) pss_nil)
  (pss_one (ps_ret (pv 1)))), ?_⟩
  cases m with
  | say u =>
    obtain ⟨ma, rfl, hma⟩ := say_inv rm
    refine ⟨_, rfl, ma, _, 0, _, rfl, rfl, hma.sq, atI_nat (j := 0) rfl, rfl, _, rfl, ?_⟩
    rw [show decide (V.str "say" = V.str (Str.ofString "ask")) = false by decide]
    exact iteF ⟨_, rfl, q _ _ (Same.refl _) rm⟩
  | ask p =>
    obtain ⟨ma, qv, rfl, hma, rq⟩ := ask_inv rm
    obtain ⟨pa, rfl, hpa⟩ := pl_inv rq
    refine ⟨_, rfl, ma, _, 0, _, rfl, rfl, hma.sq, atI_nat (j := 0) rfl, rfl, _, rfl, ?_⟩
    rw [show decide (V.str "ask" = V.str (Str.ofString "ask")) = true by decide]
    refine iteT ⟨_, rfl, ma, _, 1, _, rfl, rfl, hma.sq, at_one1 rfl, pa, _, rfl, .inr hpa.sq, _, _, rfl, rfl, _, rfl, ?_⟩
    cases p with
    | nil => exact iteF ⟨_, rfl, q _ _ (Same.refl _) rm⟩
    | cons a r =>
      have hak := hk a r rfl
      have hl' : r.length + 1 ≤ 1000 := hl (a :: r) rfl
      rw [show decide (((nats (a :: r)).length : Nat) > (0 : Int)) = true from decide_eq_true (by rw [nats_len]; show (0 : Int) < ((r.length + 1 : Nat) : Int); omega)]
      refine iteT ⟨_, rfl, ma, _, 1, _, rfl, rfl, hma.sq, at_one1 rfl, pa, _, 0, _, rfl, rfl, hpa.sq, atI_nat (j := 0) rfl, _, rfl, _, _, rfl, rfl, _, rfl, ?_⟩
      by_cases h : a < k
      · rw [show decide (((a : Nat) : Int) > ((k : Nat) : Int)) = false from decide_eq_false (by omega)]
        refine iteF ⟨_, rfl, q _ _ (Same.refl _) ?_⟩
        rw [show lowM k (.ask (a :: r)) = .ask (a :: r) from congrArg Mv.ask (if_pos h)]
        exact rm
      · rw [show decide (((a : Nat) : Int) > ((k : Nat) : Int)) = true from decide_eq_true (by omega)]
        refine iteT ⟨_, rfl, ma, _, 1, _, rfl, rfl, hma.sq, at_one1 rfl, pa, _, 0, _, rfl, rfl, hpa.sq, atI_nat (j := 0) rfl, _, _, rfl, rfl, (by show 1 ≤ sizeLine; decide), fun t nt => ?_⟩
        have sT := same_new nt (.tup [V.int (((a : Nat) : Int) - 1)])
        refine ⟨_, rfl, ma, _, 1, _, rfl, rfl, (hma.same sT).sq, at_one1 rfl, 1, rfl, pa, _, rfl, hpa.same sT, fun c1 H2 s2 hc1 => ?_⟩
        have hc1 : TupAt K H2 c1 (cutV (V.int (a : Nat) :: nats r) (some ((1 : Nat) : Int)) none) := hc1
        rw [cutV_from] at hc1
        have ln : (nats r).length = r.length := nats_len r
        refine ⟨t, c1, _, _, rfl, rfl, .inl (s2 _ _ upd_same), hc1, small6' (by show 1 + (nats r).length ≤ _; omega), fun c2 H3 s3 hc2 => ⟨(by show 2 ≤ sizeLine; decide), fun u nu => ?_⟩⟩
        have sU := same_new nu (.tup [V.str "ask", .ref c2])
        refine q _ _ (((sT.trans s2).trans s3).trans sU) ?_
        rw [show lowM k (.ask (a :: r)) = .ask ((a - 1) :: r) from congrArg Mv.ask (if_neg h)]
        have hc2 : TupAt K H3 c2 (V.int (((a : Nat) : Int) - 1) :: nats r) := hc2
        rw [show ((a : Nat) : Int) - 1 = ((a - 1 : Nat) : Int) by omega] at hc2
        exact .tup' upd_same (.cons (.at rfl) (.one (pl_rep (hc2.same sU))))
end
end Pk

set_option maxRecDepth 100000
set_option maxHeartbeats 4000000
set_option pp.maxSteps 600
namespace Pk
open PySem PySem.Spec PyProof.Rows L2
/-! ### _law_told -/
section
variable {P : Program} {w : World} {K : PySem.W.Frag} {mg : Str → Option Value} {base : Heap}
def spLtd (K : PySem.W.Frag) : Sp := fun vs H Q _ => ∃ (v : V) (b : Addr) (pl : List Stp) (n0 : Nat) (r : List Nat), vs = [v, .ref b] ∧ Rep K H v (playD pl) ∧ H b = some (.lst (nats (n0 :: r))) ∧ WB pl ∧ (∀ m ∈ n0 :: r, m < pl.length ∧ 0 < m) ∧ (∀ m ∈ n0 :: r, m ≠ n0 → bk pl m ∈ n0 :: r) ∧ (n0 :: r).length ≤ 100 ∧
  ∀ z H', Same H H' → Rep K H' z (playD ((n0 :: r).map (toldS pl (n0 :: r)))) → Q z H'
theorem ok_ltd {f : Addr} {fd : FuncData} (D__law_told : Df K mg "_law_told" s__law_told ["play", "numbers"] f fd) (B : Bt mg) : FnOk P w K mg base CX0 1 f fd ["play", "numbers"] (spLtd K) := by
  refine D__law_told.ok c__law_told (fun vs H Q E h => ?_) (fun cdv A outer s H vs Q E hr h => ?_)
  · obtain ⟨v, b, pl, n0, r, rfl, _⟩ := h
    rfl
  obtain ⟨v, b, pl, n0, r, rfl, rv, hb, hwb, hin, hbk, hlen, q⟩ := h
  have nd := c__law_told.nd
  refine ⟨_, (pss_cons (ps_set (i := 2) nd rfl (Or.inl rfl) (pe_lst pa_nil))
  (pss_cons (ps_for PassesOwn.never rfl (pi_list (pv 1)) (pg_name (i := 3) nd rfl (Or.inl rfl)) (pss_cons (ps_asg (pe_ix ix_tup (pv 0) (pv 3) (fun _ _ => rfl)) (pg_tup rfl (pgs_cons (pg_name (i := 4) nd rfl (Or.inl rfl)) (pgs_cons (pg_name (i := 5) nd rfl (Or.inl rfl)) pgs_nil))))
  (pss_cons (ps_if (pt_cmpR op_eq (pe_ix ix_tup (pv 4) pe_int (fun _ _ => rfl)) pe_str (nomark _)) (pss_one (ps_set (i := 4) nd rfl (Or.inl rfl) (pe_tup (pa_cons pe_str (pa_cons (pe_slice sl_tupP (pe_ix ix_tup (pv 4) pe_int (fun _ _ => rfl)) (po_some pe_int) po_none) pa_nil))))) pss_nil)
  (pss_cons (ps_if (pt_cmpR op_eq (pv 3) (pe_ix ix_list (pv 1) pe_int (fun _ _ => rfl)) (nomark _)) (pss_one (ps_set (i := 5) nd rfl (Or.inl rfl) pe_non)) (pss_one (ps_set (i := 5) nd rfl (Or.inl rfl) (pe_bm PySem.F.plainAttrs_list PySem.F.slot_list_index PySem.F.type_list_index mt_index (pv 1) (pa_cons (pv 5) pa_nil)))))
  (pss_one (ps_expr (pe_bm PySem.F.plainAttrs_list PySem.F.slot_list_append PySem.F.type_list_append mt_append (pv 2) (pa_cons (pe_tup (pa_cons (pv 4) (pa_cons (pv 5) pa_nil))) pa_nil))))))))
  (pss_one (ps_ret (pe_callTy call_tuple_of (by rfl) B.b_tuple (by decide +kernel) (pa_cons (pv 2) pa_nil)))))), ?_⟩
  obtain ⟨a, xs, rfl, ha, rxs, lx⟩ := play_inv rv
  refine seq_rest (fun σ' H' => ∃ p, σ' = [some (.ref a), some (.ref b), some (.ref p), none, none, none] ∧ Nw p H H' []) (fun rest => ?_) ?_
  · exact ⟨(by show 0 ≤ sizeLine; decide), fun p np => rest _ _ ⟨p, rfl, Nw.new np _⟩⟩
  rintro σ' H1 ⟨p, rfl, hp1⟩
  refine seq_rest (fun σ' H' => ∃ (acc : List V) (y3 y4 y5 : Option V), σ' = [some (.ref a), some (.ref b), some (.ref p), y3, y4, y5] ∧ Nw p H H' acc ∧ Reps K H' acc (((n0 :: r).map (toldS pl (n0 :: r))).map stD)) (fun rest => ?_) ?_
  · refine ⟨_, rfl, b, rfl, ⟨_, SqL.of (hp1.s _ _ hb)⟩, for_list (xs := nats (n0 :: r)) (fun i σ H' => ∃ (acc : List V) (y3 y4 y5 : Option V), σ = [some (.ref a), some (.ref b), some (.ref p), y3, y4, y5] ∧ Nw p H H' acc ∧ acc.length ≤ i ∧ Reps K H' acc ((((n0 :: r).take i).map (toldS pl (n0 :: r))).map stD))
      ⟨[], none, none, none, rfl, hp1, Nat.le_refl _, .nil⟩ (fun i σ H' _ h => by
        obtain ⟨acc, _, _, _, _, hn, _⟩ := h
        exact SqL.of (hn.s _ _ hb)) ?_ ?_⟩
    · rintro i x σ H2 hi ⟨acc, y3, y4, y5, rfl, hn, lacc, racc⟩
      obtain ⟨m, hm, rfl⟩ := nats_at hi
      have hil := (List.getElem?_eq_some_iff.mp hm).1
      have mm := List.mem_of_getElem? hm
      obtain ⟨hml, hm0⟩ := hin m mm
      obtain ⟨mv, em⟩ := hwb.at hm0 hml
      obtain ⟨y, hy, ry⟩ := play_at rxs em
      obtain ⟨sa, mvv, bv, rfl, hsa, rm, rb⟩ := step_inv ry
      obtain ⟨rfl, _⟩ := Rep.inva (w := V.int (bk pl m : Nat)) rb
      have hb2 := hn.s _ _ hb
      have etold : toldS pl (n0 :: r) m = ⟨tailM mv, if m = n0 then none else some ((n0 :: r).idxOf (bk pl m))⟩ := by
        unfold toldS
        rw [em]
        show (⟨tailM mv, if some m = some n0 then none else _⟩ : Stp) = _
        by_cases h : m = n0
        · rw [if_pos h, if_pos (by rw [h])]
        · rw [if_neg h, if_neg (fun z => h (Option.some.inj z))]
      refine ⟨_, rfl, _, rfl, a, xs, _, _, rfl, rfl, (ha.same hn.s).sq, atI_nat hy, sa, _, rfl, (hsa.same hn.s).sq, rfl, _, _, rfl, _, _, rfl, rfl, ?_⟩
      refine nx_rest (fun σ' H' => ∃ mv' : V, σ' = [some (.ref a), some (.ref b), some (.ref p), some (.int (m : Nat)), some mv', some (.int (bk pl m : Nat))] ∧ Same H2 H' ∧ Rep K H' mv' (mvD (tailM mv))) (fun rest1 => ?_) ?_
      · cases mv with
        | ask pp =>
          obtain ⟨ma, qv, rfl, hma, rq⟩ := ask_inv rm
          obtain ⟨pa, rfl, hpa⟩ := pl_inv rq
          refine ⟨_, rfl, ma, _, 0, _, rfl, rfl, (hma.same hn.s).sq, atI_nat (j := 0) rfl, rfl, _, rfl, ?_⟩
          rw [show decide (V.str "ask" = V.str (Str.ofString "ask")) = true by decide]
          refine iteT ⟨_, rfl, ma, _, 1, _, rfl, rfl, (hma.same hn.s).sq, at_one1 rfl, 1, rfl, pa, _, rfl, hpa.same hn.s, fun c1 H3 s3 hc1 => ⟨(by show 2 ≤ sizeLine; decide), fun u nu => ?_⟩⟩
          have hc1 : TupAt K H3 c1 (cutV (nats pp) (some ((1 : Nat) : Int)) none) := hc1
          rw [cutV_from] at hc1
          have en : (nats pp).drop 1 = nats (pp.drop 1) := by
            unfold nats
            rw [List.map_drop]
          rw [en] at hc1
          have sU := same_new nu (.tup [V.str "ask", .ref c1])
          exact rest1 _ _ ⟨_, rfl, s3.trans sU, .tup' upd_same (.cons (.at rfl) (.one (pl_rep (hc1.same sU))))⟩
        | say u =>
          obtain ⟨ma, rfl, hma⟩ := say_inv rm
          refine ⟨_, rfl, ma, _, 0, _, rfl, rfl, (hma.same hn.s).sq, atI_nat (j := 0) rfl, rfl, _, rfl, ?_⟩
          rw [show decide (V.str "say" = V.str (Str.ofString "ask")) = false by decide]
          exact iteF (rest1 _ _ ⟨_, rfl, Same.refl _, rm.mono (kx_same hn.s)⟩)
      rintro σ' H3 ⟨mv', rfl, s3, rm3⟩
      have hb3 := s3 _ _ hb2
      refine seq_rest (fun σ' H' => ∃ bv : V, σ' = [some (.ref a), some (.ref b), some (.ref p), some (.int (m : Nat)), some mv', some bv] ∧ H3 = H' ∧ ∀ H'', Rep K H'' bv (bkD (toldS pl (n0 :: r) m).back)) (fun rest1 => ?_) ?_
      · refine ⟨_, rfl, _, rfl, b, _, 0, _, rfl, rfl, SqL.of hb3, atI_nat (j := 0) rfl, rfl, _, rfl, ?_⟩
        by_cases h : m = n0
        · rw [show decide (V.int (m : Nat) = V.int (n0 : Nat)) = true from decide_eq_true (by rw [h])]
          exact iteT (rest1 _ _ ⟨_, rfl, rfl, fun H'' => by rw [etold, if_pos h]; exact .at rfl⟩)
        · rw [show decide (V.int (m : Nat) = V.int (n0 : Nat)) = false from decide_eq_false (fun z => h (by have := V.int.inj z; omega))]
          obtain ⟨i1, i2, i3⟩ := index_nats (hbk m mm h)
          exact iteF ⟨_, rfl, .inl ⟨rfl, _, SqL.of hb3⟩, _, rfl, b, nats (n0 :: r), .int (bk pl m : Nat), (n0 :: r).idxOf (bk pl m), .int (bk pl m : Nat), rfl, rfl, SqL.of hb3, rfl, flat_nats _, i1, i2, i3, rest1 _ _ ⟨_, rfl, rfl, fun H'' => by rw [etold, if_neg h]; exact .at rfl⟩⟩
      rintro σ' H' ⟨bv, rfl, rfl, rbv⟩
      have hn3 := hn.step s3
      refine ⟨_, rfl, .inl ⟨rfl, _, SqL.of hn3.h⟩, _, rfl, _, rfl, (by show 2 ≤ sizeLine; decide), fun u nu => ?_⟩
      have sU := same_new nu (.tup [mv', bv])
      have hn4 := hn3.step sU
      have kl := kx_list hn4.h (acc ++ [.ref u])
      refine ⟨p, _, _, rfl, rfl, hn4.h, small6 (by have : (n0 :: r).length ≤ 100 := hlen; omega), acc ++ [.ref u], _, _, _, rfl, hn4.put _, by rw [List.length_append, List.length_singleton]; omega, ?_⟩
      rw [List.take_add_one, hm, List.map_append, List.map_append]
      refine (racc.mono (((kx_same s3).trans (kx_same sU)).trans kl)).append (.one (.tup (xs := [mv', bv]) (.inl (kl.t _ _ upd_same)) (.cons ?_ (.one (rbv _)))))
      rw [show (toldS pl (n0 :: r) m).mv = tailM mv by rw [etold]]
      exact (rm3.mono (kx_same sU)).mono kl
    · rintro σ H2 ⟨acc, y3, y4, y5, rfl, hn, lacc, racc⟩
      rw [nats_len, List.take_length] at racc
      exact rest _ _ ⟨acc, _, _, _, rfl, hn, racc⟩
  rintro σ' H2 ⟨acc, y3, y4, y5, rfl, hn, racc⟩
  refine ⟨_, rfl, p, _, rfl, .inl ⟨SqL.of hn.h, fun t nt => ?_⟩⟩
  have sT := same_new nt (.tup acc)
  exact q _ _ (hn.s.trans sT) (.tup' upd_same (racc.mono (kx_same sT)))
end
end Pk

set_option maxRecDepth 100000
set_option maxHeartbeats 4000000
set_option pp.maxSteps 600
namespace Pk
open PySem PySem.Spec PyProof.Rows L2
open LamX
/-! ### how great plays are -/
theorem mv_small {m : Mv} (h : ∀ p, m = .ask p → p.length ≤ 60) : sz (mvD m) ≤ 64 ∧ dep (mvD m) ≤ 2 ∧ noL (mvD m) = true := by
  have nums : ∀ p : List Nat, szs (p.map numD') = p.length ∧ deps (p.map numD') ≤ 1 ∧ noLs (p.map numD') = true := fun p => by
    induction p with
    | nil => exact ⟨rfl, Nat.zero_le _, rfl⟩
    | cons a p ih =>
      obtain ⟨h1, h2, h3⟩ := ih
      refine ⟨?_, ?_, ?_⟩
      · show 1 + szs (p.map numD') = p.length + 1
        omega
      · show max (0 + 1) (deps (p.map numD')) ≤ 1
        omega
      · show (true && noLs (p.map numD')) = true
        rw [h3]
        rfl
  cases m with
  | say u => exact ⟨by show 1 + (1 + 0) + 1 ≤ 64; omega, by show max (0 + 1) (max (0 + 1) 0) ≤ 2; omega, rfl⟩
  | ask p =>
    obtain ⟨h1, h2, h3⟩ := nums p
    have := h p rfl
    refine ⟨?_, ?_, ?_⟩
    · show 1 + ((szs (p.map numD') + 1) + 0) + 1 ≤ 64
      omega
    · show max (0 + 1) (max (deps (p.map numD') + 1) 0) ≤ 2
      omega
    · show (true && (noLs (p.map numD') && true)) = true
      rw [h3]
      rfl
theorem play_small : ∀ {pl : List Stp}, (∀ s ∈ pl, ∀ p, s.mv = .ask p → p.length ≤ 60) → szs (pl.map stD) ≤ 70 * pl.length ∧ deps (pl.map stD) ≤ 4 ∧ noLs (pl.map stD) = true
  | [], _ => ⟨Nat.le_refl _, Nat.zero_le _, rfl⟩
  | s :: pl, h => by
    obtain ⟨h1, h2, h3⟩ := play_small (pl := pl) fun x m => h x (List.mem_cons_of_mem _ m)
    obtain ⟨m1, m2, m3⟩ := mv_small (h s (List.mem_cons_self ..))
    have b1 : sz (bkD s.back) = 1 := by cases s.back <;> rfl
    have b2 : dep (bkD s.back) = 0 := by cases s.back <;> rfl
    have b3 : noL (bkD s.back) = true := by cases s.back <;> rfl
    refine ⟨?_, ?_, ?_⟩
    · show (sz (mvD s.mv) + (sz (bkD s.back) + 0) + 1) + szs (pl.map stD) ≤ 70 * (pl.length + 1)
      omega
    · show max (max (dep (mvD s.mv) + 1) (max (dep (bkD s.back) + 1) 0) + 1) (deps (pl.map stD)) ≤ 4
      omega
    · show ((noL (mvD s.mv) && (noL (bkD s.back) && true)) && noLs (pl.map stD)) = true
      rw [m3, b3, h3]
      rfl
theorem pl_small (p : List Nat) : szs (p.map numD') = p.length ∧ deps (p.map numD') ≤ 1 ∧ noLs (p.map numD') = true := by
  induction p with
  | nil => exact ⟨rfl, Nat.zero_le _, rfl⟩
  | cons a p ih =>
    obtain ⟨h1, h2, h3⟩ := ih
    refine ⟨?_, ?_, ?_⟩
    · show 1 + szs (p.map numD') = p.length + 1
      omega
    · show max (0 + 1) (deps (p.map numD')) ≤ 1
      omega
    · show (true && noLs (p.map numD')) = true
      rw [h3]
      rfl
theorem tail_len {m : Mv} (h : ∀ p, m = .ask p → p.length ≤ 60) : ∀ p, tailM m = .ask p → p.length ≤ 60 := by
  intro p e
  cases m with
  | say u => cases e
  | ask q =>
    have := h q rfl
    have e : Mv.ask (q.drop 1) = .ask p := e
    injection e with e
    rw [← e, List.length_drop]
    omega
theorem low_len {k : Nat} {m : Mv} (h : ∀ p, m = .ask p → p.length ≤ 60) : ∀ p, lowM k m = .ask p → p.length ≤ 60 := by
  intro p e
  cases m with
  | say u => cases e
  | ask q =>
    have h1 := h q rfl
    have e : Mv.ask (lowP k q) = .ask p := e
    injection e with e
    rw [← e]
    cases q with
    | nil => exact h1
    | cons a r =>
      show (if a < k then a :: r else (a - 1) :: r).length ≤ 60
      split <;> exact h1
theorem ap_mv {pl : List Stp} {ns : List Nat} (hpl : ∀ s ∈ pl, ∀ p, s.mv = .ask p → p.length ≤ 60) (m : Nat) : ∀ p, (((pl[m]?).map Stp.mv).getD (.say 0)) = .ask p → p.length ≤ 60 := by
  intro p e
  cases h : pl[m]? with
  | none =>
    rw [h] at e
    cases e
  | some s =>
    rw [h] at e
    exact hpl s (List.mem_of_getElem? h) p e
theorem law_len {kd : D} {pl : List Stp} (h : LW kd pl) (hs : sz kd ≤ 60) : ∀ s ∈ pl, ∀ p, s.mv = .ask p → p.length ≤ 60 := by
  intro s m p e
  obtain ⟨i, hi, rfl⟩ := List.getElem_of_mem m
  have e1 : pl[i]? = some ⟨.ask p, pl[i].back⟩ := by
    rw [List.getElem?_eq_getElem hi, ← e]
  obtain ⟨d, hd⟩ := h.lp.pa i p _ e1
  have := atD_len p kd d hd
  omega
section
variable {P : Program} {w : World} {K : PySem.W.Frag} {mg : Str → Option Value} {base : Heap} {T : List (Addr × Str)}
theorem tabs_keep {H H' : Hp} (h : Tabs T H) (k : ∀ q o, H q = some o → (∀ xs, o ≠ .lst xs) → H' q = some o) : Tabs T H' := by
  intro p hp
  obtain ⟨ps, h1, h2, h3⟩ := h p hp
  refine ⟨ps, k _ _ h1 (fun xs z => by cases z), h2, fun pos cv hc => ?_⟩
  obtain ⟨c, e1, e2⟩ := h3 pos cv hc
  exact ⟨c, e1, k _ _ e2 (fun xs z => by unfold CodeO at z; cases z)⟩
theorem tabs_sb {H H' : Hp} {b c : Addr} (h : Tabs T H) (bx : BoxAt H b c) (sb : SB b H H') : Tabs T H' := by
  obtain ⟨bs, hb⟩ := bx.lst
  exact tabs_keep h fun q o e n => sb _ _ (fun z => by rw [z, hb] at e; exact n bs (Option.some.inj e).symm) e
theorem tabs_sb2 {H H' : Hp} {b c u : Addr} {us : List V} (h : Tabs T H) (bx : BoxAt H b c) (hu : H u = some (.lst us)) (sb : SB2 b u H H') : Tabs T H' := by
  obtain ⟨bs, hb⟩ := bx.lst
  exact tabs_keep h fun q o e n => sb _ _ (fun z => by rw [z, hb] at e; exact n bs (Option.some.inj e).symm) (fun z => by rw [z, hu] at e; exact n us (Option.some.inj e).symm) e
theorem BoxAt.extN {H H' : Hp} {b c : Addr} (x : BoxAt H b c) (e : ExtN H H') : BoxAt H' b c := x.keep (fun o h => by obtain ⟨_, _, h1, _⟩ := x; rw [h1] at h; cases h; exact extN_lst e h1) (fun o h => by obtain ⟨_, _, _, h1, _⟩ := x; rw [h1] at h; cases h; exact extN_lst e h1)
def spLaw (K : PySem.W.Frag) (T : List (Addr × Str)) : Sp := fun vs H Q _ => ∃ (a : Addr) (ns : List Int), vs = [.ref a] ∧ SqL K H a (ns.map V.int) ∧ ns.length ≤ 63 ∧ Tabs T H ∧ ∀ H', Q (.bl true) H'
theorem ok_law {bg : Addr} (hBG : mg "BEGINNING" = some (.ref bg)) (hKB : ∀ H, Rep K H (.ref bg) (stD BEG)) {c1 P1 c2 P2 : Addr} (TB1 : TabB base mg c1 P1) (TB2 : TabB base mg c2 P2) (hT1 : (P1, qLam "_without_argument") ∈ T) (hU1 : ∀ p ∈ T, p.1 = P1 → p.2 = qLam "_without_argument") (hT2 : (P2, qLam "_from_within") ∈ T) (hU2 : ∀ p ∈ T, p.1 = P2 → p.2 = qLam "_from_within")
    {f f1 f2 f3 f4 f5 f6 f7 f8 f9 f10 f11 f12 f13 f14 f15 f16 f17 f18 f19 f20 f21 f22 f23 f24 f25 f26 f27 : Addr} {fd d1 d2 d3 d4 d5 d6 d7 d8 d9 d10 d11 d12 d13 d14 d15 d16 d17 d18 d19 d20 d21 d22 d23 d24 d25 d26 d27 : FuncData} (D_law : Df K mg "law" s_law ["script"] f fd) (B : Bt mg) (D_alone : Df K mg "alone" s_alone ["play", "numbers"] f1 d1) (D_thread : Df K mg "thread" s_thread ["play", "n"] f2 d2) (D__argument_of : Df K mg "_argument_of" s__argument_of ["play", "step"] f3 d3) (D__with_place : Df K mg "_with_place" s__with_place ["move", "changed"] f4 d4) (D__moved_on : Df K mg "_moved_on" s__moved_on ["place", "k", "by"] f5 d5) (D__without_argument : Df K mg "_without_argument" s__without_argument ["move", "k"] f6 d6) (D__from_within : Df K mg "_from_within" s__from_within ["play"] f7 d7) (D_told_alone : Df K mg "told_alone" s_told_alone ["play", "n"] f8 d8) (D_seen : Df K mg "seen" s_seen ["talk", "k"] f9 d9) (D__law_cell : Df K mg "_law_cell" s__law_cell ["script", "k"] f10 d10) (D__law_digits : Df K mg "_law_digits" s__law_digits ["script", "first", "last"] f11 d11) (D__law_draw : Df K mg "_law_draw" s__law_draw ["box", "many"] f12 d12) (D__law_box : Df K mg "_law_box" s__law_box ["script", "first", "last"] f13 d13) (D__law_same : Df K mg "_law_same" s__law_same ["actual", "expected"] f14 d14) (D__law_kind : Df K mg "_law_kind" s__law_kind ["box", "depth", "budget"] f15 d15) (D__law_sight : Df K mg "_law_sight" s__law_sight ["play"] f16 d16) (D__law_asker_sight : Df K mg "_law_asker_sight" s__law_asker_sight ["play"] f17 d17) (D__law_alone : Df K mg "_law_alone" s__law_alone ["play", "numbers"] f18 d18) (D__law_open : Df K mg "_law_open" s__law_open ["play"] f19 d19) (D__law_at : Df K mg "_law_at" s__law_at ["kind", "place"] f20 d20) (D__law_goes_on : Df K mg "_law_goes_on" s__law_goes_on ["kind", "play", "step"] f21 d21) (D__law_after : Df K mg "_law_after" s__law_after ["kind", "play"] f22 d22) (D__law_reply : Df K mg "_law_reply" s__law_reply ["rows", "play"] f23 d23) (D__law_play : Df K mg "_law_play" s__law_play ["box", "kind", "rows", "most", "free"] f24 d24) (D__law_thread : Df K mg "_law_thread" s__law_thread ["play", "n"] f25 d25) (D__law_told : Df K mg "_law_told" s__law_told ["play", "numbers"] f26 d26) (D__law_lower : Df K mg "_law_lower" s__law_lower ["k", "move"] f27 d27) (hc1 : d6.code = .ref c1) (hc2 : d7.code = .ref c2) : FnOk P w K mg base CX0 121 f fd ["script"] (spLaw K T) := by
  have G__law_same : FnOk P w K mg base CX0 6 f14 d14 ["actual", "expected"] (spSame K 6) := ok_same D__law_same B 6
  have G__law_box : FnOk P w K mg base CX0 3 f13 d13 ["script", "first", "last"] (spBox K) := ok_box D__law_box D__law_digits D__law_cell B
  have G__law_draw : FnOk P w K mg base CX0 1 f12 d12 ["box", "many"] (spDraw) := ok_draw D__law_draw B
  have G__law_kind : FnOk P w K mg base CX0 5 f15 d15 ["box", "depth", "budget"] (spKind K 4) := ok_kind D__law_kind D__law_draw B 4
  have G__law_play : FnOk P w K mg base CX0 44 f24 d24 ["box", "kind", "rows", "most", "free"] (spPlay P w K) := ok_lpl D__law_play D__law_goes_on D__law_sight D__law_asker_sight D__law_open D__law_at D__law_after D__law_reply D__law_alone D__law_draw B
  have G__law_alone : FnOk P w K mg base CX0 1 f18 d18 ["play", "numbers"] (spLAl K) := ok_lal D__law_alone B
  have G__law_thread : FnOk P w K mg base CX0 1 f25 d25 ["play", "n"] (spLth K) := ok_lth D__law_thread B
  have G__law_told : FnOk P w K mg base CX0 1 f26 d26 ["play", "numbers"] (spLtd K) := ok_ltd D__law_told B
  have G__law_lower : FnOk P w K mg base CX0 1 f27 d27 ["k", "move"] (spLow K) := ok_low D__law_lower B
  have G_thread : FnOk P w K mg base CX0 1 f2 d2 ["play", "n"] (spThr K) := ok_thr D_thread B
  have G__without_argument : FnOk P w K mg base CX0 4 f6 d6 ["move", "k"] (spWo K T) := ok_wo D__without_argument D__with_place D__moved_on B hc1 TB1 hT1 hU1
  have G__from_within : FnOk P w K mg base CX0 4 f7 d7 ["play"] (spFw K T) := ok_fw hBG hKB D__from_within D__with_place B hc2 TB2 hT2 hU2
  have G_told_alone : FnOk P w K mg base CX0 5 f8 d8 ["play", "n"] (spTo K T) := ok_to D_told_alone D__from_within D_alone D_thread B G__from_within
  have G_seen : FnOk P w K mg base CX0 5 f9 d9 ["talk", "k"] (spSeen K T) := ok_seen D_seen D__without_argument D_alone D__argument_of B G__without_argument
  refine D_law.ok c_law (fun vs H Q E h => ?_) (fun cdv A outer s H vs Q E hr h => ?_)
  · obtain ⟨a, ns, rfl, _⟩ := h
    rfl
  obtain ⟨a, ns, rfl, hS, hns, hT, q⟩ := h
  have nd := c_law.nd
  refine ⟨_, (pss_cons (ps_set (i := 1) nd rfl (Or.inl rfl) (pe_call G__law_box (hr.mono (by first | decide | omega)) (by rfl) D__law_box.m D__law_box.kp D__law_box.b .nil pass0 (pa_cons (pv 0) (pa_cons pe_int (pa_cons pe_int pa_nil)))))
  (pss_cons (ps_for PassesOwn.never rfl (pi_range1 (by rfl) B.b_range (pa_cons pe_int pa_nil)) (pg_name (i := 2) nd rfl (Or.inl rfl)) (pss_cons (ps_set (i := 3) nd rfl (Or.inl rfl) (pe_call G__law_kind (hr.mono (by first | decide | omega)) (by rfl) D__law_kind.m D__law_kind.kp D__law_kind.b .nil pass0 (pa_cons (pv 1) (pa_cons pe_int (pa_cons (pe_lst (pa_cons pe_int pa_nil)) pa_nil)))))
  (pss_cons (ps_set (i := 4) nd rfl (Or.inl rfl) (pe_call G__law_play (hr.mono (by first | decide | omega)) (by rfl) D__law_play.m D__law_play.kp D__law_play.b .nil pass0 (pa_cons (pv 1) (pa_cons (pv 3) (pa_cons (show PE _ _ (tDkNew P w) from pe_dkNew) (pa_cons pe_int (pa_cons pe_int pa_nil)))))))
  (pss_cons (ps_set (i := 5) nd rfl (Or.inr rfl) (pe_lst pa_nil))
  (pss_cons (ps_set (i := 6) nd rfl (Or.inr rfl) (pe_call G__law_draw (hr.mono (by first | decide | omega)) (by rfl) D__law_draw.m D__law_draw.kp D__law_draw.b .nil pass0 (pa_cons (pv 1) (pa_cons (pe_callB (call_max2 rfl) (by rfl) B.b_max (by decide +kernel) (pa_cons pe_int (pa_cons (pe_callB call_len_seq (by rfl) B.b_len PySem.boot_len (pa_cons (pv 3) pa_nil)) pa_nil))) pa_nil))))
  (pss_cons (ps_for PassesOwn.never rfl (pi_range2 (by rfl) B.b_range (pa_cons pe_int (pa_cons (pe_callB call_len_seq (by rfl) B.b_len PySem.boot_len (pa_cons (pv 4) pa_nil)) pa_nil))) (pg_name (i := 7) nd rfl (Or.inl rfl)) (pss_one (ps_if (PW.pt (pw_and (pt_cmpR op_eq (pe_ix ix_tup (pe_ix ix_tup (pe_ix ix_tup (pv 4) (pv 7) (fun _ _ => rfl)) pe_int (fun _ _ => rfl)) pe_int (fun _ _ => rfl)) pe_str (nomark _)) (pw_and1 (pt_cmpR op_eq (pe_callB call_len_seq (by rfl) B.b_len PySem.boot_len (pa_cons (pe_ix ix_tup (pe_ix ix_tup (pe_ix ix_tup (pv 4) (pv 7) (fun _ _ => rfl)) pe_int (fun _ _ => rfl)) pe_int (fun _ _ => rfl)) pa_nil)) pe_int (nomark _))))) (pss_cons (ps_set (i := 8) nd rfl (Or.inl rfl) (pe_call G__law_thread (hr.mono (by first | decide | omega)) (by rfl) D__law_thread.m D__law_thread.kp D__law_thread.b .nil pass0 (pa_cons (pv 4) (pa_cons (pv 7) pa_nil))))
  (pss_cons (ps_if (pt_not (pt_val (pe_call G__law_same (hr.mono (by first | decide | omega)) (by rfl) D__law_same.m D__law_same.kp D__law_same.b .nil pass0 (pa_cons (pe_call G_thread (hr.mono (by first | decide | omega)) (by rfl) D_thread.m D_thread.kp D_thread.b .nil pass0 (pa_cons (pv 4) (pa_cons (pv 7) pa_nil))) (pa_cons (pe_callTy call_tuple_of (by rfl) B.b_tuple (by decide +kernel) (pa_cons (pv 8) pa_nil)) pa_nil))))) (pss_one (ps_ret pe_bl)) pss_nil)
  (pss_cons (ps_if (pt_not (pt_val (pe_call G__law_same (hr.mono (by first | decide | omega)) (by rfl) D__law_same.m D__law_same.kp D__law_same.b .nil pass0 (pa_cons (pe_call G_told_alone (hr.mono (by first | decide | omega)) (by rfl) D_told_alone.m D_told_alone.kp D_told_alone.b .nil pass0 (pa_cons (pv 4) (pa_cons (pv 7) pa_nil))) (pa_cons (pe_call G__law_told (hr.mono (by first | decide | omega)) (by rfl) D__law_told.m D__law_told.kp D__law_told.b .nil pass0 (pa_cons (pv 4) (pa_cons (pv 8) pa_nil))) pa_nil))))) (pss_one (ps_ret pe_bl)) pss_nil)
  (pss_one (ps_if (pt_cmpR (op_eqD hr.units) (pe_ix ix_tup (pe_ix ix_tup (pe_ix ix_tup (pv 4) (pv 7) (fun _ _ => rfl)) pe_int (fun _ _ => rfl)) pe_int (fun _ _ => rfl)) (pe_tup (pa_cons (pv 6) pa_nil)) (nomark _)) (pss_one (ps_set (i := 5) nd rfl (Or.inr rfl) (pe_op op_cat (pv 5) (pv 8)))) pss_nil))))) pss_nil)))
  (pss_one (ps_if (pt_cmpR op_lt (pv 6) (pe_callB call_len_seq (by rfl) B.b_len PySem.boot_len (pa_cons (pv 3) pa_nil)) (nomark _)) (pss_cons (ps_set (i := 9) nd rfl (Or.inl rfl) (pe_call G__law_alone (hr.mono (by first | decide | omega)) (by rfl) D__law_alone.m D__law_alone.kp D__law_alone.b .nil pass0 (pa_cons (pv 4) (pa_cons (pe_lc (own := [("n", 7)]) (g := (gName 7)) (tt := _) rfl nd (pi_range1 (by rfl) B.b_range (pa_cons (pe_callB call_len_seq (by rfl) B.b_len PySem.boot_len (pa_cons (pv 4) pa_nil)) pa_nil)) (blkOk_by (own := [("n", 7)]) (N := ["script", "box", "turn", "kind", "play", "hidden", "k", "n", "numbers", "rest", "due", "move", "back"]) (sc := defScope s_law) (by decide +kernel)) (fun _ _ _ _ _ => (pg_name (i := 7) nd rfl (Or.inl rfl))) (fun _ _ _ _ _ => (pts_one (pt_cmpR (show OpR _ (compareOp .NotIn) (rIn K true) from op_notIn_seq) (pv 7) (pv 5) rfl))) (fun _ _ _ _ _ => (pv 7))) pa_nil))))
  (pss_cons (ps_set (i := 10) nd rfl (Or.inl rfl) (pe_callTy call_tuple_of (by rfl) B.b_tuple (by decide +kernel) (pa_cons (pe_lc (own := [("move", 11), ("back", 12)]) (g := (gTup K 2 (gCons (gName 11) (gCons (gName 12) gNil)))) (tt := tYes) rfl nd (pi_tup (pv 9)) (blkOk_by (own := [("move", 11), ("back", 12)]) (N := ["script", "box", "turn", "kind", "play", "hidden", "k", "n", "numbers", "rest", "due", "move", "back"]) (sc := defScope s_law) (by decide +kernel)) (fun _ _ _ _ _ => (pg_tup rfl (pgs_cons (pg_name (i := 11) nd rfl (Or.inl rfl)) (pgs_cons (pg_name (i := 12) nd rfl (Or.inl rfl)) pgs_nil)))) (fun _ _ _ _ _ => pts_nil) (fun _ _ _ _ _ => (pe_tup (pa_cons (pe_call G__law_lower (hr.mono (by first | decide | omega)) (by rfl) D__law_lower.m D__law_lower.kp D__law_lower.b .nil pass0 (pa_cons (pv 6) (pa_cons (pv 11) pa_nil))) (pa_cons (pv 12) pa_nil))))) pa_nil)))
  (pss_one (ps_if (pt_not (pt_val (pe_call G__law_same (hr.mono (by first | decide | omega)) (by rfl) D__law_same.m D__law_same.kp D__law_same.b .nil pass0 (pa_cons (pe_call G_seen (hr.mono (by first | decide | omega)) (by rfl) D_seen.m D_seen.kp D_seen.b .nil pass0 (pa_cons (pv 4) (pa_cons (pv 6) pa_nil))) (pa_cons (pv 10) pa_nil))))) (pss_one (ps_ret pe_bl)) pss_nil)))) pss_nil))))))))
  (pss_one (ps_ret pe_bl)))), ?_⟩
  refine ⟨_, rfl, a, ns, 0, 62, rfl, hS, by omega, by omega, fun b c H3 s3 _ _ hB3 => ?_⟩
  have T3 : Tabs T H3 := hT.ext fun x o e => s3 _ _ e
  refine nx_rest (fun σ' H' => ∃ y2 y3 y4 y5 y6 y7 y8 y9 y10 : Option V, σ' = [some (.ref a), some (.ref b), y2, y3, y4, y5, y6, y7, y8, y9, y10, none, none]) (fun rest => ?_) ?_
  · refine ⟨3, rfl, by decide, by decide, ?_⟩
    refine for_range (n := 3) (fun i σ H' => BoxAt H' b c ∧ Tabs T H' ∧ ∃ y2 y3 y4 y5 y6 y7 y8 y9 y10 : Option V, σ = [some (.ref a), some (.ref b), y2, y3, y4, y5, y6, y7, y8, y9, y10, none, none]) ⟨hB3, T3, none, none, none, none, none, none, none, none, none, rfl⟩ ?_ ?_
    · rintro i σ H4 hi ⟨hB4, T4, y2, y3, y4, y5, y6, y7, y8, y9, y10, rfl⟩
      refine ⟨_, rfl, (by show 1 ≤ sizeLine; decide), fun u nu => ?_⟩
      have s5 := same_new nu (.lst [.int 7])
      obtain ⟨bs4, hbs4⟩ := hB4.lst
      obtain ⟨cs4, hcs4⟩ := hB4.dst
      refine ⟨b, c, u, 3, 7, rfl, hB4.same s5, upd_same, by decide, by decide, by decide, ne_of_none hbs4 nu, ne_of_none hcs4 nu, fun v H5 d g' rv kd dd sd hu5 hB5 sb5 => ?_⟩
      have T5 : Tabs T H5 := tabs_sb2 (T4.ext fun x o e => s5 _ _ e) (hB4.same s5) upd_same sb5
      have hsz : sz d ≤ 60 := by omega
      refine nx_rest (fun σ' H' => ∃ (y2 : Option V) (pv : V) (pl : List Stp), σ' = [some (.ref a), some (.ref b), y2, some v, some pv, y5, y6, y7, y8, y9, y10, none, none] ∧ BoxAt H' b c ∧ Tabs T H' ∧ Rep K H' v d ∧ Rep K H' pv (playD pl) ∧ LW d pl ∧ pl.length ≤ 16) (fun rest1 => ?_) ?_
      · refine ⟨_, rfl, _, rfl, fun e ne => ?_⟩
        have sE := same_new ne (DkO P w e [])
        have hB6 := hB5.same sE
        refine ⟨b, c, e, v, d, .prog (args d).length .stop, 4, 16, rfl, by omega, hB6, rv.mono (kx_same sE), kd, hsz, ⟨[], upd_same, .nil⟩, ?_, fun pv pl H7 rp lw ll hB7 sb7 => ?_⟩
        · show (decide ((args d).length = (args d).length) && true) = true
          rw [decide_eq_true rfl]
          rfl
        · exact rest1 _ _ ⟨_, pv, pl, rfl, hB7, tabs_sb (T5.ext fun x o e => sE _ _ e) hB6 sb7, (rv.mono (kx_same sE)).mono (box_kx hB6 hB7 sb7), rp, lw, ll⟩
      rintro σ' H7 ⟨y2, pv, pl, rfl, hB7, T7, rv7, rp7, hLW, hl16⟩
      obtain ⟨ts, rfl, hts⟩ := isK_inv kd
      obtain ⟨va, vx, rfl, hva, rvx⟩ := rv7.inv
      have lvx := rvx.length
      obtain ⟨pa, px, rfl, hpa, rpx, lpx⟩ := play_inv rp7
      have rp7 : Rep K H7 (.ref pa) (playD pl) := .tup hpa rpx
      refine seq_rest (fun σ' H' => ∃ h : Addr, σ' = [some (.ref a), some (.ref b), y2, some (.ref va), some (.ref pa), some (.ref h), y6, y7, y8, y9, y10, none, none] ∧ Same H7 H' ∧ H7 h = none ∧ H' h = some (.lst [])) (fun rest1 => ?_) ?_
      · exact ⟨(by show 0 ≤ sizeLine; decide), fun h nh => rest1 _ _ ⟨h, rfl, same_new nh _, nh, upd_same⟩⟩
      rintro σ' H8 ⟨h, rfl, s8, nh, hh8⟩
      have hB8 := hB7.same s8
      have T8 : Tabs T H8 := T7.ext fun x o e => s8 _ _ e
      obtain ⟨bs7, hbs7⟩ := hB7.lst
      have nhb : h ≠ b := (ne_of_none hbs7 nh).symm
      refine seq_rest (fun σ' H' => ∃ k : Nat, σ' = [some (.ref a), some (.ref b), y2, some (.ref va), some (.ref pa), some (.ref h), some (.int (k : Nat)), y7, y8, y9, y10, none, none] ∧ BoxAt H' b c ∧ Tabs T H' ∧ Kx H7 H' ∧ H' h = some (.lst [])) (fun rest1 => ?_) ?_
      · refine ⟨_, rfl, _, rfl, va, vx, rfl, .inr (hva.same s8).sq, _, _, rfl, ?_⟩
        refine ⟨b, c, _, rfl, hB8, ?_, fun r H9 r0 r1 hB9 sb9 => ?_⟩
        · split <;> omega
        · obtain ⟨k, rfl⟩ : ∃ k : Nat, r = (k : Int) := ⟨r.toNat, by omega⟩
          exact rest1 _ _ ⟨k, rfl, hB9, tabs_sb T8 hB8 sb9, (kx_same s8).trans (box_kx hB8 hB9 sb9), sb9 _ _ nhb hh8⟩
      rintro σ' H9 ⟨k, rfl, hB9, T9, k79, hh9⟩
      have hplen := law_len hLW hsz
      refine seq_rest (fun σ' H' => ∃ (h : Addr) (hs : List Nat) (y7 y8 : Option V), σ' = [some (.ref a), some (.ref b), y2, some (.ref va), some (.ref pa), some (.ref h), some (.int (k : Nat)), y7, y8, y9, y10, none, none] ∧ ExtN H9 H' ∧ Tabs T H' ∧ H' h = some (.lst (nats hs)) ∧ ∀ m, m ∈ hs ↔ ∃ n, Start pl k n ∧ m ∈ thr pl n) (fun rest1 => ?_) ?_
      · refine ⟨_, rfl, pa, px, rfl, .inr (hpa.kx k79).sq, 1, ((px.length : Nat) : Int), rfl, ⟨by omega, by omega, by omega, by omega⟩, ?_⟩
        refine for_range (lo := 1) (n := (((px.length : Nat) : Int) - 1).toNat) (fun i σ H' => ∃ (h : Addr) (hs : List Nat) (y7 y8 : Option V), σ = [some (.ref a), some (.ref b), y2, some (.ref va), some (.ref pa), some (.ref h), some (.int (k : Nat)), y7, y8, y9, y10, none, none] ∧ ExtN H9 H' ∧ Tabs T H' ∧ H' h = some (.lst (nats hs)) ∧ hs.length ≤ 40 * i ∧ ∀ m, m ∈ hs ↔ ∃ n, n < 1 + i ∧ Start pl k n ∧ m ∈ thr pl n)
          ⟨h, [], y7, y8, rfl, ExtN.refl _, T9, hh9, Nat.le_refl _, fun m => ⟨(fun z => nomatch z), fun ⟨n, hn, hst, _⟩ => by have := hst.1; omega⟩⟩ ?_ ?_
        · rintro i σ H10 hi ⟨h, hs, y7, y8, rfl, e10, T10, hh10, hlen, hhs⟩
          have hn : 1 + i < pl.length := by omega
          have ez : (1 : Int) + (i : Nat) = ((1 + i : Nat) : Int) := by omega
          rw [ez]
          have k710 := k79.trans (extN_kx e10)
          have rp10 := rp7.mono k710
          have hpa10 := hpa.kx k710
          obtain ⟨mv, em⟩ := hLW.lp.wb.at (n := 1 + i) (by omega) hn
          obtain ⟨x, hx, rx⟩ := play_at rpx em
          obtain ⟨sa, mvv, bv, rfl, hsa, rm, rb⟩ := step_inv rx
          have hsa10 := hsa.kx k710
          have skip : ∀ H' (y8 : Option V), ExtN H10 H' → Tabs T H' → (¬ Start pl k (1 + i)) → ∃ (h' : Addr) (hs : List Nat) (y7' y8' : Option V), [some (V.ref a), some (.ref b), y2, some (.ref va), some (.ref pa), some (.ref h), some (.int (k : Nat)), some (.int ((1 + i : Nat) : Int)), y8, y9, y10, none, none] = [some (.ref a), some (.ref b), y2, some (.ref va), some (.ref pa), some (.ref h'), some (.int (k : Nat)), y7', y8', y9, y10, none, none] ∧ ExtN H9 H' ∧ Tabs T H' ∧ H' h' = some (.lst (nats hs)) ∧ hs.length ≤ 40 * (i + 1) ∧ ∀ m, m ∈ hs ↔ ∃ n, n < 1 + (i + 1) ∧ Start pl k n ∧ m ∈ thr pl n := by
            intro H' y8 e' T' hno
            refine ⟨h, hs, _, _, rfl, e10.trans e', T', extN_lst e' hh10, by omega, fun m => (hhs m).trans ⟨fun ⟨n, h1, h2⟩ => ⟨n, by omega, h2⟩, fun ⟨n, h1, h2, h3⟩ => ⟨n, ?_, h2, h3⟩⟩⟩
            rcases Nat.lt_or_ge n (1 + i) with g | g
            · exact g
            · have : n = 1 + i := by omega
              exact absurd (this ▸ h2) hno
          cases mv with
          | say u =>
            obtain ⟨ma, rfl, hma⟩ := say_inv rm
            refine ⟨_, rfl, _, rfl, pa, px, _, _, rfl, rfl, hpa10.sq, atI_nat hx, sa, _, 0, _, rfl, rfl, hsa10.sq, atI_nat (j := 0) rfl, ma, _, 0, _, rfl, rfl, (hma.kx k710).sq, atI_nat (j := 0) rfl, rfl, _, rfl, ?_⟩
            rw [show decide (V.str "say" = V.str (Str.ofString "ask")) = false by decide]
            exact iteF (skip _ _ (ExtN.refl _) T10 fun ⟨_, b', e'⟩ => by rw [em] at e'; cases e')
          | ask p =>
            obtain ⟨ma, qv, rfl, hma, rq⟩ := ask_inv rm
            obtain ⟨qa, rfl, hqa⟩ := pl_inv rq
            have hma10 := hma.kx k710
            have hqa10 := hqa.kx k710
            refine ⟨_, rfl, _, rfl, pa, px, _, _, rfl, rfl, hpa10.sq, atI_nat hx, sa, _, 0, _, rfl, rfl, hsa10.sq, atI_nat (j := 0) rfl, ma, _, 0, _, rfl, rfl, hma10.sq, atI_nat (j := 0) rfl, rfl, _, rfl, ?_⟩
            rw [show decide (V.str "ask" = V.str (Str.ofString "ask")) = true by decide]
            refine iteT ⟨_, rfl, _, rfl, pa, px, _, _, rfl, rfl, hpa10.sq, atI_nat hx, sa, _, 0, _, rfl, rfl, hsa10.sq, atI_nat (j := 0) rfl, ma, _, 1, _, rfl, rfl, hma10.sq, at_one1 rfl, qa, _, rfl, .inr hqa10.sq, rfl, _, rfl, ?_⟩
            by_cases hp1 : p.length = 1
            · obtain ⟨kk, rfl⟩ : ∃ kk, p = [kk] := by
                match p, hp1 with
                | [kk], _ => exact ⟨kk, rfl⟩
              have hst : Start pl kk (1 + i) := ⟨by omega, _, em⟩
              obtain ⟨tr, etr⟩ := thr_cons pl (1 + i)
              have tup := thrF_up pl (1 + i) (pl.length - (1 + i + 1))
              have hthl : (thr pl (1 + i)).length ≤ 39 := by
                have : (thr pl (1 + i)).length ≤ pl.length - (1 + i + 1) + 1 := tup.2.2
                omega
              rw [show decide (V.int (((nats [kk]).length : Nat) : Int) = V.int 1) = true from decide_eq_true rfl]
              refine iteT ?_
              refine seq_rest (fun σ' H' => ∃ l : Addr, σ' = [some (.ref a), some (.ref b), y2, some (.ref va), some (.ref pa), some (.ref h), some (.int (k : Nat)), some (.int ((1 + i : Nat) : Int)), some (.ref l), y9, y10, none, none] ∧ Same H10 H' ∧ H' l = some (.lst (nats (thr pl (1 + i))))) (fun rest2 => ?_) ?_
              · exact ⟨_, rfl, _, rfl, .ref pa, pl, 1 + i, rfl, rp10, hLW.lp.wb, hn, by omega, fun l H11 hw => rest2 _ _ ⟨l, rfl, hw.s, hw.h⟩⟩
              rintro σ' H11 ⟨l, rfl, s11, hl11⟩
              have T11 : Tabs T H11 := T10.ext fun x o e => s11 _ _ e
              have rp11 := rp10.mono (kx_same s11)
              refine seq_rest (fun σ' H' => σ' = [some (.ref a), some (.ref b), y2, some (.ref va), some (.ref pa), some (.ref h), some (.int (k : Nat)), some (.int ((1 + i : Nat) : Int)), some (.ref l), y9, y10, none, none] ∧ Same H11 H') (fun rest2 => ?_) ?_
              · refine ⟨_, rfl, _, rfl, .ref pa, pl, 1 + i, rfl, rp11, hLW.lp.wb, hn, by omega, fun z H12 s12 rz => ⟨_, rfl, l, _, rfl, .inl ⟨SqL.of (s12 _ _ hl11), fun t nt => ?_⟩⟩⟩
                have sT := same_new nt (.tup (nats (thr pl (1 + i))))
                obtain ⟨n1, n2, n3⟩ := pl_small (thr pl (1 + i))
                refine ⟨z, .ref t, _, _, rfl, rz.mono (kx_same sT), .tup' upd_same (reps_nats _), n3, by show deps _ < 6; omega, by show (szs _ + 1) + 0 ≤ 1000000; omega, fun r hr' => ?_⟩
                rw [hr'.mpr rfl]
                exact ⟨_, rfl, iteF (rest2 _ _ ⟨rfl, s12.trans sT⟩)⟩
              rintro σ' H12 ⟨rfl, s12⟩
              have T12 : Tabs T H12 := T11.ext fun x o e => s12 _ _ e
              have rp12 := rp11.mono (kx_same s12)
              have hl12 := s12 _ _ hl11
              refine seq_rest (fun σ' H' => σ' = [some (.ref a), some (.ref b), y2, some (.ref va), some (.ref pa), some (.ref h), some (.int (k : Nat)), some (.int ((1 + i : Nat) : Int)), some (.ref l), y9, y10, none, none] ∧ ExtN H12 H' ∧ Tabs T H') (fun rest2 => ?_) ?_
              · refine ⟨_, rfl, _, rfl, .ref pa, _, pl, kk, 1 + i, rfl, rp12, hLW, hst, by omega, T12, fun z H13 e13 T13 rz => ⟨_, rfl, _, rfl, .ref pa, l, pl, 1 + i, tr, rfl, rp12.mono (extN_kx e13), by rw [← etr]; exact extN_lst e13 hl12, hLW.lp.wb, fun m hm => ?_, fun m hm hne => ?_, by rw [← etr]; omega, fun z2 H14 s14 rz2 => ?_⟩⟩
                · rw [← etr] at hm
                  rcases (thr_mem hLW.lp.wb hn m).mp hm with e' | ⟨g1, g2, _⟩
                  · omega
                  · omega
                · rw [← etr] at hm ⊢
                  rcases (thr_mem hLW.lp.wb hn m).mp hm with e' | ⟨_, _, g3⟩
                  · exact absurd e' hne
                  · exact g3
                · rw [← etr] at rz2
                  obtain ⟨n1, n2, n3⟩ := play_small (pl := tolds pl (1 + i)) (fun s hs p e => by
                    obtain ⟨m, _, rfl⟩ := List.mem_map.mp hs
                    exact tail_len (ap_mv (ns := []) hplen m) p e)
                  have lt : (tolds pl (1 + i)).length ≤ 39 := by
                    unfold tolds
                    rw [List.length_map]
                    exact hthl
                  refine ⟨z, z2, playD (tolds pl (1 + i)), playD (tolds pl (1 + i)), rfl, rz.mono (kx_same s14), rz2, n3, by show deps ((tolds pl (1 + i)).map stD) < 6; omega, by show (szs ((tolds pl (1 + i)).map stD) + 1) + 0 ≤ 1000000; omega, fun r hr' => ?_⟩
                  rw [hr'.mpr rfl]
                  exact ⟨_, rfl, iteF (rest2 _ _ ⟨rfl, e13.trans (extN_of s14), T13.ext fun x o e => s14 _ _ e⟩)⟩
              rintro σ' H13 ⟨rfl, e13, T13⟩
              have e1013 : ExtN H10 H13 := (extN_of (s11.trans s12)).trans e13
              have k1013 := extN_kx e1013
              have hl13 := extN_lst e13 hl12
              have hh13 := extN_lst e1013 hh10
              refine ⟨_, rfl, _, rfl, pa, px, _, _, rfl, rfl, (hpa10.kx k1013).sq, atI_nat hx, sa, _, 0, _, rfl, rfl, (hsa10.kx k1013).sq, atI_nat (j := 0) rfl, ma, _, 1, _, rfl, rfl, (hma10.kx k1013).sq, at_one1 rfl, _, rfl, (by show 1 ≤ sizeLine; decide), fun t nt => ?_⟩
              have sT := same_new nt (.tup [V.int (k : Nat)])
              have T14 : Tabs T (upd H13 t (.tup [V.int (k : Nat)])) := T13.ext fun x o e => sT _ _ e
              have e14 := e1013.trans (extN_of sT)
              have rk : Rep K (upd H13 t (.tup [V.int (k : Nat)])) (.ref t) (plD [k]) := .tup' upd_same (.one (.at rfl))
              refine ⟨_, _, dp_noL (pl_rep ((hqa10.kx k1013).same sT)) (noLd_nums _), dp_noL rk (noLd_nums _), shaped_pl _, shaped_pl _, _, rfl, ?_⟩
              rw [show PyData.eqv (toPy (plD [kk])) (toPy (plD [k])) = decide ([kk] = [k]) from eqv_pl _ _]
              by_cases hkk : [kk] = [k]
              · have hkk' : kk = k := List.cons.inj hkk |>.1
                subst hkk'
                rw [decide_eq_true rfl]
                refine iteT ⟨_, rfl, _, rfl, h, l, nats hs, nats (thr pl (1 + i)), rfl, rfl, sT _ _ hh13, sT _ _ hl13, small6' (by rw [nats_len, nats_len]; omega), fun c' nc => ?_⟩
                have sC := same_new nc (.lst (nats hs ++ nats (thr pl (1 + i))))
                refine ⟨c', hs ++ thr pl (1 + i), _, _, rfl, (e10.trans e14).trans (extN_of sC), T14.ext (fun x o e => sC _ _ e), ?_, by rw [List.length_append]; omega, fun m => ?_⟩
                · rw [upd_same]
                  unfold nats
                  rw [List.map_append]
                · rw [List.mem_append, hhs m]
                  constructor
                  · rintro (⟨n, h1, h2⟩ | h1)
                    · exact ⟨n, by omega, h2⟩
                    · exact ⟨1 + i, by omega, hst, h1⟩
                  · rintro ⟨n, h1, h2, h3⟩
                    rcases Nat.lt_or_ge n (1 + i) with g | g
                    · exact .inl ⟨n, g, h2, h3⟩
                    · have : n = 1 + i := by omega
                      exact .inr (this ▸ h3)
              · rw [decide_eq_false hkk]
                refine iteF (skip _ _ e14 T14 fun ⟨_, b', e'⟩ => hkk ?_)
                rw [em] at e'
                have e' := Option.some.inj e'
                injection e' with e' _
                injection e'
            · rw [show decide (V.int (((nats p).length : Nat) : Int) = V.int 1) = false from decide_eq_false (fun z => hp1 (by have := V.int.inj z; rw [nats_len] at this; omega))]
              refine iteF (skip _ _ (ExtN.refl _) T10 fun ⟨_, b', e'⟩ => hp1 ?_)
              rw [em] at e'
              have e' := Option.some.inj e'
              injection e' with e' _
              injection e' with e'
              rw [e']
              rfl
        · rintro σ H10 ⟨h, hs, y7, y8, rfl, e10, T10, hh10, hlen, hhs⟩
          refine rest1 _ _ ⟨h, hs, y7, y8, rfl, e10, T10, hh10, fun m => (hhs m).trans ⟨fun ⟨n, _, h2⟩ => ⟨n, h2⟩, fun ⟨n, h2, h3⟩ => ⟨n, ?_, h2, h3⟩⟩⟩
          have := h2.lt
          omega
      rintro σ' H10 ⟨h', hs, y7, y8, rfl, e10, T10, hh10, hhs⟩
      have hB10 := hB9.extN e10
      have k710 := k79.trans (extN_kx e10)
      have rp10 := rp7.mono k710
      have hpa10 := hpa.kx k710
      have hmem : ∀ m, m < pl.length → (m ∈ hs ↔ arg pl m = some k) := fun m hm => (hhs m).trans (arg_thr hLW k m hm).symm
      refine ⟨_, rfl, _, rfl, va, vx, rfl, .inr (hva.kx k710).sq, _, _, rfl, rfl, _, rfl, ?_⟩
      by_cases hkl : ((k : Nat) : Int) < ((vx.length : Nat) : Int)
      · rw [decide_eq_true hkl]
        refine iteT ?_
        have hlo : (outK pl k).length ≤ pl.length := by
          have := List.length_filter_le (fun m => !decide (arg pl m = some k)) (List.range pl.length)
          rw [List.length_range] at this
          exact this
        refine seq_rest (fun σ' H' => ∃ z : V, σ' = [some (.ref a), some (.ref b), y2, some (.ref va), some (.ref pa), some (.ref h'), some (.int (k : Nat)), y7, y8, some z, y10, none, none] ∧ Same H10 H' ∧ Rep K H' z (playD (apart pl (outK pl k)))) (fun rest2 => ?_) ?_
        · refine ⟨_, rfl, _, rfl, pa, px, rfl, .inr hpa10.sq, _, rfl, by omega, by omega, fun d nd' => ?_⟩
          refine lc_range (n := px.length) (fun i H' => Same H10 H' ∧ H' d = some (.lst (nats ((List.range i).filter fun m => !decide (arg pl m = some k))))) ⟨same_new nd' _, upd_same⟩ ?_ ?_
          · rintro i H11 hi ⟨s11, hd⟩
            have ez : (0 : Int) + (i : Nat) = ((i : Nat) : Int) := Int.zero_add _
            have hm := hmem i (by omega)
            have er : (List.range (i + 1)).filter (fun m => !decide (arg pl m = some k)) = (List.range i).filter (fun m => !decide (arg pl m = some k)) ++ (if arg pl i = some k then [] else [i]) := by
              rw [List.range_succ, List.filter_append]
              congr 1
              show List.filter _ [i] = _
              rw [List.filter_cons]
              by_cases g : arg pl i = some k
              · rw [decide_eq_true g, if_pos g]
                rfl
              · rw [decide_eq_false g, if_neg g]
                rfl
            rw [ez, er]
            refine ⟨rfl, _, rfl, _, rfl, h', nats hs, rfl, .inl (SqL.of (s11 _ _ hh10)), rfl, flat_nats _, _, rfl, ?_⟩
            show (if (!inV (.int ((i : Nat) : Int)) (nats hs)) = true then _ else _)
            rw [inV_iff]
            by_cases g : arg pl i = some k
            · rw [decide_eq_true (hm.mpr g), if_pos g, List.append_nil]
              exact iteF ⟨s11, hd⟩
            · rw [decide_eq_false (fun z => g (hm.mp z)), if_neg g]
              have hlen := List.length_filter_le (fun m => !decide (arg pl m = some k)) (List.range i)
              rw [List.length_range] at hlen
              refine iteT ⟨_, rfl, _, hd, small6 (by rw [nats_len]; omega), fun u w' e => ?_, ?_⟩
              · rw [upd_ne (ne_of_none e nd')]
                exact s11 _ _ e
              · rw [upd_same, nats_snoc]
          · rintro H11 ⟨s11, hd⟩
            rw [lpx] at hd
            exact ⟨.ref pa, d, pl, outK pl k, rfl, rp10.mono (kx_same s11), hd, hLW.lp.wb, outK_cl hLW k, by omega, fun z H12 s12 rz => rest2 _ _ ⟨z, rfl, s11.trans s12, rz⟩⟩
        rintro σ' H11 ⟨z, rfl, s11, rz11⟩
        obtain ⟨za, zs, rfl, hza, rzs, lz⟩ := play_inv rz11
        have lap : (apart pl (outK pl k)).length = (outK pl k).length := List.length_map _
        refine seq_rest (fun σ' H' => ∃ dv : V, σ' = [some (.ref a), some (.ref b), y2, some (.ref va), some (.ref pa), some (.ref h'), some (.int (k : Nat)), y7, y8, some (.ref za), some dv, none, none] ∧ Same H10 H' ∧ Rep K H' dv (playD (seenP pl k))) (fun rest2 => ?_) ?_
        · refine ⟨_, rfl, za, rfl, ⟨_, hza.sq⟩, fun d nd' => ?_⟩
          refine lc_tup (K := K) (a := za) (xs := zs) (fun i H' => Same H11 H' ∧ ∃ acc, H' d = some (.lst acc) ∧ acc.length ≤ i ∧ Reps K H' acc ((((apart pl (outK pl k)).take i).map (lowS k)).map stD))
            ⟨same_new nd' _, [], upd_same, Nat.le_refl _, .nil⟩ (fun i H' _ h => (hza.same h.1).sq) ?_ ?_
          · rintro i x H12 hi ⟨s12, acc, hd, lacc, racc⟩
            obtain ⟨dd, hdd, rx⟩ := rzs.get hi
            rw [List.getElem?_map] at hdd
            obtain ⟨st, hst, rfl⟩ := Option.map_eq_some_iff.mp hdd
            have hil := (List.getElem?_eq_some_iff.mp hst).1
            obtain ⟨m, hm, rfl⟩ := List.mem_map.mp (List.mem_of_getElem? hst)
            obtain ⟨hm1, hm2⟩ := outK_mem.mp hm
            have epm : pl[m]? = some pl[m] := List.getElem?_eq_getElem hm1
            have emv : (apS pl (outK pl k) m).mv = pl[m].mv := by
              unfold apS
              rw [epm]
              rfl
            obtain ⟨sa, mv, bv, rfl, hsa, rm, rb⟩ := step_inv rx
            have k3 := kx_same s12
            refine ⟨sa, _, rfl, (hsa.kx k3).sq, rfl, _, _, rfl, _, _, rfl, rfl, rfl, yes_go ⟨_, rfl, _, rfl, mv, (apS pl (outK pl k) m).mv, k, rfl, rm.mono k3, fun a r e => ?_, fun p e => ?_, fun z H4 s4 rz4 => ⟨_, rfl, (by show 2 ≤ sizeLine; decide), fun t nt => ?_⟩⟩⟩
            · rw [emv] at e
              have : arg pl m = some a := by
                unfold arg
                rw [epm]
                show (plcO pl pl[m]).head? = some a
                unfold plcO
                rw [e]
                rfl
              intro z
              rw [this, z] at hm2
              exact hm2 rfl
            · rw [emv] at e
              have := hplen _ (List.mem_of_getElem? epm) p e
              omega
            · have sT := same_new nt (.tup [z, bv])
              have hd5 := sT _ _ (s4 _ _ hd)
              have kl := kx_list hd5 (acc ++ [.ref t])
              have k45 := ((kx_same s4).trans (kx_same sT)).trans kl
              refine ⟨acc, hd5, small6 (by omega), fun u w' e => ?_, acc ++ [.ref t], upd_same, by rw [List.length_append, List.length_singleton]; omega, ?_⟩
              · rw [upd_ne (ne_of_none e nd')]
                exact ((s12.trans s4).trans sT) _ _ e
              · rw [List.take_add_one, hst, List.map_append, List.map_append]
                exact (racc.mono k45).append (.one (.tup (xs := [z, bv]) (.inl (kl.t _ _ upd_same)) (.cons ((rz4.mono (kx_same sT)).mono kl) (.one ((rb.mono k3).mono k45)))))
          · rintro H12 ⟨s12, acc, hd, lacc, racc⟩
            rw [lz, List.take_length] at racc
            refine ⟨d, acc, rfl, .inl ⟨SqL.of hd, fun t nt => ?_⟩⟩
            have sT := same_new nt (.tup acc)
            exact rest2 _ _ ⟨.ref t, rfl, (s11.trans s12).trans sT, .tup' upd_same (racc.mono (kx_same sT))⟩
        rintro σ' H12 ⟨dv, rfl, s12, rdv⟩
        have T12 : Tabs T H12 := T10.ext fun x o e => s12 _ _ e
        refine ⟨_, rfl, _, rfl, .ref pa, _, pl, k, rfl, rp10.mono (kx_same s12), hLW, hsz, by omega, T12, fun z H13 e13 T13 rz => ?_⟩
        obtain ⟨n1, n2, n3⟩ := play_small (pl := seenP pl k) (fun s hs p e => by
          obtain ⟨s', hs', rfl⟩ := List.mem_map.mp hs
          obtain ⟨m, _, rfl⟩ := List.mem_map.mp hs'
          exact low_len (k := k) (fun p' e' => ap_mv (ns := []) hplen m p' e') p e)
        have lsn : (seenP pl k).length ≤ 39 := by
          unfold seenP
          rw [List.length_map, lap]
          omega
        refine ⟨_, rfl, z, dv, playD (seenP pl k), playD (seenP pl k), rfl, rz, rdv.mono (extN_kx e13), n3, by show deps ((seenP pl k).map stD) < 6; omega, by show (szs ((seenP pl k).map stD) + 1) + 0 ≤ 1000000; omega, fun r hr' => ?_⟩
        rw [hr'.mpr rfl]
        exact ⟨_, rfl, iteF ⟨(hB10.same s12).extN e13, T13, _, _, _, _, _, _, _, _, _, rfl⟩⟩
      · rw [decide_eq_false hkl]
        exact iteF ⟨hB10, T10, _, _, _, _, _, _, _, _, _, rfl⟩
    · rintro σ H4 ⟨_, _, y2, y3, y4, y5, y6, y7, y8, y9, y10, rfl⟩
      exact rest _ H4 ⟨y2, y3, y4, y5, y6, y7, y8, y9, y10, rfl⟩
  · rintro σ' H4 ⟨y2, y3, y4, y5, y6, y7, y8, y9, y10, rfl⟩
    exact q _
end
end Pk

namespace Pk
open PySem PySem.Spec PyProof.Rows L2
set_option maxHeartbeats 0

def d_alone : He.DefD := ⟨("alone", none), "alone", "alone", defArgs s_alone, defBody s_alone, defScope s_alone, [], []⟩
def d_thread : He.DefD := ⟨("thread", none), "thread", "thread", defArgs s_thread, defBody s_thread, defScope s_thread, [], []⟩
def d__argument_of : He.DefD := ⟨("_argument_of", none), "_argument_of", "_argument_of", defArgs s__argument_of, defBody s__argument_of, defScope s__argument_of, [], []⟩
def d__with_place : He.DefD := ⟨("_with_place", none), "_with_place", "_with_place", defArgs s__with_place, defBody s__with_place, defScope s__with_place, [], []⟩
def d__moved_on : He.DefD := ⟨("_moved_on", none), "_moved_on", "_moved_on", defArgs s__moved_on, defBody s__moved_on, defScope s__moved_on, [], []⟩
def d__without_argument : He.DefD := ⟨("_without_argument", none), "_without_argument", "_without_argument", defArgs s__without_argument, defBody s__without_argument, defScope s__without_argument, [], []⟩
def d__from_within : He.DefD := ⟨("_from_within", none), "_from_within", "_from_within", defArgs s__from_within, defBody s__from_within, defScope s__from_within, [], []⟩
def d_told_alone : He.DefD := ⟨("told_alone", none), "told_alone", "told_alone", defArgs s_told_alone, defBody s_told_alone, defScope s_told_alone, [], []⟩
def d_seen : He.DefD := ⟨("seen", none), "seen", "seen", defArgs s_seen, defBody s_seen, defScope s_seen, [], []⟩
def d__law_cell : He.DefD := ⟨("_law_cell", none), "_law_cell", "_law_cell", defArgs s__law_cell, defBody s__law_cell, defScope s__law_cell, [], []⟩
def d__law_digits : He.DefD := ⟨("_law_digits", none), "_law_digits", "_law_digits", defArgs s__law_digits, defBody s__law_digits, defScope s__law_digits, [], []⟩
def d__law_draw : He.DefD := ⟨("_law_draw", none), "_law_draw", "_law_draw", defArgs s__law_draw, defBody s__law_draw, defScope s__law_draw, [], []⟩
def d__law_box : He.DefD := ⟨("_law_box", none), "_law_box", "_law_box", defArgs s__law_box, defBody s__law_box, defScope s__law_box, [], []⟩
def d__law_same : He.DefD := ⟨("_law_same", none), "_law_same", "_law_same", defArgs s__law_same, defBody s__law_same, defScope s__law_same, [], []⟩
def d__law_kind : He.DefD := ⟨("_law_kind", none), "_law_kind", "_law_kind", defArgs s__law_kind, defBody s__law_kind, defScope s__law_kind, [], []⟩
def d__law_sight : He.DefD := ⟨("_law_sight", none), "_law_sight", "_law_sight", defArgs s__law_sight, defBody s__law_sight, defScope s__law_sight, [], []⟩
def d__law_asker_sight : He.DefD := ⟨("_law_asker_sight", none), "_law_asker_sight", "_law_asker_sight", defArgs s__law_asker_sight, defBody s__law_asker_sight, defScope s__law_asker_sight, [], []⟩
def d__law_alone : He.DefD := ⟨("_law_alone", none), "_law_alone", "_law_alone", defArgs s__law_alone, defBody s__law_alone, defScope s__law_alone, [], []⟩
def d__law_open : He.DefD := ⟨("_law_open", none), "_law_open", "_law_open", defArgs s__law_open, defBody s__law_open, defScope s__law_open, [], []⟩
def d__law_at : He.DefD := ⟨("_law_at", none), "_law_at", "_law_at", defArgs s__law_at, defBody s__law_at, defScope s__law_at, [], []⟩
def d__law_goes_on : He.DefD := ⟨("_law_goes_on", none), "_law_goes_on", "_law_goes_on", defArgs s__law_goes_on, defBody s__law_goes_on, defScope s__law_goes_on, [], []⟩
def d__law_after : He.DefD := ⟨("_law_after", none), "_law_after", "_law_after", defArgs s__law_after, defBody s__law_after, defScope s__law_after, [], []⟩
def d__law_reply : He.DefD := ⟨("_law_reply", none), "_law_reply", "_law_reply", defArgs s__law_reply, defBody s__law_reply, defScope s__law_reply, [], []⟩
def d__law_play : He.DefD := ⟨("_law_play", none), "_law_play", "_law_play", defArgs s__law_play, defBody s__law_play, defScope s__law_play, [], []⟩
def d__law_thread : He.DefD := ⟨("_law_thread", none), "_law_thread", "_law_thread", defArgs s__law_thread, defBody s__law_thread, defScope s__law_thread, [], []⟩
def d__law_told : He.DefD := ⟨("_law_told", none), "_law_told", "_law_told", defArgs s__law_told, defBody s__law_told, defScope s__law_told, [], []⟩
def d__law_lower : He.DefD := ⟨("_law_lower", none), "_law_lower", "_law_lower", defArgs s__law_lower, defBody s__law_lower, defScope s__law_lower, [], []⟩
def d_law : He.DefD := ⟨("law", none), "law", "law", defArgs s_law, defBody s_law, defScope s_law, [], []⟩
def fn : List He.DefD := [d_alone, d_thread, d__argument_of, d__with_place, d__moved_on, d__without_argument, d__from_within, d_told_alone, d_seen, d__law_cell, d__law_digits, d__law_draw, d__law_box, d__law_same, d__law_kind, d__law_sight, d__law_asker_sight, d__law_alone, d__law_open, d__law_at, d__law_goes_on, d__law_after, d__law_reply, d__law_play, d__law_thread, d__law_told, d__law_lower, d_law]
def fa : List He.Fa := [.glo "alone", .glo "thread", .glo "_argument_of", .glo "_with_place", .glo "_moved_on", .glo "_without_argument", .glo "_from_within", .glo "told_alone", .glo "seen", .glo "_law_cell", .glo "_law_digits", .glo "_law_draw", .glo "_law_box", .glo "_law_same", .glo "_law_kind", .glo "_law_sight", .glo "_law_asker_sight", .glo "_law_alone", .glo "_law_open", .glo "_law_at", .glo "_law_goes_on", .glo "_law_after", .glo "_law_reply", .glo "_law_play", .glo "_law_thread", .glo "_law_told", .glo "_law_lower", .glo "law", .free "enumerate", .free "tuple", .free "range", .free "len", .free "sorted", .free "int", .free "isinstance", .free "bool", .free "str", .free "max", .glo "BEGINNING"]
abbrev R : PySem.W.OpenRow := PySem.W.OpenLaw.row PySem.Challenge.rw_playsense_k55_threads
def adK (K : PySem.W.Frag) (a : Addr) (i : Nat) : Addr := match K.lookup a with
  | some ⟨_, _, .seq its _, _⟩ => (match its[i]? with
    | some (.ref b) => b
    | _ => 0)
  | _ => 0
def tupK (K : PySem.W.Frag) (a : Addr) (vs : List V) : Bool := match K.lookup a with
  | some ⟨.type c, _, .seq its _, _⟩ => decide (c = "tuple") && (decide (its.size ≤ sizeLine) && He.relAll vs its.toList)
  | _ => false
theorem tupK_ok {K : PySem.W.Frag} {a : Addr} {vs : List V} (h : tupK K a vs = true) (H : Hp) : TupAt K H a vs := by
  unfold tupK at h
  split at h
  · next c d its n sl e =>
    obtain ⟨h1, h2⟩ := Bool.and_eq_true_iff.mp h
    obtain ⟨h2, h3⟩ := Bool.and_eq_true_iff.mp h2
    have ec := of_decide_eq_true h1
    subst ec
    exact .inr ⟨_, its, n, e, rfl, rfl, of_decide_eq_true h2, He.relAll_ok h3⟩
  · cases h
def bg0 (K : PySem.W.Frag) : Addr := He.ga K "BEGINNING"
def bg1 (K : PySem.W.Frag) : Addr := adK K (bg0 K) 0
def bg2 (K : PySem.W.Frag) : Addr := adK K (bg1 K) 1
def exB (K : PySem.W.Frag) : Bool := tupK K (bg0 K) [.ref (bg1 K), .non] && (tupK K (bg1 K) [.str "ask", .ref (bg2 K)] && tupK K (bg2 K) [])
theorem beg_ok {K : PySem.W.Frag} (h : exB K = true) (H : Hp) : Rep K H (.ref (bg0 K)) (stD BEG) := by
  obtain ⟨h1, h2⟩ := Bool.and_eq_true_iff.mp h
  obtain ⟨h2, h3⟩ := Bool.and_eq_true_iff.mp h2
  exact .tup (tupK_ok h1 H) (.cons (.tup (tupK_ok h2 H) (.cons (.at rfl) (.one (.tup (tupK_ok h3 H) .nil)))) (.one (.at rfl)))
abbrev tF : List He.Defn := [("_without_argument", none), ("_from_within", none)]
def tA (K : PySem.W.Frag) (x : Str) : Addr := (He.cT K (x, none)).2
def cA (K : PySem.W.Frag) (x : Str) : Addr := (He.cT K (x, none)).1
def exT (K : PySem.W.Frag) : Bool := exB K && decide ((tF.map fun p => (He.cT K p).2).Nodup)
abbrev qL (x : Str) (st : Stmt) : Str := (envOfC x (defScope st) 0 0 .none).qual ++ "<lambda>"
abbrev tT (K : PySem.W.Frag) : List (Addr × Str) := [(tA K "_without_argument", qLam "_without_argument"), (tA K "_from_within", qLam "_from_within")]
abbrev hk : PySem.W.Hook := He.hookX 4 fa fn [] tF exT
def ob (s : PySem.W.SharedT) : He.AlX := He.obsX 4 fa fn [] tF exT (HandSHeadRun.getT s)
theorem ob_eq (s : PySem.W.SharedT) : ob s = hk.obs s.abs := He.obsX_eq (HandSHeadRun.getT_eq s)
def names0 : List PySem.Str := ["__name__", "BEGINNING", "alone", "thread", "_argument_of", "_with_place", "_moved_on", "_without_argument", "_from_within", "told_alone", "seen", "_law_cell", "_law_digits", "_law_draw", "_law_box", "_law_same", "_law_kind", "_law_sight", "_law_asker_sight", "_law_alone", "_law_open", "_law_at", "_law_goes_on", "_law_after", "_law_reply", "_law_play", "_law_thread", "_law_told", "_law_lower"]
abbrev names : List PySem.Str := names0
theorem run (w : World) : HandSHeadRun.RunEq R (PySem.W.view R.prog [31]) hk ob 4000 names w := by
  intro os
  kernel_rfl

theorem walk_ofTsE {l : PySem.W.OpenLaw} {n k : Nat} {q : Program} {loose : List Str} {XP : (Str → Option Value) → Heap → Prop} {YP : World → Heap → Prop} {d : DefRec} {CX : CXT} {x : Str}
    (hn : l.most = some n) (hn2 : n ≤ sizeLine) (hdf : d.params.defaults = []) (hr : Room k callerA)
    (F : ∀ (w : World) (mg : Str → Option Value) (fa : Addr) (h : Heap), YP w h → h.Ns mainGlobals mg → mg d.name = some (.ref fa) →
      ∃ (K : PySem.W.Frag) (fd : FuncData) (cs : List (Addr × Addr)) (sp : Sp), K.In h ∧ (∀ p ∈ cs, h.get? p.2 = some { cls := .none, data := .fields #[] }) ∧ (∀ p ∈ cs, K.lookup p.2 = none) ∧ (∀ p ∈ cs, PySem.W.CodeHd h p.1 p.2) ∧
        (∀ (s : Shared) (u : Value), BindsTo s fd ⟨[u], []⟩ [(x, u)]) ∧
        (∀ (H : Hp) (a : Addr) (ns : List Int), ns.length ≤ n → (∀ p ∈ cs, H p.2 = some (.tbl #[])) → SqL K H a (ns.map V.int) → sp [.ref a] H (fun v _ => v = .bl true) fun _ _ _ => False) ∧
        ∀ base : Heap, K.In base → base.Ns mainGlobals mg → (∀ p ∈ cs, LamX.TabB base mg p.1 p.2) → FnOk l.prog w K mg base CX k fa fd [x] sp)
    (hCX : ∀ (H : Hp) (s : Shared) (e : Value) (s' : Shared), CX [] H s (fun _ _ _ => False) e s' → False) :
    PySem.W.WalkO q loose XP YP l.row.toRowW d [] (fun f vs => PySem.call f vs) := by
  refine Att.attach_call hn hdf fun w s₀ s₁ mg mb fa o pm cd doc a vs ns G Y ho hd hcd hmg hobj hints hlen hg => ?_
  obtain ⟨K, fd, cs, sp, KX, hT, nT, C, hb, hsp, hF⟩ := F w mg fa _ Y G.T.g hmg
  exact LamX.law_callTs KX G.T.g G.T.b G.T.builtins G.T.nolimit hg hT nT C G.T.bmain hobj hints (Nat.le_trans hlen hn2) hr hF hb (fun H hH hS => hsp H a ns hlen hH hS) fun H e s' => hCX H s₁ e s'
theorem facts {P : Program} {w : World} {K : PySem.W.Frag} {h : Heap} {mg : Str → Option Value} {f : Addr} (X : K.In h) (G : h.Ns mainGlobals mg) (hfa : mg ("law" : Str) = some (.ref f)) (cX : He.SaysX fa fn [] tF exT w h K) :
    ∃ fd : FuncData, (∀ (s : Shared) (v : Value), BindsTo s fd ⟨[v], []⟩ [("script", v)]) ∧ ∀ base : Heap, K.In base → base.Ns mainGlobals mg → (∀ p ∈ tF.map (He.cT K), LamX.TabB base mg p.1 p.2) → FnOk P w K mg base CX0 121 f fd ["script"] (spLaw K (tT K)) := by
  have c := cX.t.d
  have hBG : mg "BEGINNING" = some (.ref (bg0 K)) := He.glo_ok X G (c.fact 38 (f := .glo "BEGINNING") rfl)
  have hKB : ∀ H, Rep K H (.ref (bg0 K)) (stD BEG) := beg_ok (Bool.and_eq_true_iff.mp cX.more).1
  obtain ⟨fd_alone, F_alone⟩ := c.def_ 0 (d := d_alone) rfl
  have D_alone : Df K mg "alone" s_alone ["play", "numbers"] _ fd_alone := ⟨F_alone, F_alone.bindsN fun _ _ _ _ _ _ us hl => match us, hl with | [_, _], _ => rfl, He.glo_ok X G (c.fact 0 (f := .glo "alone") rfl)⟩
  obtain ⟨fd_thread, F_thread⟩ := c.def_ 1 (d := d_thread) rfl
  have D_thread : Df K mg "thread" s_thread ["play", "n"] _ fd_thread := ⟨F_thread, F_thread.bindsN fun _ _ _ _ _ _ us hl => match us, hl with | [_, _], _ => rfl, He.glo_ok X G (c.fact 1 (f := .glo "thread") rfl)⟩
  obtain ⟨fd__argument_of, F__argument_of⟩ := c.def_ 2 (d := d__argument_of) rfl
  have D__argument_of : Df K mg "_argument_of" s__argument_of ["play", "step"] _ fd__argument_of := ⟨F__argument_of, F__argument_of.bindsN fun _ _ _ _ _ _ us hl => match us, hl with | [_, _], _ => rfl, He.glo_ok X G (c.fact 2 (f := .glo "_argument_of") rfl)⟩
  obtain ⟨fd__with_place, F__with_place⟩ := c.def_ 3 (d := d__with_place) rfl
  have D__with_place : Df K mg "_with_place" s__with_place ["move", "changed"] _ fd__with_place := ⟨F__with_place, F__with_place.bindsN fun _ _ _ _ _ _ us hl => match us, hl with | [_, _], _ => rfl, He.glo_ok X G (c.fact 3 (f := .glo "_with_place") rfl)⟩
  obtain ⟨fd__moved_on, F__moved_on⟩ := c.def_ 4 (d := d__moved_on) rfl
  have D__moved_on : Df K mg "_moved_on" s__moved_on ["place", "k", "by"] _ fd__moved_on := ⟨F__moved_on, F__moved_on.bindsN fun _ _ _ _ _ _ us hl => match us, hl with | [_, _, _], _ => rfl, He.glo_ok X G (c.fact 4 (f := .glo "_moved_on") rfl)⟩
  obtain ⟨fd__without_argument, F__without_argument⟩ := c.def_ 5 (d := d__without_argument) rfl
  have D__without_argument : Df K mg "_without_argument" s__without_argument ["move", "k"] _ fd__without_argument := ⟨F__without_argument, F__without_argument.bindsN fun _ _ _ _ _ _ us hl => match us, hl with | [_, _], _ => rfl, He.glo_ok X G (c.fact 5 (f := .glo "_without_argument") rfl)⟩
  obtain ⟨fd__from_within, F__from_within⟩ := c.def_ 6 (d := d__from_within) rfl
  have D__from_within : Df K mg "_from_within" s__from_within ["play"] _ fd__from_within := ⟨F__from_within, F__from_within.bindsN fun _ _ _ _ _ _ us hl => match us, hl with | [_], _ => rfl, He.glo_ok X G (c.fact 6 (f := .glo "_from_within") rfl)⟩
  obtain ⟨fd_told_alone, F_told_alone⟩ := c.def_ 7 (d := d_told_alone) rfl
  have D_told_alone : Df K mg "told_alone" s_told_alone ["play", "n"] _ fd_told_alone := ⟨F_told_alone, F_told_alone.bindsN fun _ _ _ _ _ _ us hl => match us, hl with | [_, _], _ => rfl, He.glo_ok X G (c.fact 7 (f := .glo "told_alone") rfl)⟩
  obtain ⟨fd_seen, F_seen⟩ := c.def_ 8 (d := d_seen) rfl
  have D_seen : Df K mg "seen" s_seen ["talk", "k"] _ fd_seen := ⟨F_seen, F_seen.bindsN fun _ _ _ _ _ _ us hl => match us, hl with | [_, _], _ => rfl, He.glo_ok X G (c.fact 8 (f := .glo "seen") rfl)⟩
  obtain ⟨fd__law_cell, F__law_cell⟩ := c.def_ 9 (d := d__law_cell) rfl
  have D__law_cell : Df K mg "_law_cell" s__law_cell ["script", "k"] _ fd__law_cell := ⟨F__law_cell, F__law_cell.bindsN fun _ _ _ _ _ _ us hl => match us, hl with | [_, _], _ => rfl, He.glo_ok X G (c.fact 9 (f := .glo "_law_cell") rfl)⟩
  obtain ⟨fd__law_digits, F__law_digits⟩ := c.def_ 10 (d := d__law_digits) rfl
  have D__law_digits : Df K mg "_law_digits" s__law_digits ["script", "first", "last"] _ fd__law_digits := ⟨F__law_digits, F__law_digits.bindsN fun _ _ _ _ _ _ us hl => match us, hl with | [_, _, _], _ => rfl, He.glo_ok X G (c.fact 10 (f := .glo "_law_digits") rfl)⟩
  obtain ⟨fd__law_draw, F__law_draw⟩ := c.def_ 11 (d := d__law_draw) rfl
  have D__law_draw : Df K mg "_law_draw" s__law_draw ["box", "many"] _ fd__law_draw := ⟨F__law_draw, F__law_draw.bindsN fun _ _ _ _ _ _ us hl => match us, hl with | [_, _], _ => rfl, He.glo_ok X G (c.fact 11 (f := .glo "_law_draw") rfl)⟩
  obtain ⟨fd__law_box, F__law_box⟩ := c.def_ 12 (d := d__law_box) rfl
  have D__law_box : Df K mg "_law_box" s__law_box ["script", "first", "last"] _ fd__law_box := ⟨F__law_box, F__law_box.bindsN fun _ _ _ _ _ _ us hl => match us, hl with | [_, _, _], _ => rfl, He.glo_ok X G (c.fact 12 (f := .glo "_law_box") rfl)⟩
  obtain ⟨fd__law_same, F__law_same⟩ := c.def_ 13 (d := d__law_same) rfl
  have D__law_same : Df K mg "_law_same" s__law_same ["actual", "expected"] _ fd__law_same := ⟨F__law_same, F__law_same.bindsN fun _ _ _ _ _ _ us hl => match us, hl with | [_, _], _ => rfl, He.glo_ok X G (c.fact 13 (f := .glo "_law_same") rfl)⟩
  obtain ⟨fd__law_kind, F__law_kind⟩ := c.def_ 14 (d := d__law_kind) rfl
  have D__law_kind : Df K mg "_law_kind" s__law_kind ["box", "depth", "budget"] _ fd__law_kind := ⟨F__law_kind, F__law_kind.bindsN fun _ _ _ _ _ _ us hl => match us, hl with | [_, _, _], _ => rfl, He.glo_ok X G (c.fact 14 (f := .glo "_law_kind") rfl)⟩
  obtain ⟨fd__law_sight, F__law_sight⟩ := c.def_ 15 (d := d__law_sight) rfl
  have D__law_sight : Df K mg "_law_sight" s__law_sight ["play"] _ fd__law_sight := ⟨F__law_sight, F__law_sight.bindsN fun _ _ _ _ _ _ us hl => match us, hl with | [_], _ => rfl, He.glo_ok X G (c.fact 15 (f := .glo "_law_sight") rfl)⟩
  obtain ⟨fd__law_asker_sight, F__law_asker_sight⟩ := c.def_ 16 (d := d__law_asker_sight) rfl
  have D__law_asker_sight : Df K mg "_law_asker_sight" s__law_asker_sight ["play"] _ fd__law_asker_sight := ⟨F__law_asker_sight, F__law_asker_sight.bindsN fun _ _ _ _ _ _ us hl => match us, hl with | [_], _ => rfl, He.glo_ok X G (c.fact 16 (f := .glo "_law_asker_sight") rfl)⟩
  obtain ⟨fd__law_alone, F__law_alone⟩ := c.def_ 17 (d := d__law_alone) rfl
  have D__law_alone : Df K mg "_law_alone" s__law_alone ["play", "numbers"] _ fd__law_alone := ⟨F__law_alone, F__law_alone.bindsN fun _ _ _ _ _ _ us hl => match us, hl with | [_, _], _ => rfl, He.glo_ok X G (c.fact 17 (f := .glo "_law_alone") rfl)⟩
  obtain ⟨fd__law_open, F__law_open⟩ := c.def_ 18 (d := d__law_open) rfl
  have D__law_open : Df K mg "_law_open" s__law_open ["play"] _ fd__law_open := ⟨F__law_open, F__law_open.bindsN fun _ _ _ _ _ _ us hl => match us, hl with | [_], _ => rfl, He.glo_ok X G (c.fact 18 (f := .glo "_law_open") rfl)⟩
  obtain ⟨fd__law_at, F__law_at⟩ := c.def_ 19 (d := d__law_at) rfl
  have D__law_at : Df K mg "_law_at" s__law_at ["kind", "place"] _ fd__law_at := ⟨F__law_at, F__law_at.bindsN fun _ _ _ _ _ _ us hl => match us, hl with | [_, _], _ => rfl, He.glo_ok X G (c.fact 19 (f := .glo "_law_at") rfl)⟩
  obtain ⟨fd__law_goes_on, F__law_goes_on⟩ := c.def_ 20 (d := d__law_goes_on) rfl
  have D__law_goes_on : Df K mg "_law_goes_on" s__law_goes_on ["kind", "play", "step"] _ fd__law_goes_on := ⟨F__law_goes_on, F__law_goes_on.bindsN fun _ _ _ _ _ _ us hl => match us, hl with | [_, _, _], _ => rfl, He.glo_ok X G (c.fact 20 (f := .glo "_law_goes_on") rfl)⟩
  obtain ⟨fd__law_after, F__law_after⟩ := c.def_ 21 (d := d__law_after) rfl
  have D__law_after : Df K mg "_law_after" s__law_after ["kind", "play"] _ fd__law_after := ⟨F__law_after, F__law_after.bindsN fun _ _ _ _ _ _ us hl => match us, hl with | [_, _], _ => rfl, He.glo_ok X G (c.fact 21 (f := .glo "_law_after") rfl)⟩
  obtain ⟨fd__law_reply, F__law_reply⟩ := c.def_ 22 (d := d__law_reply) rfl
  have D__law_reply : Df K mg "_law_reply" s__law_reply ["rows", "play"] _ fd__law_reply := ⟨F__law_reply, F__law_reply.bindsN fun _ _ _ _ _ _ us hl => match us, hl with | [_, _], _ => rfl, He.glo_ok X G (c.fact 22 (f := .glo "_law_reply") rfl)⟩
  obtain ⟨fd__law_play, F__law_play⟩ := c.def_ 23 (d := d__law_play) rfl
  have D__law_play : Df K mg "_law_play" s__law_play ["box", "kind", "rows", "most", "free"] _ fd__law_play := ⟨F__law_play, F__law_play.bindsN fun _ _ _ _ _ _ us hl => match us, hl with | [_, _, _, _, _], _ => rfl, He.glo_ok X G (c.fact 23 (f := .glo "_law_play") rfl)⟩
  obtain ⟨fd__law_thread, F__law_thread⟩ := c.def_ 24 (d := d__law_thread) rfl
  have D__law_thread : Df K mg "_law_thread" s__law_thread ["play", "n"] _ fd__law_thread := ⟨F__law_thread, F__law_thread.bindsN fun _ _ _ _ _ _ us hl => match us, hl with | [_, _], _ => rfl, He.glo_ok X G (c.fact 24 (f := .glo "_law_thread") rfl)⟩
  obtain ⟨fd__law_told, F__law_told⟩ := c.def_ 25 (d := d__law_told) rfl
  have D__law_told : Df K mg "_law_told" s__law_told ["play", "numbers"] _ fd__law_told := ⟨F__law_told, F__law_told.bindsN fun _ _ _ _ _ _ us hl => match us, hl with | [_, _], _ => rfl, He.glo_ok X G (c.fact 25 (f := .glo "_law_told") rfl)⟩
  obtain ⟨fd__law_lower, F__law_lower⟩ := c.def_ 26 (d := d__law_lower) rfl
  have D__law_lower : Df K mg "_law_lower" s__law_lower ["k", "move"] _ fd__law_lower := ⟨F__law_lower, F__law_lower.bindsN fun _ _ _ _ _ _ us hl => match us, hl with | [_, _], _ => rfl, He.glo_ok X G (c.fact 26 (f := .glo "_law_lower") rfl)⟩
  obtain ⟨fd_law, F_law⟩ := c.def_ 27 (d := d_law) rfl
  have e := hfa.symm.trans (He.glo_ok X G (c.fact 27 (f := .glo "law") rfl))
  cases e
  have D_law : Df K mg "law" s_law ["script"] _ fd_law := ⟨F_law, F_law.bindsN fun _ _ _ _ _ _ us hl => match us, hl with | [_], _ => rfl, hfa⟩
  have hND : (tF.map fun p => (He.cT K p).2).Nodup := of_decide_eq_true (Bool.and_eq_true_iff.mp cX.more).2
  have hc__without_argument : fd__without_argument.code = .ref (cA K "_without_argument") := by
    obtain ⟨oc, od, dV, kV, doc, pm, an, cdv, ct, osl, e1, lk, hcd, _, _⟩ := F__without_argument.ex
    obtain ⟨c0, rfl⟩ := He.codeIn_ref hcd
    have e2 : fd__without_argument.code = .ref c0 := by rw [e1] <;> rfl
    rw [e2]
    exact congrArg Value.ref (He.codeOf_eq lk e2).symm
  have hT__without_argument : (tA K "_without_argument", qLam "_without_argument") ∈ tT K := by simp [tT]
  have hU__without_argument : ∀ p ∈ tT K, p.1 = tA K "_without_argument" → p.2 = qLam "_without_argument" := by
    intro p hp e
    simp only [tT, List.mem_cons, List.not_mem_nil, or_false] at hp
    simp only [tF, List.map_cons, List.map_nil, List.nodup_cons, List.mem_cons, List.not_mem_nil, or_false, not_or, not_false_eq_true] at hND
    rcases hp with rfl | rfl
    · rfl
    · exact absurd e.symm hND.1
  have hc__from_within : fd__from_within.code = .ref (cA K "_from_within") := by
    obtain ⟨oc, od, dV, kV, doc, pm, an, cdv, ct, osl, e1, lk, hcd, _, _⟩ := F__from_within.ex
    obtain ⟨c0, rfl⟩ := He.codeIn_ref hcd
    have e2 : fd__from_within.code = .ref c0 := by rw [e1] <;> rfl
    rw [e2]
    exact congrArg Value.ref (He.codeOf_eq lk e2).symm
  have hT__from_within : (tA K "_from_within", qLam "_from_within") ∈ tT K := by simp [tT]
  have hU__from_within : ∀ p ∈ tT K, p.1 = tA K "_from_within" → p.2 = qLam "_from_within" := by
    intro p hp e
    simp only [tT, List.mem_cons, List.not_mem_nil, or_false] at hp
    simp only [tF, List.map_cons, List.map_nil, List.nodup_cons, List.mem_cons, List.not_mem_nil, or_false, not_or, not_false_eq_true] at hND
    rcases hp with rfl | rfl
    · exact absurd e hND.1
    · rfl
  have B : Bt mg := ⟨He.free_ok X G (c.fact 28 (f := .free "enumerate") rfl), He.free_ok X G (c.fact 29 (f := .free "tuple") rfl), He.free_ok X G (c.fact 30 (f := .free "range") rfl), He.free_ok X G (c.fact 31 (f := .free "len") rfl), He.free_ok X G (c.fact 32 (f := .free "sorted") rfl), He.free_ok X G (c.fact 33 (f := .free "int") rfl), He.free_ok X G (c.fact 34 (f := .free "isinstance") rfl), He.free_ok X G (c.fact 35 (f := .free "bool") rfl), He.free_ok X G (c.fact 36 (f := .free "str") rfl), He.free_ok X G (c.fact 37 (f := .free "max") rfl)⟩
  have b := FunD.bindsA (ps := ["script"]) F_law fun _ _ _ _ _ _ us hl => match us, hl with | [_], _ => rfl
  refine ⟨fd_law, fun s v => b s [v] rfl, fun base _ _ TB => ?_⟩
  have TB__without_argument : LamX.TabB base mg (cA K "_without_argument") (tA K "_without_argument") := TB (He.cT K ("_without_argument", none)) (by simp [tF])
  have TB__from_within : LamX.TabB base mg (cA K "_from_within") (tA K "_from_within") := TB (He.cT K ("_from_within", none)) (by simp [tF])
  exact ok_law hBG hKB TB__without_argument TB__from_within hT__without_argument hU__without_argument hT__from_within hU__from_within D_law B D_alone D_thread D__argument_of D__with_place D__moved_on D__without_argument D__from_within D_told_alone D_seen D__law_cell D__law_digits D__law_draw D__law_box D__law_same D__law_kind D__law_sight D__law_asker_sight D__law_alone D__law_open D__law_at D__law_goes_on D__law_after D__law_reply D__law_play D__law_thread D__law_told D__law_lower hc__without_argument hc__from_within
end Pk
open PySem PySem.W PySem.Calls PyProof.Rows
set_option maxHeartbeats 0
theorem PySem.Challenge.cw_playsense_k55_threads_holds : PySem.Challenge.rw_playsense_k55_threads.Holds := by
  w_on; o_law
  refine HandSHeadRun.head_any (r := OpenLaw.row PySem.Challenge.rw_playsense_k55_threads) (q := view (OpenLaw.row PySem.Challenge.rw_playsense_k55_threads).prog [31]) (H := Pk.hk) (ob := Pk.ob) (M := 4000) (loose := Pk.names) (d := HandSHeadRun.topDef (OpenLaw.row PySem.Challenge.rw_playsense_k55_threads).prog 31) (kwd := []) Pk.ob_eq
    (by kernel_rfl) (fun s => by kernel_rfl) Pk.run (by kernel_rfl) (by kernel_rfl) (by kernel_rfl) (by rfl) (by first | assumption | decide +kernel) (by decide +kernel) ⟨rfl, rfl, rfl, rfl, rfl, by decide +kernel⟩ ?hw ?hc
  case hw => w_witness2
  case hc =>
    refine Pk.walk_ofTsE (l := PySem.Challenge.rw_playsense_k55_threads) (n := 63) (k := 121) (x := "script") (CX := L2.CX0) rfl (by decide) (by kernel_rfl) ⟨rfl, by decide, by decide⟩ ?F (fun _ _ _ _ z => z)
    intro w mg fa h Y G hmg0
    obtain ⟨K, KX, c⟩ := Y
    have hmg : mg ("law" : PySem.Str) = some (.ref fa) := by
      have e : (HandSHeadRun.topDef (OpenLaw.row PySem.Challenge.rw_playsense_k55_threads).prog 31).name = ("law" : PySem.Str) := by kernel_rfl
      rw [← e]
      exact hmg0
    obtain ⟨fd, hb, hF⟩ := Pk.facts (P := (PySem.Challenge.rw_playsense_k55_threads).prog) (w := w) KX G hmg c
    refine ⟨K, fd, Pk.tF.map (He.cT K), Pk.spLaw K (Pk.tT K), KX, fun p hp => ?_, fun p hp => ?_, fun p hp => ?_, hb, fun H a ns hl hH hS => ⟨a, ns, rfl, hS, hl, ?_, fun _ => rfl⟩, hF⟩
    · obtain ⟨x, hx, rfl⟩ := List.mem_map.mp hp
      exact c.empty x hx
    · obtain ⟨x, hx, rfl⟩ := List.mem_map.mp hp
      exact c.out x hx
    · obtain ⟨x, hx, rfl⟩ := List.mem_map.mp hp
      exact PySem.W.codeHd_of_K KX (c.hd x hx)
    · have hH2 : ∀ x ∈ Pk.tF, H (He.cT K x).2 = some (.tbl #[]) := fun x hx => hH _ (List.mem_map.mpr ⟨x, hx, rfl⟩)
      intro p hp
      simp only [Pk.tT, List.mem_cons, List.not_mem_nil, or_false] at hp
      rcases hp with rfl | rfl
      · exact LamX.TabS.nil (hH2 ("_without_argument", none) (by simp [Pk.tF]))
      · exact LamX.TabS.nil (hH2 ("_from_within", none) (by simp [Pk.tF]))
