import PyProof.Rows.All
import Wide.All
import OpenK.AllK
import Wide.FinOn
import PyProof.EqAt
import PyProof.EqKinds
import PyProof.TupleCall
import HandS.ForMost
import HandS.TupAny
import HandS.TupMul
import HandS.TupLe
import HandS.IsInst
import KE.GoesMore
import KE.KRevSl
import KE.KStateDown
import HandS.Base
import HandS.Call
import HandS.Ends
import HandS.More
import HandS.Words
import HandS.WordsExc
import HandS.Defaults
import HandS.Head0
import HandS.Head1
import HandS.Head2
import HandS.HeadEnd
import HandS.HeadHook1
import HandS.HeadHook2
import PySem.Challenge.RW_playsense_k00_kinds_and_their_places
set_option Elab.async false
set_option linter.all false
set_option maxRecDepth 100000
set_option maxHeartbeats 4000000
/-! Rules of our own: list.extend of a tuple, xs[::-1], enumerate of a tuple, () * k. -/
namespace Pk
open PySem PySem.Spec PyProof.Rows L2

/-! ### list.extend(tuple) -/
theorem list_extend_tupW (l : Addr) (items : Array Value) (n : Nat) (b : Addr) (items2 : Array Value) (n2 : Nat) (dd : Option Addr) (sl : Array (Option Value))
    (hs0 : ¬(!items.isEmpty && Builtin.List.listTooLong (items.size + items2.size)) = true) (hs1 : items.size ≤ sizeLine) (hs2 : items.size + items2.size ≤ sizeLine + 1) :
    Meets (Builtin.«list.extend» ⟨[.ref l, .ref b], []⟩) (fun _ R s => s.heap.get? l = some { cls := .type "list", dict := none, data := .seq items n, slots := #[] } ∧ s.heap.get? b = some { cls := .type "tuple", dict := dd, data := .seq items2 n2, slots := sl } ∧
      R (.ok (.ret Value.none)) { s with heap := s.heap.update l (Obj.mapSeq fun x => x ++ items2), toks := s.toks }) :=
  .of_wp fun prog w A R s h => by
    obtain ⟨hp, g, d, tk, os⟩ := s
    obtain ⟨hl, hb, h⟩ := h
    have f1 := AutoSeq1.idx_int
    have f2 := AutoSeq1.sub_tuple_tuple
    have f3 := AutoSeq1.sub_list_list
    have f4 := AutoSeq1.sub_tuple_list
    have f5 := AutoSeq1.sub_list_tuple
    have hz' : (items ++ items2).size ≤ sizeLine + 1 := by rw [Array.size_append]; exact hs2
    wp_walk using (wpAny_updateSeq hl rfl (hz := hs1) (_hz' := hz')), AutoSeq1.wpAny_loadPart' hl, AutoSeq1.wpAny_loadPart' hb
    exact ⟨_, rfl, h⟩
def rExtendT (K : PySem.W.Frag) : V → List V → Hp → VK → Prop := fun x vs H Q => ∃ l b xs zs, x = .ref l ∧ vs = [.ref b] ∧ H l = some (.lst xs) ∧ SqT K H b zs ∧ xs.length + zs.length ≤ sizeLine ∧ Q .non (upd H l (.lst (xs ++ zs)))
section
variable {X : Cx}
theorem mt_extendT : MtM X "list.extend" (rExtendT X.K) := by
  intro pins s σ H x vs v us Q I rx rv h
  obtain ⟨l, b, xs, zs, rfl, rfl, hH, hB, hz, q⟩ := h
  cases rx
  obtain ⟨u, rfl, ru⟩ := rv.one
  cases ru
  obtain ⟨z, its, n, r, hl, e⟩ := I.lstM hH
  obtain ⟨its2, r2, ⟨⟨cls, dd, data, sl⟩, ho, hc, n2, hd⟩, hz2⟩ := I.tuple hB
  simp only at hc hd
  subst hc hd
  have hl2 := r2.length
  have hsz : its.toArray.size + its2.toArray.size ≤ sizeLine := by rw [List.size_toArray, List.size_toArray]; omega
  have hlong : ¬ (!its.toArray.isEmpty && Builtin.List.listTooLong (its.toArray.size + its2.toArray.size)) = true := by
    rw [notLongL hsz, Bool.and_false]
    exact Bool.false_ne_true
  refine call_meets F.slot_list_extend ⟨_, e, rfl⟩ F.entry_list_extend (F.args_list_extend_2 _ _)
    (list_extend_tupW l its.toArray n b its2.toArray n2 dd sl hlong (by rw [List.size_toArray]; omega) (by omega)) ⟨e, ho, ?_⟩
  refine ⟨.non, _, I.lset (its' := its ++ its2) hH e (by simp) (r.append r2) ?_, rfl, q⟩
  rw [List.length_append]
  omega

/-! ### xs[::-1] -/
def tRevL (K : PySem.W.Frag) (te : TE) : TE := fun σ H Q => te σ H fun x H1 => ∃ a xs, x = .ref a ∧ SqL K H1 a xs ∧ ∀ p, H1 p = none → Q (.ref p) (upd H1 p (.lst xs.reverse))
theorem pe_revL {e : Expr} {te : TE} {j : Nat} {p2 p3 p4 pos : Pos} (he : PE X e te) : PE X (.Subscript e (.Slice none none (some (.UnaryOp .USub (.Constant (.int 1) j p4) p3)) p2) pos) (tRevL X.K te) := by
  refine ⟨fun pins s σ H Q I h => ?_⟩
  refine Subscript_ (thn (he.run pins s σ H _ I h) fun v s1 ⟨x, H1, I1, r1, q1⟩ => ?_)
  have hst := po_some (X := X) (pe_un (pos := p3) un_neg (pe_int (i := 1) (j := j) (pos := p4)))
  refine wpAny_Slice ?_
  rw [evalPart_none]
  refine wpAny_pure ?_
  refine wpAny_pure ?_
  refine thn (hst.run pins s1 σ H1 (fun o H' => o = some (-1) ∧ H' = H1) I1 ?_) fun vs s3 ⟨o, H3, I3, ps, q3⟩ => ?_
  · exact ⟨1, rfl, -1, rfl, rfl, rfl⟩
  obtain ⟨rfl, rfl⟩ := q3
  obtain ⟨a, xs, rfl, hx, q⟩ := q1
  cases r1
  have I4 : Inv X pins σ H3 { s3 with heap := s3.heap.push { cls := .type "slice", data := .fields #[.none, .none, vs] } } := I3.kept (t' := s3.toks) fun b ob q => Heap.get?_push_of_some _ q
  obtain ⟨its, r, ht, hz⟩ := I4.list hx
  have hlen := r.length
  show wpAny (model X.prog X.w) X.A (subscriptTail e (.Slice none none (some (.UnaryOp .USub (.Constant (.int 1) j p4) p3)) p2) (.ref a) (.ref s3.heap.objs.size)) (EP X pins σ Q) X.xe { s3 with heap := s3.heap.push { cls := .type "slice", data := .fields #[.none, .none, vs] } }
  refine tail_any (ops := _) ht.isList.typeIs slot_list_getitem.lookup ?_ (by with_unfolding_all rfl)
  refine wpAny_getItem_list_slice ht.isList (Heap.IsSliceOf.new ..) .none .none ps (by decide) ?_ (by rw [List.size_toArray]; omega)
  have ep : slicePick its.toArray none none (some (-1)) = its.reverse.toArray := PySem.W.krv_pick _
  rw [ep]
  refine ⟨.ref _, _, I4.laid (t' := s3.toks) (o := .lst xs.reverse) (fun b ob q => Heap.get?_push_of_some _ q) (Nat.le_refl _) ?_, rfl, q _ (I4.hok.fresh (Nat.le_refl _))⟩
  exact ⟨by rw [List.length_reverse]; exact hz, _, 0, r.reverse, Heap.get?_push_size _ rfl⟩

/-! ### () * k -/
theorem tuple_mul0 (l : Addr) (items : Array Value) (n : Nat) (dd : Option Addr) (sl : Array (Option Value)) (x : Int) (u : Tok) (c0 : (decide (x < -(2 ^ 63)) || decide (x ≥ 2 ^ 63)) = false) (c1 : (items.isEmpty || x == 1) = true) :
    Meets (Builtin.«tuple.__mul__» ⟨[.ref l, .int x u], []⟩) (fun _ R s => s.heap.get? l = some { cls := .type "tuple", dict := dd, data := .seq items n, slots := sl } ∧ R (.ok (.ret (Value.ref l))) s) :=
  .of_wp fun prog w A R s h => by
    obtain ⟨hp, g, d, tk, os⟩ := s
    obtain ⟨hl, h⟩ := h
    have f1 := AutoSeq1.idx_int
    wp_walk using AutoSeq1.wpAny_loadPart' hl
    repeat (first
      | (refine wpAny_ite_false (decide_eq_false (by rw [c0]; exact Bool.false_ne_true)) ?_; wp_walk using AutoSeq1.wpAny_loadPart' hl)
      | (refine wpAny_ite_true (decide_eq_true (by rw [c1])) ?_; wp_walk using AutoSeq1.wpAny_loadPart' hl))
    exact ⟨_, rfl, h⟩
def rRep0 (K : PySem.W.Frag) : R2 := fun x y H Q => ∃ l k, x = .ref l ∧ y = .int k ∧ SqT K H l [] ∧ 2 ≤ k ∧ k ≤ 1000 ∧ Q (.ref l) H
theorem op_rep0 : OpR X (binaryOp .Mult) (rRep0 X.K) := by
  intro pins s σ H x y v u Q I rx ry h
  obtain ⟨l, k, rfl, rfl, hT, h1, h2, q⟩ := h
  cases rx
  obtain ⟨t, rfl⟩ := ry
  obtain ⟨its, r, ⟨⟨cls, dd, data, sl⟩, ho, hc, n, hd⟩, hs⟩ := I.tuple hT
  simp only at hc hd
  subst hc hd
  cases r
  have c0 : (decide (k < -(2 ^ 63)) || decide (k ≥ 2 ^ 63)) = false := by
    rw [decide_eq_false (by omega), decide_eq_false (by omega)] <;> rfl
  refine wpAny_binaryOp_repeat_ref (T := "tuple") (U := "int") (by decide) ⟨_, ho, rfl⟩ (fun s' => typeIs_int s' k t) noFill_tuple_mul F.fills_int_mul F.slot_int_rmul repeat_tuple F.slot_int_index.lookup
    (call_meets F.slot_int_rmul (typeIs_int s k t) F.entry_int_rmul (F.args_int_rmul_2 _ _) (int_rmul_tuple k t l _ n dd sl)
      ⟨ho, rfl, ⟨_, ho, rfl⟩, call_meets F.slot_tuple_mul ⟨_, ho, rfl⟩ F.entry_tuple_mul (F.args_tuple_mul_2 _ _) (tuple_mul0 l _ n dd sl k t c0 rfl) ⟨ho, ?_⟩⟩)
  exact ⟨.ref l, H, I, rfl, q⟩
end

/-! ### t + u of tracked tuples, one way on -/
section
variable {X : Cx}
def rCatR : R2 := fun x y H Q => ∃ a b xs ys, x = .ref a ∧ y = .ref b ∧ H a = some (.tup xs) ∧ H b = some (.tup ys) ∧ xs.length + ys.length ≤ sizeLine ∧ ∀ (c : Addr) (H' : Hp), Same H H' → H' c = some (.tup (xs ++ ys)) → Q (.ref c) H'
theorem op_catR : OpR X (binaryOp .Add) rCatR := by
  intro pins s σ H x y v u Q I rx ry h
  obtain ⟨a, b, xs, ys, rfl, rfl, ha, hb, hz, q⟩ := h
  refine op_catA pins s σ H _ _ v u Q I rx ry ⟨a, b, xs, ys, rfl, rfl, SqT.of ha, SqT.of hb, hz, fun e => ?_, fun _ e => ?_, fun _ _ p np => ?_⟩
  · subst e
    exact q b H (Same.refl H) hb
  · subst e
    exact q a H (Same.refl H) (by rw [List.append_nil]; exact ha)
  · exact q p _ (fun c o e => by rw [upd_ne (ne_of_none e np)]; exact e) upd_same
end

/-! ### t[lo:hi] of a tracked tuple, one way on -/
theorem cutV_whole {xs : List V} {lo hi : Option Int} (h : HT.sIx xs.length 0 lo = 0 ∧ HT.sIx xs.length xs.length hi = xs.length) : cutV xs lo hi = xs := by
  unfold cutV
  rw [h.1, h.2, List.drop_zero, Nat.sub_zero, List.take_length]
theorem cutV_to (xs : List V) (k : Nat) : cutV xs none (some (k : Int)) = xs.take k := by
  unfold cutV
  rw [HT.sIx_none, HT.sIx_nat, List.drop_zero, Nat.sub_zero]
  by_cases h : k ≤ xs.length
  · rw [Nat.min_eq_left h]
  · rw [Nat.min_eq_right (by omega), List.take_length, List.take_of_length_le (by omega)]
theorem cutV_from (xs : List V) (k : Nat) : cutV xs (some (k : Int)) none = xs.drop k := by
  unfold cutV
  rw [HT.sIx_none, HT.sIx_nat]
  by_cases h : k ≤ xs.length
  · rw [Nat.min_eq_left h]
    exact List.take_of_length_le (by rw [List.length_drop]; exact Nat.le_refl _)
  · rw [Nat.min_eq_right (by omega), List.drop_length, List.drop_of_length_le (by omega)]
    exact List.take_nil
section
variable {X : Cx}
def rSlR : V → Option Int → Option Int → Hp → VK → Prop := fun x lo hi H Q => ∃ a xs, x = .ref a ∧ H a = some (.tup xs) ∧ ∀ (c : Addr) (H' : Hp), Same H H' → H' c = some (.tup (cutV xs lo hi)) → Q (.ref c) H'
theorem sl_tupR : SlR X rSlR := by
  intro pins s σ H x v vl vu lo hi sl Q I rx hs pl pu h
  obtain ⟨a, xs, rfl, hx, q⟩ := h
  refine sl_tupA pins s σ H _ v vl vu lo hi sl Q I rx hs pl pu ⟨a, xs, rfl, SqT.of hx, fun z => ?_, fun _ p np => ?_⟩
  · exact q a H (Same.refl H) (by rw [cutV_whole z]; exact hx)
  · exact q p _ (fun c o e => by rw [upd_ne (ne_of_none e np)]; exact e) upd_same
end

/-! ### t * k of a tracked tuple, one way on -/
section
variable {X : Cx}
theorem rep_nil {α : Type} : ∀ k : Nat, (List.replicate k ([] : List α)).flatten = []
  | 0 => rfl
  | k + 1 => by
    rw [List.replicate_succ, List.flatten_cons, rep_nil k]
    rfl
def rRepR : R2 := fun x y H Q => ∃ l k xs, x = .ref l ∧ y = .int k ∧ H l = some (.tup xs) ∧ 2 ≤ k ∧ k ≤ 1000 ∧ xs.length ≤ 1000 ∧ ∀ (c : Addr) (H' : Hp), Same H H' → H' c = some (.tup (List.replicate k.toNat xs).flatten) → Q (.ref c) H'
theorem op_repR : OpR X (binaryOp .Mult) rRepR := by
  intro pins s σ H x y v u Q I rx ry h
  obtain ⟨l, k, xs, rfl, rfl, hx, h1, h2, hz, q⟩ := h
  by_cases e : xs = []
  · subst e
    exact op_rep0 pins s σ H _ _ v u Q I rx ry ⟨l, k, rfl, rfl, SqT.of hx, h1, h2, q l H (Same.refl H) (by rw [rep_nil]; exact hx)⟩
  · exact op_repT pins s σ H _ _ v u Q I rx ry ⟨l, k, xs, rfl, rfl, SqT.of hx, e, h1, h2, hz, fun p np => q p _ (fun c o z => by rw [upd_ne (ne_of_none z np)]; exact z) upd_same⟩
end

/-! ### xs == [] -/
section
variable {X : Cx}
def rEqNil (K : PySem.W.Frag) : R2 := fun x y H Q => ∃ a b xs, x = .ref a ∧ y = .ref b ∧ SqL K H a xs ∧ SqL K H b [] ∧ Q (.bl xs.isEmpty) H
theorem op_eqNil (hu : X.A.units + 64 < cLine) : OpR X (compareOp .Eq) (rEqNil X.K) := by
  intro pins s σ H x y v u Q I rx ry h
  obtain ⟨a, b, xs, rfl, rfl, ha, hb, q⟩ := h
  cases rx
  cases ry
  obtain ⟨its, r1, p1, _⟩ := I.list ha
  obtain ⟨its2, r2, p2, _⟩ := I.list hb
  cases r2
  have hu' : X.A.units < cLine := by omega
  cases r1 with
  | nil => exact SeqAt.eq_listAt (e := fun _ => true) p1.isList p2.isList rfl hu' (fun j h1 h2 => by simp at h1) ⟨.bl true, H, I, rfl, q⟩
  | cons r t => exact SeqAt.eq_list_lengthsAt p1.isList p2.isList rfl hu' ⟨.bl false, H, I, rfl, q⟩
end

/-! ### enumerate(tuple) -/
theorem meets_enumerate_newT (l : Addr) (items : Array Value) (n : Nat) (dct : Option Addr) (sl : Array (Option Value)) :
    Meets (Builtin.«enumerate.__new__» ⟨[.type "enumerate", .ref l], []⟩) (fun _ R s => s.heap.get? l = some { cls := .type "tuple", dict := dct, data := .seq items n, slots := sl } ∧
      R (.ok (.ret (.ref (s.heap.push { cls := .type "tuple_iterator", data := .fields #[.ref l, .int 0 0] }).objs.size)))
        { s with heap := (s.heap.push { cls := .type "tuple_iterator", data := .fields #[.ref l, .int 0 0] }).push { cls := .type "enumerate", data := .fields #[.none, .bool false, .ref s.heap.objs.size, rawInt 0, .none, .none] } }) :=
  .of_wp fun prog w A R s h => by
    obtain ⟨hp, g, d, tk, os⟩ := s; obtain ⟨hl, h⟩ := h
    have hsub := sub_enumerate
    have hL : Heap.IsTuple (Shared.heap ⟨hp, g, d, tk, os⟩) l items := ⟨_, hl, rfl, n, rfl⟩
    wp_walk using AutoSeq1.wpAny_loadPart' hl
    refine wpAny_stack_any fun st => wpAny_pure ?_
    split
    · rename_i c _ _ _ _ _
      cases (c == Value.type "enumerate")
      · wp_walk using AutoSeq1.wpAny_loadPart' hl, wpAny_pyIter_tuple hL
        exact ⟨_, rfl, h⟩
      · wp_walk using AutoSeq1.wpAny_loadPart' hl, wpAny_pyIter_tuple hL
        exact ⟨_, rfl, h⟩
    · wp_walk using AutoSeq1.wpAny_loadPart' hl, wpAny_pyIter_tuple hL
      exact ⟨_, rfl, h⟩
section
variable {prog : Program} {w : World} {A : Around} {E : Value → Shared → Prop} {s : Shared}
theorem call_enumerate_tup {l : Addr} {items : Array Value} {Q : Value → Shared → Prop} (hL : IsTup s.heap l items)
    (h : ∀ h', IsEnum h' (s.heap.objs.size + 1) s.heap.objs.size 0 .none → h'.IsTupleIter s.heap.objs.size l 0 → h'.objs.size = s.heap.objs.size + 2 →
      (∀ b o, s.heap.get? b = some o → h'.get? b = some o) → Q (.ref (s.heap.objs.size + 1)) { s with heap := h' }) :
    wpAny (model prog w) A (call (.type "enumerate") [.ref l]) Q E s := by
  obtain ⟨⟨c, dct, dt, sl⟩, hl, hc, n, hd⟩ := hL
  replace hc : c = .type "tuple" := hc
  replace hd : dt = .seq items n := hd
  subst hc hd
  refine callType_new F.called_enumerate (by decide) (F.typeCall_enumerate_1 _) (F.newCall_enumerate_1 _) (fun obj => F.args_object_init_2 obj _) F.entry_enumerate_new
    (meets_enumerate_newT l items n dct sl) ⟨hl, ?_⟩
  have hz : (s.heap.push { cls := .type "tuple_iterator", data := .fields #[.ref l, .int 0 0] }).objs.size = s.heap.objs.size + 1 := Heap.size_push ..
  show _ ∧ _
  rw [hz]
  have he : IsEnum ((s.heap.push { cls := .type "tuple_iterator", data := .fields #[.ref l, .int 0 0] }).push
      { cls := .type "enumerate", data := .fields #[.none, .bool false, .ref s.heap.objs.size, rawInt 0, .none, .none] }) (s.heap.objs.size + 1) s.heap.objs.size 0 .none := by
    have := Heap.get?_push_size (s.heap.push { cls := .type "tuple_iterator", data := .fields #[.ref l, .int 0 0] })
      (o := { cls := .type "enumerate", data := .fields #[.none, .bool false, .ref s.heap.objs.size, rawInt 0, .none, .none] }) rfl
    rw [hz] at this; exact this
  refine ⟨⟨_, he, rfl⟩, h _ he ⟨_, Heap.get?_push_of_some _ (Heap.get?_push_size _ rfl), rfl, rfl⟩ (by rw [Heap.size_push, hz]) fun b o x => Heap.get?_push_of_some _ (Heap.get?_push_of_some _ x)⟩
theorem wpAny_pyNext_enumT_end {e it l : Addr} {i : Nat} {items : Array Value} {old : Value} {Q : Option Value → Shared → Prop} (hh : A.handled = none)
    (he : IsEnum s.heap e it i old) (hit : s.heap.IsTupleIter it l i) (hl : IsTup s.heap l items) (hx : items[i]? = none)
    (hQ : ∀ h', Heap.ExtBut it s.heap h' → Q none { s with heap := h' }) : wpAny (model prog w) A (pyNext (.ref e)) Q E s := by
  have hTy : s.TypeIs (.ref e) "enumerate" := ⟨_, he, rfl⟩
  unfold pyNext
  refine wpAny_bind (wpAny_attempt (wpAny_callSpecial?_slot (name := Str.ofString "__next__") hTy F.slot_enumerate_next
    (wpAny_call_entry F.slot_enumerate_next hTy F.entry_enumerate_next ?_ (F.args_enumerate_next_1 _))))
  show wpAny _ _ (field (.ref e) 2 >>= _) _ _ _
  refine wpAny_bind (wpAny_field he rfl (x := .ref it) rfl ?_)
  refine wpAny_bind (wpAny_nextOf_tuple_end hh hit hl hx fun h' x he' hx' => ?_)
  obtain ⟨o, ho, hc⟩ := hx'
  refine wpAny_bind (wpAny_isInstance (T := "StopIteration") (b := true) ⟨o, ho, hc⟩ isSubtype_stop ?_)
  exact wpAny_pure (hQ _ he')
end
def Itet (K : PySem.W.Frag) (a : Addr) : It :=
  ⟨fun i H => ∃ (xs : List V) (x : V), SqT K H a xs ∧ xs[i]? = some x, fun i H v H' => ∃ T x, v = .ref T ∧ H T = none ∧ H' = upd H T (.tup [.int (i : Nat), x]) ∧ ∀ xs, SqT K H a xs → xs[i]? = some x, fun i H => ∃ xs : List V, SqT K H a xs ∧ xs.length ≤ i⟩
theorem turn_enumT {P : Program} {w : World} {K : PySem.W.Frag} {elts : List Expr} {kk : Nat} {tpos : Pos} (a e it : Addr) (hai : a ≠ it) :
    Turn P w K (.Tuple elts kk tpos) (Itet K a) [e, it] e (fun i h => (∃ old, IsEnum h e it ((i : Nat) : Int) old) ∧ h.IsTupleIter it a i ∧ e ≠ it ∧ e ≠ a) where
  mem := by simp
  obj := fun i h st b hb => by
    obtain ⟨⟨old, he⟩, ⟨o, ho, hc, hd⟩, _⟩ := st
    have e' : b = e ∨ b = it := by simpa using hb
    rcases e' with z | z
    · rw [z]; exact ⟨_, he, fun v q => nomatch q⟩
    · rw [z]; exact ⟨o, ho, fun v q => by rw [hd] at q; cases q⟩
  keep := fun i h h' st k => let ⟨⟨old, he⟩, hi, hne⟩ := st; ⟨⟨old, k e (by simp) _ he⟩, hi.at fun o q => k it (by simp) o q, hne⟩
  item := by
    intro X hP hw hK hc i pins s σ H E I hf st hg
    subst hP hw hK
    obtain ⟨⟨old, he⟩, hit, hne, hea⟩ := st
    obtain ⟨xs, x, hq, hx⟩ := hg
    obtain ⟨its, rv, p, hz⟩ := I.tuple hq
    obtain ⟨u, hu, ru⟩ := rv.get hx
    have hel : e < s.heap.objs.size := Heap.lt_size he
    have hil : it < s.heap.objs.size := by obtain ⟨_, q, _⟩ := hit; exact Heap.lt_size q
    have hlt : i < its.toArray.size := by
      have z1 := (List.getElem?_eq_some_iff.mp hu).1
      rw [List.size_toArray]
      exact z1
    refine wpAny_pyNext_enum_itemD (Draws.tuple (prog := X.prog) (w := X.w) (A := X.A.in1) (I.ok.hd hc) it a hai its.toArray) he ⟨hit, p⟩ hlt hne (by simp; exact ⟨hne, hea⟩) fun x' h' tk hP' ho' st' hT hsz hk => ?_
    have ex : x' = u := by
      have z1 : its.toArray[i]? = some u := by simpa using hu
      rw [z1] at hP'
      exact (Option.some.inj hP').symm
    subst ex
    refine ⟨_, rfl, wpAny_letOwnedTupleGo_enum (s := { s with heap := h', toks := tk + 1 }) ho' fun h'' he' sb => ?_⟩
    have hT2 : h''.get? s.heap.objs.size = some { cls := .type "tuple", data := .seq #[.int i tk, x'] } := (sb.2 _ (Nat.ne_of_gt hel)).trans hT
    have new : ObjOk X.prog X.w (upd H s.heap.objs.size (.tup [.int (i : Nat), x])) h'' s.heap.objs.size (.tup [.int (i : Nat), x]) :=
      ⟨by show 2 ≤ sizeLine; decide, [.int i tk, x'], .cons ⟨_, rfl⟩ (.cons ru .nil), ⟨_, hT2, rfl, _, rfl⟩⟩
    have I1 : Inv X pins σ (upd H s.heap.objs.size (.tup [.int (i : Nat), x])) { s with heap := h'', toks := tk + 1 } :=
      I.turnedNew (ch := [e, it]) (fun b ob hb q => (sb.2 b (fun z => hb (by simp [z]))).trans (hk b ob (fun z => hb (by simp [z])) (fun z => hb (by simp [z])) q)) hf (Nat.le_refl _) new
    refine ⟨.ref s.heap.objs.size, _, I1, rfl, ⟨_, x, rfl, I.hok.fresh (Nat.le_refl _), rfl, fun ys hy => by rw [I.tuple_inj hy hq]; exact hx⟩, ⟨⟨x', ?_⟩, st'.1.at fun o q => (sb.2 it (Ne.symm hne)).trans q, hne, hea⟩, fun b hb => ?_⟩
    · have e1 : ((i + 1 : Nat) : Int) = (i : Int) + 1 := by omega
      rw [e1]; exact he'
    · have hb' : b < s.heap.objs.size := by
        have e' : b = e ∨ b = it := by simpa using hb
        rcases e' with z | z
        · rw [z]; exact hel
        · rw [z]; exact hil
      rw [upd_ne (Nat.ne_of_lt hb')]
      exact (hf b hb).1
  done := by
    intro X hP hw hK hc i pins s σ H E I hf st hg
    subst hP hw hK
    obtain ⟨⟨old, he⟩, hit, hne, hea⟩ := st
    obtain ⟨xs, hq, hx⟩ := hg
    obtain ⟨its, rv, p, hz⟩ := I.tuple hq
    obtain ⟨f0, f1, f2, f3, f4, f5⟩ := hf it (by simp)
    have hl := rv.length
    exact wpAny_pyNext_enumT_end (I.ok.hd hc) he hit p (by simp; omega) fun h' eb => ⟨rfl, I.turned (t' := s.toks) (fun b o hb q => eb b o hb q) f0 f1 f3 f4 f5⟩
  self := fun A i s Q E st h => let ⟨⟨_, he⟩, _⟩ := st; wpAny_pyIter_enum he h
def iEnumT (K : PySem.W.Frag) (ta : TA) : TI := fun σ H R => ta σ H fun vs H1 => ∃ a xs, vs = [.ref a] ∧ SqT K H1 a xs ∧ R (Itet K a) H1
theorem pi_enumT {X : Cx} {e : Expr} {ta : TA} {p pos tpos : Pos} {elts : List Expr} {kk : Nat} (hg : Gl X "enumerate") (hm : X.mg "enumerate" = none) (ha : PA X [e] ta) (hs : starEach [e] X.env = [(false, eval e X.env)] := by rfl) :
    PI X (.Tuple elts kk tpos) (.Call (.Name "enumerate" p) [e] [] pos) (iEnumT X.K ta) := by
  refine ⟨fun pins s σ H R I h => ?_⟩
  refine Call_ (ld_blt I hg hm boot_enumerate (PyProof.Rows.callWith_type1 (thn (ha.run pos pins s σ H _ I h) fun us s1 ⟨vs, H1, I1, r1, q1⟩ => ?_) hs rfl))
  obtain ⟨a, xs, ex, hq, q⟩ := q1
  subst ex
  cases r1 with
  | cons r rr =>
    cases rr
    cases r
    obtain ⟨its, rv, p', hz⟩ := I1.tuple hq
    have hal : a < s1.heap.objs.size := p'.lt
    refine call_enumerate_tup p' fun h' he hit hsz hk => wpAny_pyIter_enum he ?_
    have I2 : Inv X pins σ H1 { s1 with heap := h' } := I1.kept (t' := s1.toks) hk
    refine ⟨s1.heap.objs.size + 1, [s1.heap.objs.size + 1, s1.heap.objs.size], _, _, H1, rfl, I2, turn_enumT a (s1.heap.objs.size + 1) s1.heap.objs.size (Nat.ne_of_lt hal), ⟨⟨.none, he⟩, hit, Nat.succ_ne_self _, Nat.ne_of_gt (Nat.lt_succ_of_lt hal)⟩, fun b hb => ?_, q⟩
    have e' : b = s1.heap.objs.size + 1 ∨ b = s1.heap.objs.size := by simpa using hb
    have hle : s1.heap.objs.size ≤ b := by
      rcases e' with z | z
      · rw [z]; exact Nat.le_add_right _ _
      · rw [z]; exact Nat.le_refl _
    exact I1.fpOk hle (I1.hok.fresh hle)
theorem lc_enumT {K : PySem.W.Frag} {a : Addr} {xs : List V} {g : TG} {tt : TT} {te : TE} {vs : List Nat} {σ : L2.St} {H1 : Hp} {D : Addr} {Qd : Hp → Prop} (Pv : Nat → Hp → Prop) (h0 : Pv 0 (upd H1 D (.lst []))) (hl : ∀ i H, i ≤ xs.length → Pv i H → SqT K H a xs)
    (hs : ∀ i x T H, xs[i]? = some x → Pv i H → H T = none → g (.ref T) (wipe σ vs) (upd H T (.tup [.int (i : Nat), x])) fun σ2 H2 => wipe σ2 vs = wipe σ vs ∧ tt σ2 H2 fun b H3 =>
      if b = true then te σ2 H3 fun y H4 => ∃ acc, H4 D = some (.lst acc) ∧ acc.length < sizeLine ∧ Pv (i + 1) (upd H4 D (.lst (acc ++ [y]))) else Pv (i + 1) H3) (hd : ∀ H, Pv xs.length H → Qd H) :
    ∃ W : Nat → Nat → Hp → Prop, (∃ m, W 0 m (upd H1 D (.lst []))) ∧ ∀ i m H, W i m H →
      ((Itet K a).stop i H ∧ Qd H) ∨ ((Itet K a).go i H ∧ ∃ Nx : Hp → Prop, (∀ H', Nx H' → ∃ m', m' < m ∧ W (i + 1) m' H') ∧ ∀ x H', (Itet K a).yld i H x H' → g x (wipe σ vs) H' fun σ2 H2 => wipe σ2 vs = wipe σ vs ∧ tt σ2 H2 fun b H3 =>
        if b = true then te σ2 H3 fun y H4 => ∃ acc, H4 D = some (.lst acc) ∧ acc.length < sizeLine ∧ Nx (upd H4 D (.lst (acc ++ [y]))) else Nx H3) := by
  refine ⟨fun i m H => m = xs.length - i ∧ i ≤ xs.length ∧ Pv i H, ⟨xs.length, by simp, Nat.zero_le _, h0⟩, ?_⟩
  rintro i m H ⟨rfl, hi, p⟩
  have q := hl i H hi p
  by_cases hlt : i < xs.length
  · refine .inr ⟨⟨xs, xs[i], q, by simp [hlt]⟩, Pv (i + 1), fun H' p' => ⟨xs.length - (i + 1), by omega, rfl, hlt, p'⟩, fun x H' y => ?_⟩
    obtain ⟨T, x', rfl, nT, rfl, y⟩ := y
    exact hs i x' T H (y xs q) p nT
  · have e : i = xs.length := by omega
    subst e
    exact .inl ⟨⟨xs, q, Nat.le_refl _⟩, hd H p⟩
end Pk

set_option maxRecDepth 100000
set_option maxHeartbeats 1000000
namespace Pk
open PySem PySem.Spec PyProof.Rows L2

/-! ### data: an atom, some list, a tuple of data -/
inductive D where
  | at (v : V)
  | lst
  | tup (l : List D)
def flat4 : V → Bool
  | .non => true
  | .bl _ => true
  | .int _ => true
  | .str _ => true
  | _ => false
mutual
inductive Rep (H : Hp) : V → D → Prop where
  | at {v : V} (h : flat4 v = true) : Rep H v (.at v)
  | lst {a : Addr} {xs : List V} (h : H a = some (.lst xs)) : Rep H (.ref a) .lst
  | tup {a : Addr} {xs : List V} {ts : List D} (h : H a = some (.tup xs)) (r : Reps H xs ts) : Rep H (.ref a) (.tup ts)
inductive Reps (H : Hp) : List V → List D → Prop where
  | nil : Reps H [] []
  | cons {x : V} {t : D} {xs : List V} {ts : List D} (h : Rep H x t) (r : Reps H xs ts) : Reps H (x :: xs) (t :: ts)
end
/-- tuples stand as they are, lists stay lists -/
structure Kx (H H' : Hp) : Prop where
  t : ∀ a xs, H a = some (.tup xs) → H' a = some (.tup xs)
  l : ∀ a xs, H a = some (.lst xs) → ∃ ys, H' a = some (.lst ys)
theorem Kx.refl (H : Hp) : Kx H H := ⟨fun _ _ h => h, fun _ xs h => ⟨xs, h⟩⟩
theorem Kx.trans {H H1 H2 : Hp} (a : Kx H H1) (b : Kx H1 H2) : Kx H H2 := ⟨fun q xs h => b.t q xs (a.t q xs h), fun q xs h => let ⟨ys, h1⟩ := a.l q xs h; b.l q ys h1⟩
theorem kx_same {H H' : Hp} (s : Same H H') : Kx H H' := ⟨fun a xs h => s _ _ h, fun a xs h => ⟨xs, s _ _ h⟩⟩
theorem same_new {H : Hp} {p : Addr} (h : H p = none) (o : HO) : Same H (upd H p o) := fun b u q => by rw [upd_ne (ne_of_none q h)]; exact q
theorem kx_new {H : Hp} {p : Addr} (h : H p = none) (o : HO) : Kx H (upd H p o) := kx_same (same_new h o)
theorem kx_list {H : Hp} {p : Addr} {xs : List V} (h : H p = some (.lst xs)) (ys : List V) : Kx H (upd H p (.lst ys)) := by
  refine ⟨fun a zs e => ?_, fun a zs e => ?_⟩
  · rw [upd_ne (ne_of e h (by intro q; cases q))]
    exact e
  · by_cases ha : a = p
    · subst ha
      exact ⟨ys, upd_same⟩
    · rw [upd_ne ha]
      exact ⟨zs, e⟩
/-- all but what stands at b is as it was -/
def SB (b : Addr) (H H' : Hp) : Prop := ∀ q o, q ≠ b → H q = some o → H' q = some o
theorem SB.refl (b : Addr) (H : Hp) : SB b H H := fun _ _ _ h => h
theorem SB.trans {b : Addr} {H H1 H2 : Hp} (x : SB b H H1) (y : SB b H1 H2) : SB b H H2 := fun q o n h => y q o n (x q o n h)
theorem sb_same {b : Addr} {H H' : Hp} (s : Same H H') : SB b H H' := fun q o _ h => s q o h
theorem sb_upd {b : Addr} {H : Hp} (o : HO) : SB b H (upd H b o) := fun q u n h => by rw [upd_ne n]; exact h
theorem sb_new {b : Addr} {H H' : Hp} (n : H b = none) (s : SB b H H') : Same H H' := fun q o h => s q o (ne_of_none h n) h
theorem sb_kx {b : Addr} {H H' : Hp} {xs ys : List V} (s : SB b H H') (h : H b = some (.lst xs)) (h' : H' b = some (.lst ys)) : Kx H H' := by
  refine ⟨fun a zs e => s _ _ (ne_of e h (by intro q; cases q)) e, fun a zs e => ?_⟩
  by_cases ha : a = b
  · subst ha
    exact ⟨ys, h'⟩
  · exact ⟨zs, s _ _ ha e⟩
mutual
theorem Rep.mono {H H' : Hp} (k : Kx H H') : ∀ {v : V} {d : D}, Rep H v d → Rep H' v d
  | _, _, .at h => .at h
  | _, _, .lst h => let ⟨_, h'⟩ := k.l _ _ h; .lst h'
  | _, _, .tup h r => .tup (k.t _ _ h) (Reps.mono k r)
theorem Reps.mono {H H' : Hp} (k : Kx H H') : ∀ {xs : List V} {ds : List D}, Reps H xs ds → Reps H' xs ds
  | _, _, .nil => .nil
  | _, _, .cons h r => .cons (Rep.mono k h) (Reps.mono k r)
end
section
variable {H : Hp}
theorem Rep.inv {v : V} {ts : List D} (r : Rep H v (.tup ts)) : ∃ a xs, v = .ref a ∧ H a = some (.tup xs) ∧ Reps H xs ts := by
  cases r with
  | tup h r => exact ⟨_, _, rfl, h, r⟩
theorem Rep.inva {v w : V} (r : Rep H v (.at w)) : v = w ∧ flat4 v = true := by
  cases r with
  | «at» h => exact ⟨rfl, h⟩
theorem Reps.length : ∀ {xs : List V} {ds : List D}, Reps H xs ds → xs.length = ds.length
  | _, _, .nil => rfl
  | _, _, .cons _ r => congrArg Nat.succ r.length
theorem Reps.get : ∀ {xs : List V} {ds : List D} {i : Nat} {x : V}, Reps H xs ds → xs[i]? = some x → ∃ d, ds[i]? = some d ∧ Rep H x d
  | _, _, _, _, .nil, e => by simp at e
  | _, _, 0, _, .cons h _, e => by simp at e; subst e; exact ⟨_, rfl, h⟩
  | _, _, i + 1, x, .cons _ r, e => by
    obtain ⟨d, h1, h2⟩ := Reps.get (i := i) (x := x) r (by simpa using e)
    exact ⟨d, by simpa using h1, h2⟩
theorem Reps.getD : ∀ {xs : List V} {ds : List D} {i : Nat} {d : D}, Reps H xs ds → ds[i]? = some d → ∃ x, xs[i]? = some x ∧ Rep H x d := fun {xs ds i d} r e => by
  have hl := r.length
  have hi : i < ds.length := (List.getElem?_eq_some_iff.mp e).1
  obtain ⟨d', h1, h2⟩ := r.get (i := i) (x := xs[i]'(by omega)) (by first | (simp; done) | (simp; omega))
  rw [e] at h1
  cases h1
  exact ⟨_, by first | (simp; done) | (simp; omega), h2⟩
theorem Reps.append : ∀ {xs ys : List V} {ds es : List D}, Reps H xs ds → Reps H ys es → Reps H (xs ++ ys) (ds ++ es)
  | _, _, _, _, .nil, s => s
  | _, _, _, _, .cons h r, s => .cons h (Reps.append r s)
theorem Reps.one {x : V} {d : D} (h : Rep H x d) : Reps H [x] [d] := .cons h .nil
theorem Reps.take : ∀ {xs : List V} {ds : List D} (n : Nat), Reps H xs ds → Reps H (xs.take n) (ds.take n)
  | _, _, 0, _ => .nil
  | _, _, _ + 1, .nil => .nil
  | _, _, n + 1, .cons h r => .cons h (Reps.take n r)
theorem Reps.drop : ∀ {xs : List V} {ds : List D} (n : Nat), Reps H xs ds → Reps H (xs.drop n) (ds.drop n)
  | _, _, 0, r => r
  | _, _, _ + 1, .nil => .nil
  | _, _, n + 1, .cons _ r => Reps.drop n r
theorem Reps.reverse : ∀ {xs : List V} {ds : List D}, Reps H xs ds → Reps H xs.reverse ds.reverse
  | _, _, .nil => .nil
  | _, _, .cons h r => by
    rw [List.reverse_cons, List.reverse_cons]
    exact Reps.append (Reps.reverse r) (.one h)
/-- the last one, and those before it -/
theorem Reps.last {xs : List V} {ds : List D} (r : Reps H xs ds) (h : xs ≠ []) : ∃ x d es, xs[xs.length - 1]? = some x ∧ ds = es ++ [d] ∧ Rep H x d ∧ Reps H xs.dropLast es := by
  have hl := r.length
  have hp : 0 < xs.length := List.length_pos_iff.mpr h
  obtain ⟨d, h1, h2⟩ := r.get (i := xs.length - 1) (x := xs[xs.length - 1]'(by omega)) (by first | (simp; done) | (simp; omega))
  refine ⟨_, d, ds.dropLast, by first | (simp; done) | (simp; omega), ?_, h2, ?_⟩
  · have hd : ds ≠ [] := fun e => by
      rw [e] at hl
      simp at hl
      exact h hl
    have q : ds.getLast hd = d := by
      rw [List.getLast_eq_getElem]
      rw [hl, List.getElem?_eq_getElem (by omega)] at h1
      exact Option.some.inj h1
    rw [← q]
    exact (List.dropLast_concat_getLast hd).symm
  · rw [List.dropLast_eq_take, List.dropLast_eq_take, hl]
    exact r.take _
end
/-! ### kinds, sizes, depths -/
mutual
def isK : D → Bool
  | .tup ts => isKs ts
  | _ => false
def isKs : List D → Bool
  | [] => true
  | t :: r => isK t && isKs r
end
mutual
def sz : D → Nat
  | .tup ts => szs ts + 1
  | _ => 1
def szs : List D → Nat
  | [] => 0
  | t :: r => sz t + szs r
end
mutual
def dep : D → Nat
  | .tup ts => deps ts
  | _ => 0
def deps : List D → Nat
  | [] => 0
  | t :: r => max (dep t + 1) (deps r)
end
theorem isKs_append : ∀ (a b : List D), isKs (a ++ b) = (isKs a && isKs b)
  | [], b => by simp [isKs]
  | t :: r, b => by
    show (isK t && isKs (r ++ b)) = ((isK t && isKs r) && isKs b)
    rw [isKs_append r b, Bool.and_assoc]
theorem szs_append : ∀ (a b : List D), szs (a ++ b) = szs a + szs b
  | [], b => by simp [szs]
  | t :: r, b => by
    show sz t + szs (r ++ b) = (sz t + szs r) + szs b
    rw [szs_append r b]
    omega
theorem deps_append : ∀ (a b : List D), deps (a ++ b) = max (deps a) (deps b)
  | [], b => by simp [deps]
  | t :: r, b => by
    show max (dep t + 1) (deps (r ++ b)) = max (max (dep t + 1) (deps r)) (deps b)
    rw [deps_append r b]
    omega
theorem sz_pos : ∀ d : D, 0 < sz d
  | .tup _ => Nat.succ_pos _
  | .at _ => Nat.one_pos
  | .lst => Nat.one_pos
theorem len_szs : ∀ l : List D, l.length ≤ szs l
  | [] => Nat.le_refl _
  | t :: r => by
    have h1 := sz_pos t
    have h2 := len_szs r
    show r.length + 1 ≤ sz t + szs r
    omega
theorem sz_mem : ∀ {l : List D} {d : D}, d ∈ l → sz d ≤ szs l
  | t :: r, d, h => by
    show sz d ≤ sz t + szs r
    rcases List.mem_cons.mp h with e | h
    · rw [e]
      omega
    · have := sz_mem h
      omega
theorem dep_mem : ∀ {l : List D} {d : D}, d ∈ l → dep d + 1 ≤ deps l
  | t :: r, d, h => by
    show dep d + 1 ≤ max (dep t + 1) (deps r)
    rcases List.mem_cons.mp h with e | h
    · rw [e]
      omega
    · have := dep_mem h
      omega
theorem isK_mem : ∀ {l : List D}, isKs l = true → ∀ {d : D}, d ∈ l → isK d = true
  | t :: r, hk, d, h => by
    have hk' : (isK t && isKs r) = true := hk
    rw [Bool.and_eq_true] at hk'
    rcases List.mem_cons.mp h with e | h
    · rw [e]
      exact hk'.1
    · exact isK_mem hk'.2 h
theorem isK_inv {d : D} (h : isK d = true) : ∃ ts, d = .tup ts ∧ isKs ts = true := by
  cases d with
  | tup ts => exact ⟨ts, rfl, h⟩
  | «at» v => cases h
  | lst => cases h
theorem isKs_all : ∀ (l : List D), isKs l = l.all isK
  | [] => rfl
  | t :: r => by
    show (isK t && isKs r) = (isK t && r.all isK)
    rw [isKs_all r]
theorem dep_lt_sz : ∀ d : D, dep d < sz d := by
  have key : ∀ n : Nat, (∀ d : D, sz d ≤ n → dep d < sz d) := by
    intro n
    induction n with
    | zero => intro d h; have := sz_pos d; omega
    | succ n ih =>
      intro d h
      cases d with
      | «at» v => exact Nat.one_pos
      | lst => exact Nat.one_pos
      | tup ts =>
        show deps ts < szs ts + 1
        have h' : szs ts + 1 ≤ n + 1 := h
        have gen : ∀ l : List D, szs l ≤ n → deps l ≤ szs l := by
          intro l
          induction l with
          | nil => intro _; exact Nat.le_refl _
          | cons t r ih2 =>
            intro hl
            have hl' : sz t + szs r ≤ n := hl
            have a1 := ih t (by omega)
            have a2 := ih2 (by omega)
            show max (dep t + 1) (deps r) ≤ sz t + szs r
            omega
        have := gen ts (by omega)
        omega
  exact fun d => key (sz d) d (Nat.le_refl _)
/-! ### data as the library's == reads it -/
mutual
def toPy : D → PyData
  | .at .non => .none
  | .at (.bl b) => .bool b
  | .at (.int i) => .int i
  | .at (.str x) => .str x
  | .at _ => .none
  | .lst => .none
  | .tup ts => .tuple (toPys ts)
def toPys : List D → List PyData
  | [] => []
  | t :: r => toPy t :: toPys r
end
mutual
theorem dp_kind {K : PySem.W.Frag} {H : Hp} : ∀ {v : V} {d : D}, Rep H v d → isK d = true → Dp K H v (toPy d)
  | _, _, .at _, k => by cases k
  | _, _, .lst _, k => by cases k
  | _, _, .tup h r, k => .tup (SqT.of h) (dp_kinds r k)
theorem dp_kinds {K : PySem.W.Frag} {H : Hp} : ∀ {xs : List V} {ds : List D}, Reps H xs ds → isKs ds = true → DpAll K H xs (toPys ds)
  | _, _, .nil, _ => .nil
  | _, _, .cons h r, k => by
    have k' := Bool.and_eq_true_iff.mp k
    exact .cons (dp_kind h k'.1) (dp_kinds r k'.2)
end
mutual
theorem lay_kind : ∀ {d : D}, isK d = true → PyData.canLay0 (toPy d) = true
  | .at _, k => by cases k
  | .lst, k => by cases k
  | .tup ts, k => lay_kinds (l := ts) k
theorem lay_kinds : ∀ {l : List D}, isKs l = true → PyData.canLayAll0 (toPys l) = true
  | [], _ => rfl
  | t :: r, k => by
    have k' := Bool.and_eq_true_iff.mp k
    show (PyData.canLay0 (toPy t) && PyData.canLayAll0 (toPys r)) = true
    rw [lay_kind k'.1, lay_kinds k'.2]
    rfl
end
mutual
theorem depth_kind : ∀ {d : D}, isK d = true → PyData.depth (toPy d) ≤ dep d + 1
  | .at _, k => by cases k
  | .lst, k => by cases k
  | .tup ts, k => by
    have := depth_kinds (l := ts) k
    show PyData.depthAll (toPys ts) + 1 ≤ deps ts + 1
    omega
theorem depth_kinds : ∀ {l : List D}, isKs l = true → PyData.depthAll (toPys l) ≤ deps l
  | [], _ => Nat.le_refl _
  | t :: r, k => by
    have k' := Bool.and_eq_true_iff.mp k
    have h1 := depth_kind k'.1
    have h2 := depth_kinds k'.2
    show max (PyData.depth (toPy t)) (PyData.depthAll (toPys r)) ≤ max (dep t + 1) (deps r)
    omega
end
theorem shaped_kind {d : D} (k : isK d = true) (h : dep d ≤ 60) : SeqAt.shaped (toPy d) = true := by
  unfold SeqAt.shaped
  have := depth_kind k
  rw [lay_kind k, decide_eq_true (by omega)]
  rfl
end Pk

set_option maxRecDepth 100000
set_option maxHeartbeats 4000000
namespace Pk
open PySem PySem.Spec PyProof.Rows L2
def top (i : Nat) : Stmt := PySem.Challenge.pw_playsense_k00_kinds_and_their_places.main.body.getD i (.Pass ⟨0, 0, 0, 0⟩)
abbrev s_is_kind : Stmt := top 1
abbrev s_places : Stmt := top 2
abbrev s_kind_at : Stmt := top 3
abbrev s_depth : Stmt := top 4
abbrev s__law_cell : Stmt := top 6
abbrev s__law_digits : Stmt := top 7
abbrev s__law_draw : Stmt := top 8
abbrev s__law_box : Stmt := top 9
abbrev s__law_same : Stmt := top 10
abbrev s__law_at : Stmt := top 11
abbrev s__law_places : Stmt := top 12
abbrev s__law_kind_deep : Stmt := top 13
abbrev s__law_is_kind : Stmt := top 14
abbrev s__law_deep : Stmt := top 15
abbrev s__law_spoilt_kind : Stmt := top 16
abbrev s__law_right : Stmt := top 17
abbrev s_law : Stmt := top 18
theorem c_is_kind : FnScope ["value", "pending", "part"] ["value"] (defScope s_is_kind) := ⟨rfl, rfl, rfl, by decide +kernel, rfl, by decide +kernel, by decide +kernel⟩
theorem c_places : FnScope ["kind", "found", "pending", "place", "part", "inner", "number", "argument"] ["kind"] (defScope s_places) := ⟨rfl, rfl, rfl, by decide +kernel, rfl, by decide +kernel, by decide +kernel⟩
theorem c_kind_at : FnScope ["kind", "place", "number"] ["kind", "place"] (defScope s_kind_at) := ⟨rfl, rfl, rfl, by decide +kernel, rfl, by decide +kernel, by decide +kernel⟩
theorem c_depth : FnScope ["kind", "deepest", "pending", "part", "level", "argument"] ["kind"] (defScope s_depth) := ⟨rfl, rfl, rfl, by decide +kernel, rfl, by decide +kernel, by decide +kernel⟩
theorem c__law_cell : FnScope ["script", "k"] ["script", "k"] (defScope s__law_cell) := ⟨rfl, rfl, rfl, by decide +kernel, rfl, by decide +kernel, by decide +kernel⟩
theorem c__law_digits : FnScope ["script", "first", "last", "digits", "k", "cell", "turn", "seed"] ["script", "first", "last"] (defScope s__law_digits) := ⟨rfl, rfl, rfl, by decide +kernel, rfl, by decide +kernel, by decide +kernel⟩
theorem c__law_draw : FnScope ["box", "many", "at"] ["box", "many"] (defScope s__law_draw) := ⟨rfl, rfl, rfl, by decide +kernel, rfl, by decide +kernel, by decide +kernel⟩
theorem c__law_box : FnScope ["script", "first", "last"] ["script", "first", "last"] (defScope s__law_box) := ⟨rfl, rfl, rfl, by decide +kernel, rfl, by decide +kernel, by decide +kernel⟩
theorem c__law_same : FnScope ["actual", "expected", "k"] ["actual", "expected"] (defScope s__law_same) := ⟨rfl, rfl, rfl, by decide +kernel, rfl, by decide +kernel, by decide +kernel⟩
theorem c__law_at : FnScope ["kind", "place", "k"] ["kind", "place"] (defScope s__law_at) := ⟨rfl, rfl, rfl, by decide +kernel, rfl, by decide +kernel, by decide +kernel⟩
theorem c__law_places : FnScope ["kind", "rows", "k", "row"] ["kind"] (defScope s__law_places) := ⟨rfl, rfl, rfl, by decide +kernel, rfl, by decide +kernel, by decide +kernel⟩
theorem c__law_kind_deep : FnScope ["box", "deep", "budget", "parts", "k"] ["box", "deep", "budget"] (defScope s__law_kind_deep) := ⟨rfl, rfl, rfl, by decide +kernel, rfl, by decide +kernel, by decide +kernel⟩
theorem c__law_is_kind : FnScope ["value", "part"] ["value"] (defScope s__law_is_kind) := ⟨rfl, rfl, rfl, by decide +kernel, rfl, by decide +kernel, by decide +kernel⟩
theorem c__law_deep : FnScope ["kind", "part"] ["kind"] (defScope s__law_deep) := ⟨rfl, rfl, rfl, by decide +kernel, rfl, by decide +kernel, by decide +kernel⟩
theorem c__law_spoilt_kind : FnScope ["box", "value", "k", "menu"] ["box", "value"] (defScope s__law_spoilt_kind) := ⟨rfl, rfl, rfl, by decide +kernel, rfl, by decide +kernel, by decide +kernel⟩
theorem c__law_right : FnScope ["kind", "rows", "place", "found", "many"] ["kind"] (defScope s__law_right) := ⟨rfl, rfl, rfl, by decide +kernel, rfl, by decide +kernel, by decide +kernel⟩
theorem c_law : FnScope ["script", "box", "found", "turn", "kind", "step", "value", "great", "pick"] ["script"] (defScope s_law) := ⟨rfl, rfl, rfl, by decide +kernel, rfl, by decide +kernel, by decide +kernel⟩
structure Bt (mg : Str → Option Value) : Prop where
  b_isinstance : mg "isinstance" = none
  b_tuple : mg "tuple" = none
  b_enumerate : mg "enumerate" = none
  b_len : mg "len" = none
  b_max : mg "max" = none
  b_range : mg "range" = none
  b_int : mg "int" = none
  b_bool : mg "bool" = none
  b_str : mg "str" = none
  b_list : mg "list" = none
/-- a def of the text: its object, how it is bound, its name -/
structure Df (K : PySem.W.Frag) (mg : Str → Option Value) (x : Str) (st : Stmt) (ps : List Str) (f : Addr) (fd : FuncData) : Prop where
  F : FunD K x x (defArgs st) (defBody st) (defScope st) [] [] f fd
  b : Binds K fd ps []
  m : mg x = some (.ref f)
theorem Df.kp {K : PySem.W.Frag} {mg : Str → Option Value} {x : Str} {st : Stmt} {ps : List Str} {f : Addr} {fd : FuncData} (D : Df K mg x st ps f fd) : PySem.W.keepIn K (.ref f) = true := D.F.kp
theorem Df.ok {P : Program} {w : World} {K : PySem.W.Frag} {mg : Str → Option Value} {base : Heap} {x : Str} {st : Stmt} {ps : List Str} {f : Addr} {fd : FuncData} {N : List Str} {k : Nat} {sp : Sp} (D : Df K mg x st ps f fd) (S : FnScope N ps (defScope st)) (len : ∀ vs H Q E, sp vs H Q E → vs.length = ps.length)
    (hbody : ∀ (cdv : Value) (A : Around) (outer : List Env) (s : Shared) (H : Hp) (vs : List V) (Q : VK) (E : XK), Room k (A.deeper (envOfC x (defScope st) s.heap.objs.size f cdv)) → sp vs H Q E →
      ∃ t, PSs (cxOf CX0 P w K mg base N x (defScope st) f cdv A outer s H E).nox (defBody st) t ∧ t { nx := fun _ H' => Q .non H', rt := Q } (start N vs) H) : FnOk P w K mg base CX0 (k + 1) f fd ps sp :=
  D.F.ok S len fun cdv A outer s H vs Q E hr hsp => let ⟨t, h, q⟩ := hbody cdv A outer s H vs Q E hr hsp; ⟨t, h.nox, q⟩
/-- what stood stands, a new list at p besides -/
structure Nw (p : Addr) (H0 H : Hp) (xs : List V) : Prop where
  s : Same H0 H
  n : H0 p = none
  h : H p = some (.lst xs)
theorem Nw.put {p : Addr} {H0 H : Hp} {xs : List V} (w : Nw p H0 H xs) (ys : List V) : Nw p H0 (upd H p (.lst ys)) ys :=
  ⟨fun b o e => by rw [upd_ne (ne_of_none e w.n)]; exact w.s b o e, w.n, upd_same⟩
theorem Nw.app {p : Addr} {H0 H : Hp} {ds : List Int} {x : Int} (w : Nw p H0 H (ds.map V.int)) : Nw p H0 (upd H p (.lst (ds.map V.int ++ [V.int x]))) ((ds ++ [x]).map V.int) := by
  have e : (ds ++ [x]).map V.int = ds.map V.int ++ [V.int x] := by rw [List.map_append] <;> rfl
  rw [e]
  exact w.put _
theorem Nw.new {p : Addr} {H : Hp} (n : H p = none) (xs : List V) : Nw p H (upd H p (.lst xs)) xs := ⟨same_new n _, n, upd_same⟩
theorem Nw.step {p : Addr} {H0 H H1 : Hp} {xs : List V} (w : Nw p H0 H xs) (s : Same H H1) : Nw p H0 H1 xs := ⟨w.s.trans s, w.n, s _ _ w.h⟩
theorem Same.tup {K : PySem.W.Frag} {H H' : Hp} {a : Addr} {xs : List V} (e : Same H H') (h : SqT K H a xs) : SqT K H' a xs := by
  rcases h with (h | ⟨o, h⟩) | h
  · exact .inl (.inl (e _ _ h))
  · exact .inl (.inr ⟨o, e _ _ h⟩)
  · exact .inr h
theorem small6 {n : Nat} (h : n ≤ 1000000) : n < sizeLine := by rw [sizeLine_eq]; omega
theorem small6' {n : Nat} (h : n ≤ 1000000) : n ≤ sizeLine := by rw [sizeLine_eq]; omega
theorem yes_go {σ : L2.St} {H : Hp} {A B : Hp → Prop} (h : A H) : tYes σ H fun b H3 => if b = true then A H3 else B H3 := by
  show (if true = true then A H else B H)
  exact iteT h
section
variable {P : Program} {w : World} {K : PySem.W.Frag} {mg : Str → Option Value} {base : Heap}
/-! ### _law_cell -/
def spCell (K : PySem.W.Frag) : Sp := fun vs H Q _ => ∃ (a : Addr) (ns : List Int) (k : Int), vs = [.ref a, .int k] ∧ SqL K H a (ns.map V.int) ∧ 0 ≤ k ∧ ∀ i : Int, Q (.int i) H
theorem ok_cell {f : Addr} {fd : FuncData} (D : Df K mg "_law_cell" s__law_cell ["script", "k"] f fd) (B : Bt mg) : FnOk P w K mg base CX0 1 f fd ["script", "k"] (spCell K) := by
  refine D.ok c__law_cell (fun vs H Q E h => ?_) (fun cdv A outer s H vs Q E hr h => ?_)
  · obtain ⟨a, ns, k, rfl, _⟩ := h
    rfl
  obtain ⟨a, ns, k, rfl, hS, h0, q⟩ := h
  have nd := c__law_cell.nd
  refine ⟨_, (pss_cons (ps_if (pt_cmpR op_lt (pv 1) (pe_callB call_len_seq (by rfl) B.b_len PySem.boot_len (pa_cons (pv 0) pa_nil)) (nomark _)) (pss_one (ps_ret (pe_ix ix_list (pv 0) (pv 1) (fun _ _ => rfl)))) pss_nil)
  (pss_one (ps_ret pe_int))), ?_⟩
  have hl : (ns.map V.int).length = ns.length := List.length_map _
  refine ⟨_, rfl, _, rfl, a, _, rfl, .inl hS, _, _, rfl, rfl, _, rfl, ?_⟩
  refine ite2 (fun c => ?_) (fun c => ?_)
  · have c' : k < (((ns.map V.int).length : Nat) : Int) := of_decide_eq_true c
    rw [hl] at c'
    have hk : k.toNat < ns.length := by omega
    have ek : k = ((k.toNat : Nat) : Int) := by omega
    have q1 : atI (ns.map V.int) ((k.toNat : Nat) : Int) = some (.int ns[k.toNat]) := atI_nat (by rw [List.getElem?_map, List.getElem?_eq_getElem hk] <;> rfl)
    rw [← ek] at q1
    exact ⟨_, rfl, _, rfl, a, _, _, _, rfl, rfl, hS, q1, q _⟩
  · exact q _
/-! ### _law_digits -/
def spDigits (K : PySem.W.Frag) : Sp := fun vs H Q _ => ∃ (a : Addr) (ns : List Int) (lo n : Nat), vs = [.ref a, .int lo, .int ((lo : Int) + n)] ∧ SqL K H a (ns.map V.int) ∧ lo ≤ 100 ∧ n ≤ 100 ∧
  ∀ (p : Addr) (H' : Hp) (ds : List Int), Nw p H H' (ds.map V.int) → Q (.ref p) H'
theorem ok_digits {f g : Addr} {fd gd : FuncData} (D : Df K mg "_law_digits" s__law_digits ["script", "first", "last"] f fd) (B : Bt mg)
    (D__law_cell : Df K mg "_law_cell" s__law_cell ["script", "k"] g gd) : FnOk P w K mg base CX0 2 f fd ["script", "first", "last"] (spDigits K) := by
  have G__law_cell : FnOk P w K mg base CX0 1 g gd ["script", "k"] (spCell K) := ok_cell D__law_cell B
  refine D.ok c__law_digits (fun vs H Q E h => ?_) (fun cdv A outer s H vs Q E hr h => ?_)
  · obtain ⟨a, ns, lo, n, rfl, _⟩ := h
    rfl
  obtain ⟨a, ns, lo, n, rfl, hS, hlo, hn, q⟩ := h
  have nd := c__law_digits.nd
  refine ⟨_, (pss_cons (ps_set (i := 3) nd rfl (Or.inl rfl) (pe_lst pa_nil))
  (pss_cons (ps_for PassesOwn.never rfl (pi_range2 (by rfl) B.b_range (pa_cons (pv 1) (pa_cons (pv 2) pa_nil))) (pg_name (i := 4) nd rfl (Or.inl rfl)) (pss_cons (ps_set (i := 5) nd rfl (Or.inl rfl) (pe_call G__law_cell (hr.mono (by first | decide | omega)) (by rfl) D__law_cell.m D__law_cell.kp D__law_cell.b .nil pass0 (pa_cons (pv 0) (pa_cons (pv 4) pa_nil))))
  (pss_cons (ps_if (pt_cmpR op_lt (pv 5) pe_int (nomark _)) (pss_one (ps_set (i := 5) nd rfl (Or.inl rfl) (pe_op op_sub pe_int (pe_op op_mul pe_int (pv 5))))) pss_nil)
  (pss_one (ps_if (pt_cmpR op_ge (pv 5) (pe_op op_pow pe_int pe_int) (nomark _)) (pss_one (ps_for PassesOwn.never rfl (pi_range1 (by rfl) B.b_range (pa_cons pe_int pa_nil)) (pg_name (i := 6) nd rfl (Or.inl rfl)) (pss_one (ps_if (pt_cmpR op_gt (pv 5) pe_int (nomark _)) (pss_cons (ps_expr (pe_bm PySem.F.plainAttrs_list PySem.F.slot_list_append PySem.F.type_list_append mt_append (pv 3) (pa_cons (pe_op op_mod (pe_callTy call_int1 (by rfl) B.b_int (by decide +kernel) (pa_cons (pv 5) pa_nil)) pe_int) pa_nil)))
  (pss_one (ps_set (i := 5) nd rfl (Or.inl rfl) (pe_op op_fdiv (pv 5) pe_int)))) pss_nil)))) (pss_cons (ps_set (i := 7) nd rfl (Or.inl rfl) (pe_op op_mod (pe_callTy call_int1 (by rfl) B.b_int (by decide +kernel) (pa_cons (pe_op op_add (pe_op op_add (pe_op op_mul (pv 5) pe_int) (pe_op op_mul (pv 4) pe_int)) pe_int) pa_nil)) pe_int))
  (pss_one (ps_for PassesOwn.never rfl (pi_range1 (by rfl) B.b_range (pa_cons pe_int pa_nil)) (pg_name (i := 6) nd rfl (Or.inl rfl)) (pss_cons (ps_set (i := 7) nd rfl (Or.inl rfl) (pe_op op_mod (pe_callTy call_int1 (by rfl) B.b_int (by decide +kernel) (pa_cons (pe_op op_add (pe_op op_add (pe_op op_mul (pv 7) pe_int) (pe_op op_mul pe_int (pv 6))) pe_int) pa_nil)) pe_int))
  (pss_one (ps_expr (pe_bm PySem.F.plainAttrs_list PySem.F.slot_list_append PySem.F.type_list_append mt_append (pv 3) (pa_cons (pe_op op_mod (pe_callTy call_int1 (by rfl) B.b_int (by decide +kernel) (pa_cons (pe_op op_fdiv (pv 7) pe_int) pa_nil)) pe_int) pa_nil)))))))))))))
  (pss_one (ps_ret (pv 3))))), ?_⟩
  refine ⟨Nat.zero_le _, fun p np => ?_⟩
  refine ⟨_, rfl, _, rfl, _, _, rfl, ⟨by omega, by omega, by omega, by omega⟩, ?_⟩
  refine for_range (lo := (lo : Int)) (n := ((lo : Int) + n - lo).toNat) (fun i σ H' => ∃ (ds : List Int) (y4 y5 y6 y7 : Option V), σ = [some (.ref a), some (.int lo), some (.int ((lo : Int) + n)), some (.ref p), y4, y5, y6, y7] ∧ Nw p H H' (ds.map V.int) ∧ ds.length ≤ 60 * i)
    ⟨[], none, none, none, none, rfl, Nw.new np _, Nat.zero_le _⟩ ?_ ?_
  · rintro i σ H1 hi ⟨ds, y4, y5, y6, y7, rfl, hw, hd⟩
    have hi2 : i < n := by omega
    refine ⟨_, rfl, _, rfl, a, ns, (lo : Int) + i, rfl, hw.s.seq hS, by omega, fun c => ?_⟩
    refine ⟨_, rfl, _, _, rfl, rfl, _, rfl, ite2 (fun e1 => ⟨_, rfl, _, _, rfl, rfl, .inl ⟨by decide, by decide⟩, _, _, rfl, rfl, ?_⟩) (fun e1 => ?_)⟩
    all_goals
      refine ⟨_, rfl, _, _, rfl, rfl, ⟨by decide, by decide, by decide⟩, _, _, rfl, rfl, _, rfl, ite2 (fun e2 => ?_) (fun e2 => ?_)⟩
      · refine ⟨60, rfl, by decide, by decide, for_range (n := 60) (fun j σ H' => ∃ (es : List Int) (c' : Int) (y6 y7 : Option V), σ = [some (.ref a), some (.int lo), some (.int ((lo : Int) + n)), some (.ref p), some (.int ((lo : Int) + i)), some (.int c'), y6, y7] ∧ Nw p H H' (es.map V.int) ∧ es.length ≤ 60 * i + j)
          ⟨ds, _, _, _, rfl, hw, hd⟩ ?_ ?_⟩
        · rintro j σ H2 hj ⟨es, c', y6, y7, rfl, hw2, he⟩
          refine ⟨_, rfl, _, _, rfl, rfl, _, rfl, ite2 (fun e3 => ?_) (fun e3 => ⟨es, c', _, _, rfl, hw2, by omega⟩)⟩
          refine ⟨_, rfl, .inl ⟨rfl, _, SqL.of hw2.h⟩, _, rfl, .inl ⟨_, rfl, _, _, rfl, rfl, (by show (0 : Int) < 1000; decide), _, _, _, rfl, rfl, hw2.h, small6 (by rw [List.length_map]; omega), ?_⟩⟩
          refine ⟨_, rfl, _, _, rfl, rfl, ⟨by decide, by decide⟩, es ++ [_], _, _, _, rfl, hw2.app, ?_⟩
          rw [List.length_append, List.length_singleton]
          omega
        · rintro σ H2 ⟨es, c', y6, y7, rfl, hw2, he⟩
          exact ⟨es, _, _, _, _, rfl, hw2, by omega⟩
      · refine ⟨_, rfl, _, _, rfl, rfl, .inr ⟨by decide, by decide⟩, _, rfl, _, _, rfl, rfl, .inr ⟨by decide, by decide⟩, _, _, rfl, rfl, _, _, rfl, rfl, .inl ⟨_, rfl, _, _, rfl, rfl, (by show (0 : Int) < 2147483647; decide), ?_⟩⟩
        refine ⟨12, rfl, by decide, by decide, for_range (n := 12) (fun j σ H' => ∃ (es : List Int) (c' z : Int) (y6 : Option V), σ = [some (.ref a), some (.int lo), some (.int ((lo : Int) + n)), some (.ref p), some (.int ((lo : Int) + i)), some (.int c'), y6, some (.int z)] ∧ Nw p H H' (es.map V.int) ∧ es.length ≤ 60 * i + j)
          ⟨ds, _, _, _, rfl, hw, hd⟩ ?_ ?_⟩
        · rintro j σ H2 hj ⟨es, c', z, y6, rfl, hw2, he⟩
          refine ⟨_, rfl, _, _, rfl, rfl, .inr ⟨by decide, by decide⟩, _, rfl, _, _, rfl, rfl, .inl ⟨by decide, by decide⟩, _, _, rfl, rfl, _, _, rfl, rfl, .inl ⟨_, rfl, _, _, rfl, rfl, (by show (0 : Int) < 2147483647; decide), ?_⟩⟩
          refine ⟨_, rfl, .inl ⟨rfl, _, SqL.of hw2.h⟩, _, rfl, _, _, rfl, rfl, ⟨by decide, by decide⟩, .inl ⟨_, rfl, _, _, rfl, rfl, (by show (0 : Int) < 1000; decide), _, _, _, rfl, rfl, hw2.h, small6 (by rw [List.length_map]; omega), ?_⟩⟩
          refine ⟨es ++ [_], _, _, _, rfl, hw2.app, ?_⟩
          rw [List.length_append, List.length_singleton]
          omega
        · rintro σ H2 ⟨es, c', z, y6, rfl, hw2, he⟩
          exact ⟨es, _, _, _, _, rfl, hw2, by omega⟩
  · rintro σ H1 ⟨ds, y4, y5, y6, y7, rfl, hw, hd⟩
    exact ⟨_, rfl, q p H1 ds hw⟩
end

/-! ### the box -/
def BoxAt (H : Hp) (b d : Addr) : Prop := ∃ (ds : List Int) (n : Int), H b = some (.lst [.ref d, .int n]) ∧ H d = some (.lst (ds.map V.int)) ∧ d ≠ b ∧ 0 ≤ n
theorem BoxAt.lst {H : Hp} {b d : Addr} (x : BoxAt H b d) : ∃ xs, H b = some (.lst xs) := let ⟨_, _, h, _⟩ := x; ⟨_, h⟩
theorem BoxAt.dst {H : Hp} {b d : Addr} (x : BoxAt H b d) : ∃ xs, H d = some (.lst xs) := let ⟨_, _, _, h, _⟩ := x; ⟨_, h⟩
theorem BoxAt.keep {H H' : Hp} {b d : Addr} (x : BoxAt H b d) (h1 : ∀ o, H b = some o → H' b = some o) (h2 : ∀ o, H d = some o → H' d = some o) : BoxAt H' b d := let ⟨ds, n, a1, a2, a3, a4⟩ := x; ⟨ds, n, h1 _ a1, h2 _ a2, a3, a4⟩
theorem BoxAt.same {H H' : Hp} {b d : Addr} (x : BoxAt H b d) (s : Same H H') : BoxAt H' b d := x.keep (fun _ => s _ _) (fun _ => s _ _)
theorem BoxAt.other {H : Hp} {b d u : Addr} (o : HO) (x : BoxAt H b d) (hb : u ≠ b) (hd : u ≠ d) : BoxAt (upd H u o) b d := x.keep (fun _ h => by rw [upd_ne hb.symm]; exact h) (fun _ h => by rw [upd_ne hd.symm]; exact h)
theorem box_kx {H H' : Hp} {b d : Addr} (x : BoxAt H b d) (y : BoxAt H' b d) (s : SB b H H') : Kx H H' := let ⟨_, h⟩ := x.lst; let ⟨_, h'⟩ := y.lst; sb_kx s h h'
section
variable {P : Program} {w : World} {K : PySem.W.Frag} {mg : Str → Option Value} {base : Heap}
def spDraw : Sp := fun vs H Q _ => ∃ (b d : Addr) (m : Int), vs = [.ref b, .int m] ∧ BoxAt H b d ∧ 0 < m ∧ ∀ (r : Int) (H' : Hp), 0 ≤ r → r < m → BoxAt H' b d → SB b H H' → Q (.int r) H'
theorem ok_draw {f : Addr} {fd : FuncData} (D : Df K mg "_law_draw" s__law_draw ["box", "many"] f fd) (B : Bt mg) : FnOk P w K mg base CX0 1 f fd ["box", "many"] spDraw := by
  refine D.ok c__law_draw (fun vs H Q E h => ?_) (fun cdv A outer s H vs Q E hr h => ?_)
  · obtain ⟨b, d, m, rfl, _⟩ := h
    rfl
  obtain ⟨b, d, m, rfl, ⟨ds, n, hb, hd, hdb, hn⟩, hm, q⟩ := h
  have nd := c__law_draw.nd
  refine ⟨_, (pss_cons (ps_set (i := 2) nd rfl (Or.inl rfl) (pe_ix ix_list (pv 0) pe_int (fun _ _ => rfl)))
  (pss_cons (ps_asg (pe_op op_add (pv 2) pe_int) (pg_sub (pv 0) pe_int set_list))
  (pss_cons (ps_if (pt_cmpR op_lt (pv 2) (pe_callB call_len_seq (by rfl) B.b_len PySem.boot_len (pa_cons (pe_ix ix_list (pv 0) pe_int (fun _ _ => rfl)) pa_nil)) (nomark _)) (pss_one (ps_ret (pe_op op_mod (pe_callTy call_int1 (by rfl) B.b_int (by decide +kernel) (pa_cons (pe_ix ix_list (pe_ix ix_list (pv 0) pe_int (fun _ _ => rfl)) (pv 2) (fun _ _ => rfl)) pa_nil)) (pv 1)))) pss_nil)
  (pss_one (ps_ret pe_int))))), ?_⟩
  refine ⟨_, rfl, b, _, 1, _, rfl, rfl, SqL.of hb, rfl, ?_⟩
  refine ⟨_, rfl, _, _, rfl, rfl, _, rfl, b, _, 1, 1, rfl, rfl, hb, rfl, ?_⟩
  have hb' : (upd H b (.lst [.ref d, .int (n + 1)])) b = some (.lst [.ref d, .int (n + 1)]) := upd_same
  have hd' : (upd H b (.lst [.ref d, .int (n + 1)])) d = some (.lst (ds.map V.int)) := by rw [upd_ne hdb]; exact hd
  have hB : BoxAt (upd H b (.lst [.ref d, .int (n + 1)])) b d := ⟨ds, n + 1, hb', hd', hdb, by omega⟩
  refine ⟨_, rfl, _, rfl, b, _, 0, _, rfl, rfl, SqL.of hb', rfl, d, _, rfl, .inl (SqL.of hd'), _, _, rfl, rfl, _, rfl, ite2 (fun c => ?_) (fun c => ?_)⟩
  · have c' : n < (((ds.map V.int).length : Nat) : Int) := of_decide_eq_true c
    rw [List.length_map] at c'
    have hk : n.toNat < ds.length := by omega
    have q1 : atI (ds.map V.int) ((n.toNat : Nat) : Int) = some (.int ds[n.toNat]) := atI_nat (by rw [List.getElem?_map, List.getElem?_eq_getElem hk] <;> rfl)
    have ek : ((n.toNat : Nat) : Int) = n := by omega
    rw [ek] at q1
    refine ⟨_, rfl, b, _, 0, _, rfl, rfl, SqL.of hb', rfl, _, rfl, d, _, _, _, rfl, rfl, SqL.of hd', q1, .inl ⟨_, rfl, _, rfl, _, _, rfl, rfl, hm, ?_⟩⟩
    exact q _ _ (Int.emod_nonneg _ (by omega)) (Int.emod_lt_of_pos _ hm) hB (sb_upd _)
  · exact q 0 _ (Int.le_refl _) hm hB (sb_upd _)
def spBox (K : PySem.W.Frag) : Sp := fun vs H Q _ => ∃ (a : Addr) (ns : List Int) (lo n : Nat), vs = [.ref a, .int lo, .int ((lo : Int) + n)] ∧ SqL K H a (ns.map V.int) ∧ lo ≤ 100 ∧ n ≤ 100 ∧
  ∀ (p d : Addr) (H' : Hp), Same H H' → H p = none → H d = none → BoxAt H' p d → Q (.ref p) H'
theorem ok_box {f g e : Addr} {fd gd ed : FuncData} (D : Df K mg "_law_box" s__law_box ["script", "first", "last"] f fd) (D__law_digits : Df K mg "_law_digits" s__law_digits ["script", "first", "last"] g gd) (D__law_cell : Df K mg "_law_cell" s__law_cell ["script", "k"] e ed) (B : Bt mg) :
    FnOk P w K mg base CX0 3 f fd ["script", "first", "last"] (spBox K) := by
  have G__law_digits : FnOk P w K mg base CX0 2 g gd ["script", "first", "last"] (spDigits K) := ok_digits D__law_digits B D__law_cell
  refine D.ok c__law_box (fun vs H Q E h => ?_) (fun cdv A outer s H vs Q E hr h => ?_)
  · obtain ⟨a, ns, lo, n, rfl, _⟩ := h
    rfl
  obtain ⟨a, ns, lo, n, rfl, hS, hlo, hn, q⟩ := h
  have nd := c__law_box.nd
  refine ⟨_, (pss_one (ps_ret (pe_lst (pa_cons (pe_call G__law_digits (hr.mono (by first | decide | omega)) (by rfl) D__law_digits.m D__law_digits.kp D__law_digits.b .nil pass0 (pa_cons (pv 0) (pa_cons (pv 1) (pa_cons (pv 2) pa_nil)))) (pa_cons pe_int pa_nil))))), ?_⟩
  refine ⟨_, rfl, _, rfl, _, rfl, a, ns, lo, n, rfl, hS, hlo, hn, fun p H1 ds hw => ⟨(by show 2 ≤ sizeLine; decide), fun r hr' => ?_⟩⟩
  have hne : p ≠ r := ne_of_none hw.h hr'
  have s1 : Same H1 (upd H1 r (.lst [.ref p, .int 0])) := same_new hr' _
  exact q r p _ (hw.s.trans s1) (hw.s.free hr') hw.n ⟨ds, 0, upd_same, s1 _ _ hw.h, hne, Int.le_refl _⟩
end
/-! ### isinstance -/
def tyD : D → String
  | .at .non => "NoneType"
  | .at (.bl _) => "bool"
  | .at (.int _) => "int"
  | .at _ => "str"
  | .lst => "list"
  | .tup _ => "tuple"
def isTup : D → Bool
  | .tup _ => true
  | _ => false
def isBool : D → Bool
  | .at (.bl _) => true
  | _ => false
def isInt : D → Bool
  | .at (.int _) => true
  | .at (.bl _) => true
  | _ => false
def isStr : D → Bool
  | .at .non => false
  | .at (.bl _) => false
  | .at (.int _) => false
  | .at _ => true
  | _ => false
theorem rep_ty {K : PySem.W.Frag} {H : Hp} {x : V} {d : D} (r : Rep H x d) : TyX K H x (.type (tyD d)) := by
  cases r with
  | lst h => exact .base (.lst h)
  | tup h _ => exact .base (.tup h)
  | «at» h =>
    cases x with
    | non => exact .base .non
    | bl b => exact .base (.bl b)
    | int i => exact .base (.int i)
    | str s => exact .base (.str s)
    | byt _ => cases h
    | flt _ => cases h
    | ref _ => cases h
    | ty _ => cases h
theorem kit_tup (d : D) : kitB (tyD d) "tuple" = some (isTup d) := by
  have h_NoneType : kitB "NoneType" "tuple" = some false := by decide +kernel
  have h_bool : kitB "bool" "tuple" = some false := by decide +kernel
  have h_int : kitB "int" "tuple" = some false := by decide +kernel
  have h_str : kitB "str" "tuple" = some false := by decide +kernel
  have h_list : kitB "list" "tuple" = some false := by decide +kernel
  have h_tuple : kitB "tuple" "tuple" = some true := by decide +kernel
  cases d with
  | tup _ => exact h_tuple
  | lst => exact h_list
  | «at» v =>
    cases v with
    | non => exact h_NoneType
    | bl _ => exact h_bool
    | int _ => exact h_int
    | _ => exact h_str
theorem kit_bool (d : D) : kitB (tyD d) "bool" = some (isBool d) := by
  have h_NoneType : kitB "NoneType" "bool" = some false := by decide +kernel
  have h_bool : kitB "bool" "bool" = some true := by decide +kernel
  have h_int : kitB "int" "bool" = some false := by decide +kernel
  have h_str : kitB "str" "bool" = some false := by decide +kernel
  have h_list : kitB "list" "bool" = some false := by decide +kernel
  have h_tuple : kitB "tuple" "bool" = some false := by decide +kernel
  cases d with
  | tup _ => exact h_tuple
  | lst => exact h_list
  | «at» v =>
    cases v with
    | non => exact h_NoneType
    | bl _ => exact h_bool
    | int _ => exact h_int
    | _ => exact h_str
theorem kit_int (d : D) : kitB (tyD d) "int" = some (isInt d) := by
  have h_NoneType : kitB "NoneType" "int" = some false := by decide +kernel
  have h_bool : kitB "bool" "int" = some true := by decide +kernel
  have h_int : kitB "int" "int" = some true := by decide +kernel
  have h_str : kitB "str" "int" = some false := by decide +kernel
  have h_list : kitB "list" "int" = some false := by decide +kernel
  have h_tuple : kitB "tuple" "int" = some false := by decide +kernel
  cases d with
  | tup _ => exact h_tuple
  | lst => exact h_list
  | «at» v =>
    cases v with
    | non => exact h_NoneType
    | bl _ => exact h_bool
    | int _ => exact h_int
    | _ => exact h_str
theorem kit_str (d : D) : kitB (tyD d) "str" = some (isStr d) := by
  have h_NoneType : kitB "NoneType" "str" = some false := by decide +kernel
  have h_bool : kitB "bool" "str" = some false := by decide +kernel
  have h_int : kitB "int" "str" = some false := by decide +kernel
  have h_str : kitB "str" "str" = some true := by decide +kernel
  have h_list : kitB "list" "str" = some false := by decide +kernel
  have h_tuple : kitB "tuple" "str" = some false := by decide +kernel
  cases d with
  | tup _ => exact h_tuple
  | lst => exact h_list
  | «at» v =>
    cases v with
    | non => exact h_NoneType
    | bl _ => exact h_bool
    | int _ => exact h_int
    | _ => exact h_str
theorem isi {K : PySem.W.Frag} {H : Hp} {x : V} {d : D} {T : String} {b : Bool} {Q : VK} (r : Rep H x d) (h : kitB (tyD d) T = some b) (q : Q (.bl b) H) : rIsi K [x, .ty T] H Q :=
  ⟨x, .ty T, .type (tyD d), .type T, b, rfl, .ty T, rep_ty r, kit_ty h, q⟩
/-! ### data without lists -/
mutual
def noL : D → Bool
  | .tup ts => noLs ts
  | .lst => false
  | .at _ => true
def noLs : List D → Bool
  | [] => true
  | t :: r => noL t && noLs r
end
theorem noL_mem : ∀ {l : List D}, noLs l = true → ∀ {d : D}, d ∈ l → noL d = true
  | t :: r, hk, d, h => by
    have hk' : (noL t && noLs r) = true := hk
    rw [Bool.and_eq_true] at hk'
    rcases List.mem_cons.mp h with e | h
    · rw [e]
      exact hk'.1
    · exact noL_mem hk'.2 h
/-! ### _law_same -/
section
variable {P : Program} {w : World} {K : PySem.W.Frag} {mg : Str → Option Value} {base : Heap}
def spSame (n : Nat) : Sp := fun vs H Q _ => ∃ (x y : V) (d e : D), vs = [x, y] ∧ Rep H x d ∧ Rep H y e ∧ noL e = true ∧ dep e < n ∧ szs [e] ≤ 1000000 ∧ ∀ r : Bool, (r = true ↔ d = e) → Q (.bl r) H
theorem ok_same0 {f : Addr} {fd : FuncData} : FnOk P w K mg base CX0 0 f fd ["actual", "expected"] (spSame 0) := by
  have no : ∀ vs H Q E, ¬ spSame 0 vs H Q E := fun vs H Q E h => by
    obtain ⟨x, y, d, e, _, _, _, _, h1, _⟩ := h
    omega
  exact ⟨fun vs H Q E h => absurd h (no vs H Q E), fun A outer s H args us vs Q E _ _ _ _ h => absurd h (no vs H Q E)⟩
theorem ok_same {f : Addr} {fd : FuncData} (D__law_same : Df K mg "_law_same" s__law_same ["actual", "expected"] f fd) (B : Bt mg) : ∀ n : Nat, FnOk P w K mg base CX0 n f fd ["actual", "expected"] (spSame n)
  | 0 => ok_same0
  | n + 1 => by
    have G__law_same := ok_same D__law_same B n
    refine D__law_same.ok c__law_same (fun vs H Q E h => ?_) (fun cdv A outer s H vs Q E hr h => ?_)
    · obtain ⟨x, y, d, e, rfl, _⟩ := h
      rfl
    obtain ⟨x, y, d, e, rfl, rx, ry, hnl, hdp, hsz, q⟩ := h
    have nd := c__law_same.nd
    refine ⟨_, (pss_cons (ps_if (pt_val (pe_callB call_isi (by rfl) B.b_isinstance (by decide +kernel) (pa_cons (pv 1) (pa_cons (pe_bltn (v := .ty "tuple") (by rfl) B.b_tuple (by decide +kernel) rfl) pa_nil)))) (pss_cons (ps_if (PW.pt (pw_or (pt_not (pt_val (pe_callB call_isi (by rfl) B.b_isinstance (by decide +kernel) (pa_cons (pv 0) (pa_cons (pe_bltn (v := .ty "tuple") (by rfl) B.b_tuple (by decide +kernel) rfl) pa_nil))))) (pw_or1 (pt_cmpR op_ne (pe_callB call_len_seq (by rfl) B.b_len PySem.boot_len (pa_cons (pv 0) pa_nil)) (pe_callB call_len_seq (by rfl) B.b_len PySem.boot_len (pa_cons (pv 1) pa_nil)) (nomark _))))) (pss_one (ps_ret pe_bl)) pss_nil)
  (pss_cons (ps_for PassesOwn.never rfl (pi_range1 (by rfl) B.b_range (pa_cons (pe_callB call_len_seq (by rfl) B.b_len PySem.boot_len (pa_cons (pv 1) pa_nil)) pa_nil)) (pg_name (i := 2) nd rfl (Or.inl rfl)) (pss_one (ps_if (pt_not (pt_val (pe_call G__law_same hr (by rfl) D__law_same.m D__law_same.kp D__law_same.b .nil pass0 (pa_cons (pe_ix ix_tup (pv 0) (pv 2) (fun _ _ => rfl)) (pa_cons (pe_ix ix_tup (pv 1) (pv 2) (fun _ _ => rfl)) pa_nil))))) (pss_one (ps_ret pe_bl)) pss_nil)))
  (pss_one (ps_ret pe_bl)))) pss_nil)
  (pss_cons (ps_if (pt_cmpR op_isN (pv 1) pe_non (nomark _)) (pss_one (ps_ret (pe_cmpR op_isN (pv 0) pe_non (nomark _)))) pss_nil)
  (pss_cons (ps_if (pt_val (pe_callB call_isi (by rfl) B.b_isinstance (by decide +kernel) (pa_cons (pv 1) (pa_cons (pe_bltn (v := .ty "bool") (by rfl) B.b_bool (by decide +kernel) rfl) pa_nil)))) (pss_one (ps_ret (pe_and (pe_callB call_isi (by rfl) B.b_isinstance (by decide +kernel) (pa_cons (pv 0) (pa_cons (pe_bltn (v := .ty "bool") (by rfl) B.b_bool (by decide +kernel) rfl) pa_nil))) (pe_one (pe_cmpR op_eq (pv 0) (pv 1) (nomark _)))))) pss_nil)
  (pss_cons (ps_if (pt_val (pe_callB call_isi (by rfl) B.b_isinstance (by decide +kernel) (pa_cons (pv 1) (pa_cons (pe_bltn (v := .ty "int") (by rfl) B.b_int (by decide +kernel) rfl) pa_nil)))) (pss_one (ps_ret (pe_and (pe_callB call_isi (by rfl) B.b_isinstance (by decide +kernel) (pa_cons (pv 0) (pa_cons (pe_bltn (v := .ty "int") (by rfl) B.b_int (by decide +kernel) rfl) pa_nil))) (pe_and (pe_not (pe_callB call_isi (by rfl) B.b_isinstance (by decide +kernel) (pa_cons (pv 0) (pa_cons (pe_bltn (v := .ty "bool") (by rfl) B.b_bool (by decide +kernel) rfl) pa_nil)))) (pe_one (pe_cmpR op_eq (pv 0) (pv 1) (nomark _))))))) pss_nil)
  (pss_one (ps_ret (pe_and (pe_callB call_isi (by rfl) B.b_isinstance (by decide +kernel) (pa_cons (pv 0) (pa_cons (pe_bltn (v := .ty "str") (by rfl) B.b_str (by decide +kernel) rfl) pa_nil))) (pe_one (pe_cmpR op_eq (pv 0) (pv 1) (nomark _)))))))))), ?_⟩
    refine ⟨y, rfl, _, _, _, _, _, rfl, .ty _, rep_ty ry, kit_ty (kit_tup _), ⟨_, rfl, ?_⟩⟩
    cases e with
    | lst => cases hnl
    | tup ts =>
      refine iteT ?_
      refine ⟨x, rfl, _, _, _, _, _, rfl, .ty _, rep_ty rx, kit_ty (kit_tup _), ⟨_, rfl, ?_⟩⟩
      obtain ⟨b, ys, rfl, hy, ry'⟩ := ry.inv
      have hts : ts.length ≤ 1000000 := by
        have h1 := len_szs ts
        have h2 : szs ts + 1 + 0 ≤ 1000000 := hsz
        omega
      have lts : (ts.length : Int) ≤ 1000000 := by omega
      cases d with
      | lst => exact iteT (q false ⟨fun z => (nomatch z), fun z => (nomatch z)⟩)
      | «at» v => exact iteT (q false ⟨fun z => (nomatch z), fun z => (nomatch z)⟩)
      | tup us =>
        obtain ⟨a, xs, rfl, hx, rx'⟩ := rx.inv
        have lx := rx'.length
        have ly := ry'.length
        refine iteF ?_
        refine ⟨_, rfl, a, xs, rfl, .inr (SqT.of hx), _, rfl, b, ys, rfl, .inr (SqT.of hy), rfl, _, rfl, ite2 (fun c => ?_) (fun c => ?_)⟩
        · refine q false ⟨fun z => (nomatch z), fun z => ?_⟩
          cases z
          rw [lx, ly, decide_eq_true rfl] at c
          cases c
        · have el : xs.length = ys.length := by
            by_cases z : V.int ((xs.length : Nat) : Int) = V.int ((ys.length : Nat) : Int)
            · exact Int.ofNat.inj (V.int.inj z)
            · rw [decide_eq_false z] at c
              exact absurd rfl c
          refine ⟨_, rfl, b, ys, rfl, .inr (SqT.of hy), _, rfl, by omega, by omega, for_range (n := ((ys.length : Nat) : Int).toNat) (fun i σ H' => H' = H ∧ us.take i = ts.take i ∧ ∃ y2, σ = [some (.ref a), some (.ref b), y2])
            ⟨rfl, rfl, _, rfl⟩ ?_ ?_⟩
          · rintro i σ H' hi ⟨rfl, ht, y2, rfl⟩
            have hi' : i < ys.length := by omega
            have iy : ys[i]? = some ys[i] := List.getElem?_eq_getElem hi'
            have ix : xs[i]? = some (xs[i]'(by omega)) := List.getElem?_eq_getElem (by omega)
            obtain ⟨du, hdu, ru⟩ := rx'.get ix
            obtain ⟨dt, hdt, rt⟩ := ry'.get iy
            have mt : dt ∈ ts := List.mem_of_getElem? hdt
            have ez : (0 : Int) + (i : Nat) = ((i : Nat) : Int) := by omega
            have ax : atI xs ((0 : Int) + (i : Nat)) = some (xs[i]'(by omega)) := by rw [ez]; exact atI_nat ix
            have ay : atI ys ((0 : Int) + (i : Nat)) = some ys[i] := by rw [ez]; exact atI_nat iy
            have z1 := dep_mem mt
            have z2 := sz_mem mt
            have z3 : deps ts < n + 1 := hdp
            have z4 : szs ts + 1 + 0 ≤ 1000000 := hsz
            refine ⟨_, rfl, _, rfl, a, xs, _, _, rfl, rfl, SqT.of hx, ax, _, rfl, _, rfl, b, ys, _, _, rfl, rfl, SqT.of hy, ay, _, _, du, dt, rfl, ru, rt, noL_mem hnl mt, by omega, by show sz dt + 0 ≤ 1000000; omega, fun r hr => ⟨_, rfl, ?_⟩⟩
            cases r with
            | true =>
              refine iteF ⟨rfl, ?_, _, rfl⟩
              rw [List.take_add_one, List.take_add_one, hdu, hdt, ht, hr.mp rfl]
            | false =>
              refine iteT (q false ⟨fun z => (nomatch z), fun z => ?_⟩)
              cases z
              rw [hdu] at hdt
              cases hdt
              exact hr.mpr rfl
          · rintro σ H' ⟨rfl, ht, y2, rfl⟩
            refine q true ⟨fun _ => ?_, fun _ => rfl⟩
            have e1 : us.take ((ys.length : Nat) : Int).toNat = us := List.take_of_length_le (by omega)
            have e2 : ts.take ((ys.length : Nat) : Int).toNat = ts := List.take_of_length_le (by omega)
            rw [← e1, ← e2, ht]
    | «at» v =>
      obtain ⟨rfl, hf⟩ := ry.inva
      refine iteF ?_
      refine ⟨_, rfl, rfl, _, rfl, ite2 (fun c => ?_) (fun c => ?_)⟩
      · have ev : y = .non := of_decide_eq_true c
        subst ev
        refine ⟨_, rfl, rfl, ?_⟩
        refine q _ ⟨fun z => ?_, fun z => ?_⟩
        · have ex : x = .non := of_decide_eq_true z
          subst ex
          cases rx
          rfl
        · subst z
          obtain ⟨rfl, _⟩ := rx.inva
          exact decide_eq_true rfl
      have hv : y ≠ .non := fun z => c (decide_eq_true z)
      refine ⟨y, rfl, _, _, _, _, _, rfl, .ty _, rep_ty ry, kit_ty (kit_bool _), ⟨_, rfl, ?_⟩⟩
      cases y with
      | non => exact absurd rfl hv
      | byt _ => cases hf
      | flt _ => cases hf
      | ref _ => cases hf
      | ty _ => cases hf
      | bl b =>
        refine iteT ⟨x, rfl, _, _, _, _, _, rfl, .ty _, rep_ty rx, kit_ty (kit_bool _), ⟨_, rfl, ?_⟩⟩
        cases d with
        | tup _ => exact iteF (q false ⟨fun z => (nomatch z), fun z => (nomatch z)⟩)
        | lst => exact iteF (q false ⟨fun z => (nomatch z), fun z => (nomatch z)⟩)
        | «at» v =>
          obtain ⟨rfl, _⟩ := rx.inva
          cases x with
          | bl b2 =>
            refine iteT ⟨_, rfl, _, rfl, rfl, q _ ⟨fun z => ?_, fun z => ?_⟩⟩
            · rw [of_decide_eq_true z]
            · cases z
              exact decide_eq_true rfl
          | _ => exact iteF (q false ⟨fun z => (nomatch z), fun z => (nomatch z)⟩)
      | int i =>
        refine iteF ⟨_, rfl, _, _, _, _, _, rfl, .ty _, rep_ty ry, kit_ty (kit_int _), ⟨_, rfl, iteT ⟨x, rfl, _, _, _, _, _, rfl, .ty _, rep_ty rx, kit_ty (kit_int _), ⟨_, rfl, ?_⟩⟩⟩⟩
        cases d with
        | tup _ => exact iteF (q false ⟨fun z => (nomatch z), fun z => (nomatch z)⟩)
        | lst => exact iteF (q false ⟨fun z => (nomatch z), fun z => (nomatch z)⟩)
        | «at» v =>
          obtain ⟨rfl, _⟩ := rx.inva
          cases x with
          | bl b2 => exact iteT ⟨_, rfl, _, _, _, _, _, rfl, .ty _, rep_ty rx, kit_ty (kit_bool _), ⟨_, rfl, ⟨_, rfl, iteF (q false ⟨fun z => (nomatch z), fun z => (nomatch z)⟩)⟩⟩⟩
          | int i2 =>
            refine iteT ⟨_, rfl, _, _, _, _, _, rfl, .ty _, rep_ty rx, kit_ty (kit_bool _), ⟨_, rfl, ⟨_, rfl, iteT ?_⟩⟩⟩
            refine ⟨_, rfl, _, rfl, rfl, q _ ⟨fun z => ?_, fun z => ?_⟩⟩
            · rw [of_decide_eq_true z]
            · cases z
              exact decide_eq_true rfl
          | _ => exact iteF (q false ⟨fun z => (nomatch z), fun z => (nomatch z)⟩)
      | str z =>
        refine iteF ⟨_, rfl, _, _, _, _, _, rfl, .ty _, rep_ty ry, kit_ty (kit_int _), ⟨_, rfl, iteF ⟨x, rfl, _, _, _, _, _, rfl, .ty _, rep_ty rx, kit_ty (kit_str _), ⟨_, rfl, ?_⟩⟩⟩⟩
        cases d with
        | tup _ => exact iteF (q false ⟨fun z => (nomatch z), fun z => (nomatch z)⟩)
        | lst => exact iteF (q false ⟨fun z => (nomatch z), fun z => (nomatch z)⟩)
        | «at» v =>
          obtain ⟨rfl, _⟩ := rx.inva
          cases x with
          | str b2 =>
            refine iteT ⟨_, rfl, _, rfl, rfl, q _ ⟨fun z => ?_, fun z => ?_⟩⟩
            · rw [of_decide_eq_true z]
            · cases z
              exact decide_eq_true rfl
          | byt _ => cases rx with | «at» hh => cases hh
          | flt _ => cases rx with | «at» hh => cases hh
          | ref _ => cases rx with | «at» hh => cases hh
          | ty _ => cases rx with | «at» hh => cases hh
          | _ => exact iteF (q false ⟨fun z => (nomatch z), fun z => (nomatch z)⟩)
end
end Pk

set_option maxRecDepth 100000
set_option maxHeartbeats 4000000
namespace Pk
open PySem PySem.Spec PyProof.Rows L2
/-! ### _law_kind_deep -/
section
variable {P : Program} {w : World} {K : PySem.W.Frag} {mg : Str → Option Value} {base : Heap}
/-- all but what stands at b and at u is as it was -/
def SB2 (b u : Addr) (H H' : Hp) : Prop := ∀ q o, q ≠ b → q ≠ u → H q = some o → H' q = some o
def spDeep (n : Nat) : Sp := fun vs H Q _ => ∃ (b c u : Addr) (dp : Int) (g : Nat), vs = [.ref b, .int dp, .ref u] ∧ BoxAt H b c ∧ H u = some (.lst [.int g]) ∧ 0 ≤ dp ∧ dp < n ∧ g ≤ 100 ∧ b ≠ u ∧ c ≠ u ∧
  ∀ (v : V) (H' : Hp) (d : D) (g' : Nat), Rep H' v d → isK d = true → (dep d : Int) ≤ dp → sz d + g' ≤ g + 1 → H' u = some (.lst [.int g']) → BoxAt H' b c → SB2 b u H H' → Q v H'
theorem ok_deep0 {f : Addr} {fd : FuncData} : FnOk P w K mg base CX0 0 f fd ["box", "deep", "budget"] (spDeep 0) := by
  have no : ∀ vs H Q E, ¬ spDeep 0 vs H Q E := fun vs H Q E h => by
    obtain ⟨b, c, u, dp, g, _, _, _, h0, h1, _⟩ := h
    omega
  exact ⟨fun vs H Q E h => absurd h (no vs H Q E), fun A outer s H args us vs Q E _ _ _ _ h => absurd h (no vs H Q E)⟩
theorem sb2_kx {b u d : Addr} {H H' : Hp} (x : BoxAt H b d) (y : BoxAt H' b d) {us vs : List V} (hu : H u = some (.lst us)) (hu' : H' u = some (.lst vs)) (s : SB2 b u H H') : Kx H H' := by
  obtain ⟨bs, hb⟩ := x.lst
  obtain ⟨bs', hb'⟩ := y.lst
  refine ⟨fun a zs e => s _ _ (ne_of e hb (by intro q; cases q)) (ne_of e hu (by intro q; cases q)) e, fun a zs e => ?_⟩
  by_cases ha : a = b
  · subst ha
    exact ⟨bs', hb'⟩
  · by_cases ha' : a = u
    · subst ha'
      exact ⟨vs, hu'⟩
    · exact ⟨zs, s _ _ ha ha' e⟩
theorem ok_deep {f e : Addr} {fd ed : FuncData} (D__law_kind_deep : Df K mg "_law_kind_deep" s__law_kind_deep ["box", "deep", "budget"] f fd) (D__law_draw : Df K mg "_law_draw" s__law_draw ["box", "many"] e ed) (B : Bt mg) :
    ∀ n : Nat, FnOk P w K mg base CX0 (n + 1) f fd ["box", "deep", "budget"] (spDeep n)
  | 0 => (ok_deep0 (f := f) (fd := fd)).mono (by omega)
  | n + 1 => by
    have G__law_kind_deep := ok_deep D__law_kind_deep D__law_draw B n
    have G__law_draw : FnOk P w K mg base CX0 1 e ed ["box", "many"] spDraw := ok_draw D__law_draw B
    refine D__law_kind_deep.ok c__law_kind_deep (fun vs H Q E h => ?_) (fun cdv A outer s H vs Q E hr h => ?_)
    · obtain ⟨b, c, u, dp, g, rfl, _⟩ := h
      rfl
    obtain ⟨b, c, u, dp, g, rfl, hB, hu, h0, h1, hg, hbu, hcu, q⟩ := h
    have nd := c__law_kind_deep.nd
    refine ⟨_, (pss_cons (ps_set (i := 3) nd rfl (Or.inl rfl) (pe_lst pa_nil))
  (pss_cons (ps_if (pt_cmpR op_gt (pv 1) pe_int (nomark _)) (pss_one (ps_for PassesOwn.never rfl (pi_range1 (by rfl) B.b_range (pa_cons (pe_call G__law_draw (hr.mono (by first | decide | omega)) (by rfl) D__law_draw.m D__law_draw.kp D__law_draw.b .nil pass0 (pa_cons (pv 0) (pa_cons pe_int pa_nil))) pa_nil)) (pg_name (i := 4) nd rfl (Or.inl rfl)) (pss_one (ps_if (pt_cmpR op_gt (pe_ix ix_list (pv 2) pe_int (fun _ _ => rfl)) pe_int (nomark _)) (pss_cons (ps_asg (pe_op op_sub (pe_ix ix_list (pv 2) pe_int (fun _ _ => rfl)) pe_int) (pg_sub (pv 2) pe_int set_list))
  (pss_one (ps_expr (pe_bm PySem.F.plainAttrs_list PySem.F.slot_list_append PySem.F.type_list_append mt_append (pv 3) (pa_cons (pe_call G__law_kind_deep hr (by rfl) D__law_kind_deep.m D__law_kind_deep.kp D__law_kind_deep.b .nil pass0 (pa_cons (pv 0) (pa_cons (pe_op op_sub (pv 1) pe_int) (pa_cons (pv 2) pa_nil)))) pa_nil))))) pss_nil)))) pss_nil)
  (pss_one (ps_ret (pe_callTy call_tuple_of (by rfl) B.b_tuple (by decide +kernel) (pa_cons (pv 3) pa_nil)))))), ?_⟩
    refine ⟨Nat.zero_le _, fun p np => ?_⟩
    have hbl := hB.lst
    obtain ⟨bs, hbs⟩ := hbl
    have npb : b ≠ p := ne_of_none hbs np
    have npu : u ≠ p := ne_of_none hu np
    have s1 : Same H (upd H p (.lst [])) := same_new np _
    obtain ⟨cs, hcs⟩ := hB.dst
    have npc : c ≠ p := ne_of_none hcs np
    have fin : ∀ (y4 : Option V) (xs : List V) (ds : List D) (g' : Nat) (H1 : Hp), H1 p = some (.lst xs) → Reps H1 xs ds → isKs ds = true → (deps ds : Int) ≤ dp → szs ds + g' ≤ g → H1 u = some (.lst [.int g']) → BoxAt H1 b c → SB2 b u H H1 →
        ∃ a ys, [V.ref p] = [.ref a] ∧ ((SqL K H1 a ys ∧ ∀ l, H1 l = none → Q (.ref l) (upd H1 l (.tup ys))) ∨ (SqT K H1 a ys ∧ Q (.ref a) H1)) := by
      intro y4 xs ds g' H1 hp hr' hk hd hs hu1 hb1 hsb
      refine ⟨p, xs, rfl, .inl ⟨SqL.of hp, fun l hl => ?_⟩⟩
      have sl : Same H1 (upd H1 l (.tup xs)) := same_new hl _
      refine q _ _ (.tup ds) g' (.tup upd_same (hr'.mono (kx_same sl))) hk hd (by show szs ds + 1 + g' ≤ g + 1; omega) (sl _ _ hu1) (hb1.same sl) (fun z o n1 n2 e => sl _ _ (hsb z o n1 n2 e))
    refine ⟨_, rfl, _, _, rfl, rfl, _, rfl, ite2 (fun z => ?_) (fun z => ?_)⟩
    · have c' : (0 : Int) < dp := of_decide_eq_true z
      refine ⟨_, rfl, b, c, 5, rfl, hB.same s1, by decide, fun r H1 hr0 hr5 hB1 hs1 => ⟨r, rfl, by omega, by omega, ?_⟩⟩
      refine for_range (n := r.toNat) (fun i σ H' => ∃ (xs : List V) (ds : List D) (g' : Nat) (y4 : Option V), σ = [some (.ref b), some (.int dp), some (.ref u), some (.ref p), y4] ∧ H' p = some (.lst xs) ∧ Reps H' xs ds ∧ isKs ds = true ∧ (deps ds : Int) ≤ dp ∧ szs ds + g' ≤ g ∧ H' u = some (.lst [.int g']) ∧ BoxAt H' b c ∧ SB2 b u H H')
        ⟨[], [], g, none, rfl, hs1 _ _ npb.symm upd_same, .nil, rfl, h0, by show 0 + g ≤ g; omega, hs1 _ _ hbu.symm (s1 _ _ hu), hB1, fun z o n1 n2 e => hs1 _ _ n1 (s1 _ _ e)⟩ ?_ ?_
      · rintro i σ H2 hi ⟨xs, ds, g', y4, rfl, hp, hrs, hk, hd, hs, hu2, hb2, hsb⟩
        refine ⟨_, rfl, u, _, 0, _, rfl, rfl, SqL.of hu2, rfl, _, _, rfl, rfl, _, rfl, ite2 (fun e => ?_) (fun e => ⟨xs, ds, g', _, rfl, hp, hrs, hk, hd, hs, hu2, hb2, hsb⟩)⟩
        have e' : (0 : Int) < (g' : Int) := of_decide_eq_true e
        have eg : (g' : Int) - 1 = ((g' - 1 : Nat) : Int) := by omega
        refine ⟨_, rfl, u, _, 0, _, rfl, rfl, SqL.of hu2, rfl, _, _, rfl, rfl, _, rfl, u, _, 0, 0, rfl, rfl, hu2, rfl, ?_⟩
        have hu3 : (upd H2 u (.lst [.int ((g' : Int) - 1)])) u = some (.lst [.int ((g' - 1 : Nat) : Int)]) := by rw [upd_same, eg]
        have hp3 : (upd H2 u (.lst [.int ((g' : Int) - 1)])) p = some (.lst xs) := by rw [upd_ne npu.symm]; exact hp
        have hb3 : BoxAt (upd H2 u (.lst [.int ((g' : Int) - 1)])) b c := hb2.other _ hbu.symm hcu.symm
        have k3 : Kx H2 (upd H2 u (.lst [.int ((g' : Int) - 1)])) := kx_list hu2 _
        refine ⟨_, rfl, .inl ⟨rfl, _, SqL.of hp3⟩, _, rfl, _, rfl, _, _, rfl, rfl, _, rfl, b, c, u, dp - 1, g' - 1, rfl, hb3, hu3, by omega, by omega, by omega, hbu, hcu, fun v H4 d g4 rv kv dv sv hu4 hb4 hsb4 => ?_⟩
        have hp4 : H4 p = some (.lst xs) := hsb4 _ _ npb.symm npu.symm hp3
        have k4 := sb2_kx hb3 hb4 hu3 hu4 hsb4
        have hrs4 := hrs.mono (k3.trans k4)
        have hlen := hrs.length
        have hlz := len_szs ds
        refine ⟨p, xs, v, rfl, rfl, hp4, small6 (by omega), ?_⟩
        have k5 : Kx H4 (upd H4 p (.lst (xs ++ [v]))) := kx_list hp4 _
        refine ⟨xs ++ [v], ds ++ [d], g4, _, rfl, upd_same, (hrs4.append (.one rv)).mono k5, ?_, ?_, ?_, by rw [upd_ne npu]; exact hu4, ?_, ?_⟩
        · rw [isKs_append, hk]
          show (true && (isK d && true)) = true
          rw [kv]
          rfl
        · rw [deps_append]
          show ((max (deps ds) (max (dep d + 1) 0) : Nat) : Int) ≤ dp
          omega
        · rw [szs_append]
          show szs ds + (sz d + 0) + g4 ≤ g
          omega
        · exact hb4.other _ npb.symm npc.symm
        · intro z o n1 n2 e1
          rw [upd_ne (ne_of_none e1 np)]
          refine hsb4 _ _ n1 n2 ?_
          rw [upd_ne n2]
          exact hsb z o n1 n2 e1
      · rintro σ H2 ⟨xs, ds, g', y4, rfl, hp, hrs, hk, hd, hs, hu2, hb2, hsb⟩
        exact ⟨_, rfl, fin y4 xs ds g' H2 hp hrs hk hd hs hu2 hb2 hsb⟩
    · exact ⟨_, rfl, fin none [] [] g _ upd_same .nil rfl h0 (by show 0 + g ≤ g; omega) (s1 _ _ hu) (hB.same s1) (fun z o _ _ e => s1 _ _ e)⟩
end
/-! ### _law_is_kind -/
section
variable {P : Program} {w : World} {K : PySem.W.Frag} {mg : Str → Option Value} {base : Heap}
theorem fn_none {f : Addr} {fd : FuncData} {ps : List Str} {sp : Sp} (no : ∀ vs H Q E, ¬ sp vs H Q E) : FnOk P w K mg base CX0 0 f fd ps sp :=
  ⟨fun vs H Q E h => absurd h (no vs H Q E), fun A outer s H args us vs Q E _ _ _ _ h => absurd h (no vs H Q E)⟩
def spIsK (n : Nat) : Sp := fun vs H Q _ => ∃ (v : V) (d : D), vs = [v] ∧ Rep H v d ∧ dep d < n ∧ sz d ≤ 1000000 ∧ ∀ H', Same H H' → Q (.bl (isK d)) H'
theorem isKs_take {l : List D} {i : Nat} {d : D} (h : l[i]? = some d) : isKs (l.take (i + 1)) = (isKs (l.take i) && isK d) := by
  rw [List.take_add_one, h, isKs_append]
  show (isKs (l.take i) && (isK d && true)) = _
  rw [Bool.and_true]
theorem ok_isK {f : Addr} {fd : FuncData} (D__law_is_kind : Df K mg "_law_is_kind" s__law_is_kind ["value"] f fd) (B : Bt mg) : ∀ n : Nat, FnOk P w K mg base CX0 n f fd ["value"] (spIsK n)
  | 0 => fn_none fun vs H Q E h => by
    obtain ⟨v, d, _, _, h1, _⟩ := h
    omega
  | n + 1 => by
    have G__law_is_kind := ok_isK D__law_is_kind B n
    refine D__law_is_kind.ok c__law_is_kind (fun vs H Q E h => ?_) (fun cdv A outer s H vs Q E hr h => ?_)
    · obtain ⟨v, d, rfl, _⟩ := h
      rfl
    obtain ⟨v, d, rfl, rv, hdp, hsz, q⟩ := h
    have nd := c__law_is_kind.nd
    refine ⟨_, (pss_cons (ps_if (pt_not (pt_val (pe_callB call_isi (by rfl) B.b_isinstance (by decide +kernel) (pa_cons (pv 0) (pa_cons (pe_bltn (v := .ty "tuple") (by rfl) B.b_tuple (by decide +kernel) rfl) pa_nil))))) (pss_one (ps_ret pe_bl)) pss_nil)
  (pss_one (ps_ret (pe_cmpR (op_eqNil hr.units) (pe_lc (own := [("part", 1)]) (g := (gName 1)) (tt := _) rfl nd (pi_tup (pv 0)) (blkOk_by (own := [("part", 1)]) (N := ["value", "part"]) (sc := defScope s__law_is_kind) (by decide +kernel)) (fun _ _ _ _ _ => (pg_name (i := 1) nd rfl (Or.inl rfl))) (fun _ _ _ _ _ => (pts_one (pt_not (pt_val (pe_call G__law_is_kind hr (by rfl) D__law_is_kind.m D__law_is_kind.kp D__law_is_kind.b .nil pass0 (pa_cons (pv 1) pa_nil)))))) (fun _ _ _ _ _ => (pv 1))) (pe_lst pa_nil) (nomark _))))), ?_⟩
    refine ⟨v, rfl, _, _, _, _, _, rfl, .ty _, rep_ty rv, kit_ty (kit_tup _), ⟨_, rfl, ?_⟩⟩
    cases d with
    | lst => exact iteT (q H (Same.refl H))
    | «at» v => exact iteT (q H (Same.refl H))
    | tup ts =>
      refine iteF ?_
      obtain ⟨a, xs, rfl, hx, rx⟩ := rv.inv
      have lx := rx.length
      have lz := len_szs ts
      have hsz' : szs ts + 1 ≤ 1000000 := hsz
      have hdp' : deps ts < n + 1 := hdp
      refine ⟨_, rfl, a, rfl, ⟨_, SqT.of hx⟩, fun p np => ?_⟩
      refine lc_tup (K := K) (a := a) (xs := xs) (fun i H' => Same H H' ∧ ∃ acc, H' p = some (.lst acc) ∧ acc.isEmpty = isKs (ts.take i) ∧ acc.length ≤ i)
        ⟨same_new np _, [], upd_same, rfl, Nat.le_refl _⟩ (fun i H' _ h => SqT.of (h.1 _ _ hx)) ?_ ?_
      · rintro i x H1 hi ⟨s1, acc, hp, he, hl⟩
        have hil : i < xs.length := (List.getElem?_eq_some_iff.mp hi).1
        obtain ⟨d, hd, rd⟩ := rx.get hi
        have md : d ∈ ts := List.mem_of_getElem? hd
        have z1 := dep_mem md
        have z2 := sz_mem md
        refine ⟨rfl, _, rfl, x, d, rfl, rd.mono (kx_same s1), by omega, by omega, fun H2 s2 => ⟨_, rfl, ?_⟩⟩
        have ek := isKs_take hd
        cases hk : isK d with
        | true =>
          rw [hk, Bool.and_true] at ek
          exact iteF ⟨s1.trans s2, acc, s2 _ _ hp, by rw [ek]; exact he, by omega⟩
        | false =>
          rw [hk, Bool.and_false] at ek
          refine iteT ⟨_, rfl, acc, s2 _ _ hp, small6 (by omega), ?_, acc ++ [x], upd_same, ?_, by rw [List.length_append, List.length_singleton]; omega⟩
          · intro z o e
            rw [upd_ne (ne_of_none e np)]
            exact s2 _ _ (s1 _ _ e)
          · rw [ek]
            cases acc <;> rfl
      · rintro H1 ⟨s1, acc, hp, he, hl⟩
        refine ⟨Nat.zero_le _, fun r hr' => ?_⟩
        have s2 : Same H1 (upd H1 r (.lst [])) := same_new hr' _
        refine ⟨p, r, acc, rfl, rfl, SqL.of (s2 _ _ hp), SqL.of upd_same, ?_⟩
        rw [he, lx, List.take_length]
        exact q _ (s1.trans s2)
end
/-! ### _law_deep -/
def dl (l : List D) : List Int := l.map fun d => (1 : Int) + (dep d : Int)
theorem deps_att : ∀ l : List D, deps l = 0 ∨ ∃ d, d ∈ l ∧ deps l = dep d + 1
  | [] => .inl rfl
  | t :: r => by
    show max (dep t + 1) (deps r) = 0 ∨ ∃ d, d ∈ t :: r ∧ max (dep t + 1) (deps r) = dep d + 1
    by_cases h : deps r ≤ dep t + 1
    · exact .inr ⟨t, List.mem_cons_self .., by omega⟩
    · rcases deps_att r with e | ⟨d, hd, e⟩
      · omega
      · exact .inr ⟨d, List.mem_cons_of_mem _ hd, by omega⟩
theorem deps_max {l : List D} {m : Int} (h : m ∈ (0 : Int) :: dl l) (hm : ∀ y, y ∈ (0 : Int) :: dl l → y ≤ m) : m = (deps l : Int) := by
  have h0 : (0 : Int) ≤ m := hm 0 (List.mem_cons_self ..)
  have hge : (deps l : Int) ≤ m := by
    rcases deps_att l with e | ⟨d, hd, e⟩
    · omega
    · have := hm (1 + (dep d : Int)) (List.mem_cons_of_mem _ (List.mem_map.mpr ⟨d, hd, rfl⟩))
      omega
  rcases List.mem_cons.mp h with e | h
  · omega
  · obtain ⟨d, hd, e⟩ := List.mem_map.mp h
    have := dep_mem hd
    omega
section
variable {P : Program} {w : World} {K : PySem.W.Frag} {mg : Str → Option Value} {base : Heap}
def spLDeep (n : Nat) : Sp := fun vs H Q _ => ∃ (v : V) (d : D), vs = [v] ∧ Rep H v d ∧ isK d = true ∧ dep d < n ∧ sz d ≤ 1000000 ∧ ∀ H', Same H H' → Q (.int (dep d)) H'
theorem ok_ldeep {f : Addr} {fd : FuncData} (D__law_deep : Df K mg "_law_deep" s__law_deep ["kind"] f fd) (B : Bt mg) : ∀ n : Nat, FnOk P w K mg base CX0 n f fd ["kind"] (spLDeep n)
  | 0 => fn_none fun vs H Q E h => by
    obtain ⟨v, d, _, _, _, h1, _⟩ := h
    omega
  | n + 1 => by
    have G__law_deep := ok_ldeep D__law_deep B n
    refine D__law_deep.ok c__law_deep (fun vs H Q E h => ?_) (fun cdv A outer s H vs Q E hr h => ?_)
    · obtain ⟨v, d, rfl, _⟩ := h
      rfl
    obtain ⟨v, d, rfl, rv, hk, hdp, hsz, q⟩ := h
    obtain ⟨ts, rfl, hks⟩ := isK_inv hk
    obtain ⟨a, xs, rfl, hx, rx⟩ := rv.inv
    have lx := rx.length
    have lz := len_szs ts
    have hsz' : szs ts + 1 ≤ 1000000 := hsz
    have hdp' : deps ts < n + 1 := hdp
    have nd := c__law_deep.nd
    refine ⟨_, (pss_one (ps_ret (pe_callB (cr_max rfl) (by rfl) B.b_max (by decide +kernel) (pa_cons (pe_op op_cat (pe_lst (pa_cons pe_int pa_nil)) (pe_lc (own := [("part", 1)]) (g := (gName 1)) (tt := tYes) rfl nd (pi_tup (pv 0)) (blkOk_by (own := [("part", 1)]) (N := ["kind", "part"]) (sc := defScope s__law_deep) (by decide +kernel)) (fun _ _ _ _ _ => (pg_name (i := 1) nd rfl (Or.inl rfl))) (fun _ _ _ _ _ => pts_nil) (fun _ _ _ _ _ => (pe_op op_add pe_int (pe_call G__law_deep hr (by rfl) D__law_deep.m D__law_deep.kp D__law_deep.b .nil pass0 (pa_cons (pv 1) pa_nil)))))) pa_nil)))), ?_⟩
    refine ⟨(by show 1 ≤ sizeLine; decide), fun l nl => ?_⟩
    have s0 : Same H (upd H l (.lst [.int 0])) := same_new nl _
    refine ⟨_, rfl, a, rfl, ⟨_, SqT.of (s0 _ _ hx)⟩, fun p np => ?_⟩
    have npl : l ≠ p := ne_of_none upd_same np
    refine lc_tup (K := K) (a := a) (xs := xs) (fun i H' => Same (upd H l (.lst [.int 0])) H' ∧ H' p = some (.lst ((dl (ts.take i)).map V.int)))
      ⟨same_new np _, upd_same⟩ (fun i H' _ h => SqT.of (h.1 _ _ (s0 _ _ hx))) ?_ ?_
    · rintro i x H1 hi ⟨s1, hp⟩
      have hil : i < xs.length := (List.getElem?_eq_some_iff.mp hi).1
      obtain ⟨d, hd, rd⟩ := rx.get hi
      have md : d ∈ ts := List.mem_of_getElem? hd
      have z1 := dep_mem md
      have z2 := sz_mem md
      refine ⟨rfl, yes_go ⟨_, rfl, x, d, rfl, rd.mono (kx_same (s0.trans s1)), isK_mem hks md, by omega, by omega, fun H2 s2 => ⟨_, _, rfl, rfl, _, s2 _ _ hp, small6 ?_, ?_, ?_⟩⟩⟩
      · rw [List.length_map]
        unfold dl
        rw [List.length_map, List.length_take]
        omega
      · intro z o e
        rw [upd_ne (ne_of_none e np)]
        exact s2 _ _ (s1 _ _ e)
      · rw [upd_same]
        have e1 : dl (ts.take (i + 1)) = dl (ts.take i) ++ [1 + (dep d : Int)] := by
          unfold dl
          rw [List.take_add_one, hd, List.map_append]
          rfl
        rw [e1, List.map_append]
        rfl
    · rintro H1 ⟨s1, hp⟩
      rw [lx, List.take_length] at hp
      have hl1 : H1 l = some (.lst [.int 0]) := s1 _ _ upd_same
      refine ⟨l, p, _, _, rfl, rfl, hl1, hp, small6' ?_, fun r nr => ?_⟩
      · rw [List.length_map]
        unfold dl
        rw [List.length_map, List.length_singleton]
        omega
      · refine ⟨r, (0 : Int) :: dl ts, rfl, SqL.of ?_, Nat.succ_pos _, fun m hm hle => ?_⟩
        · rw [upd_same]
          rfl
        · rw [deps_max hm hle]
          exact q _ ((s0.trans s1).trans (same_new nr _))
end
/-! ### places -/
mutual
def pl : D → List (List Nat)
  | .tup ts => [] :: pls 0 ts
  | _ => []
def pls : Nat → List D → List (List Nat)
  | _, [] => []
  | k, t :: r => (pl t).map (fun p => k :: p) ++ pls (k + 1) r
end
def placeD (p : List Nat) : D := .tup (p.map fun k => .at (.int (k : Nat)))
theorem pls_append : ∀ (a b : List D) (k : Nat), pls k (a ++ b) = pls k a ++ pls (k + a.length) b
  | [], b, k => rfl
  | t :: r, b, k => by
    show (pl t).map (fun p => k :: p) ++ pls (k + 1) (r ++ b) = ((pl t).map (fun p => k :: p) ++ pls (k + 1) r) ++ pls (k + (r.length + 1)) b
    rw [pls_append r b (k + 1), List.append_assoc, show k + 1 + r.length = k + (r.length + 1) by omega]
theorem pls_take {l : List D} {i : Nat} {d : D} (h : l[i]? = some d) : pls 0 (l.take (i + 1)) = pls 0 (l.take i) ++ (pl d).map (fun p => i :: p) := by
  have hi := (List.getElem?_eq_some_iff.mp h).1
  rw [List.take_add_one, h, pls_append, List.length_take, Nat.min_eq_left (by omega), Nat.zero_add]
  show _ ++ ((pl d).map (fun p => i :: p) ++ []) = _
  rw [List.append_nil]
mutual
theorem pl_len : ∀ (d : D) (p : List Nat), p ∈ pl d → p.length ≤ dep d
  | .at _, p, h => by cases h
  | .lst, p, h => by cases h
  | .tup ts, p, h => by
    rcases List.mem_cons.mp h with e | h
    · rw [e]
      exact Nat.zero_le _
    · exact pls_len ts 0 p h
theorem pls_len : ∀ (l : List D) (k : Nat) (p : List Nat), p ∈ pls k l → p.length ≤ deps l
  | [], _, p, h => by cases h
  | t :: r, k, p, h => by
    show p.length ≤ max (dep t + 1) (deps r)
    rcases List.mem_append.mp h with h | h
    · obtain ⟨p', hp', e⟩ := List.mem_map.mp h
      have := pl_len t p' hp'
      rw [← e, List.length_cons]
      omega
    · have := pls_len r (k + 1) p h
      omega
end
mutual
theorem pl_count : ∀ d : D, isK d = true → (pl d).length = sz d
  | .at _, h => by cases h
  | .lst, h => by cases h
  | .tup ts, h => by
    show (pls 0 ts).length + 1 = szs ts + 1
    rw [pls_count ts 0 h]
theorem pls_count : ∀ (l : List D) (k : Nat), isKs l = true → (pls k l).length = szs l
  | [], _, _ => rfl
  | t :: r, k, h => by
    have k' := Bool.and_eq_true_iff.mp h
    show ((pl t).map (fun p => k :: p) ++ pls (k + 1) r).length = sz t + szs r
    rw [List.length_append, List.length_map, pl_count t k'.1, pls_count r (k + 1) k'.2]
end
theorem placeD_cons {H : Hp} {a : Addr} {ys : List V} {p : List Nat} {k : Nat} (r : Reps H ys (p.map fun k => .at (.int (k : Nat)))) (h : H a = some (.tup ([.int (k : Nat)] ++ ys))) : Rep H (.ref a) (placeD (k :: p)) :=
  .tup h (.cons (.at rfl) r)
section
variable {P : Program} {w : World} {K : PySem.W.Frag} {mg : Str → Option Value} {base : Heap}
def spLPl (n : Nat) : Sp := fun vs H Q _ => ∃ (v : V) (d : D), vs = [v] ∧ Rep H v d ∧ isK d = true ∧ dep d < n ∧ sz d ≤ 10000 ∧
  ∀ (r : Addr) (H' : Hp) (xs : List V), Same H H' → H' r = some (.lst xs) → Reps H' xs ((pl d).map placeD) → Q (.ref r) H'
theorem ok_lpl {f : Addr} {fd : FuncData} (D__law_places : Df K mg "_law_places" s__law_places ["kind"] f fd) (B : Bt mg) : ∀ n : Nat, FnOk P w K mg base CX0 n f fd ["kind"] (spLPl n)
  | 0 => fn_none fun vs H Q E h => by
    obtain ⟨v, d, _, _, _, h1, _⟩ := h
    omega
  | n + 1 => by
    have G__law_places := ok_lpl D__law_places B n
    refine D__law_places.ok c__law_places (fun vs H Q E h => ?_) (fun cdv A outer s H vs Q E hr h => ?_)
    · obtain ⟨v, d, rfl, _⟩ := h
      rfl
    obtain ⟨v, d, rfl, rv, hk, hdp, hsz, q⟩ := h
    obtain ⟨ts, rfl, hks⟩ := isK_inv hk
    obtain ⟨a, xs, rfl, hx, rx⟩ := rv.inv
    have lx := rx.length
    have lz := len_szs ts
    have hsz' : szs ts + 1 ≤ 10000 := hsz
    have hdp' : deps ts < n + 1 := hdp
    have nd := c__law_places.nd
    refine ⟨_, (pss_cons (ps_set (i := 1) nd rfl (Or.inl rfl) (pe_lst (pa_cons (pe_tup pa_nil) pa_nil)))
  (pss_cons (ps_for PassesOwn.never rfl (pi_range1 (by rfl) B.b_range (pa_cons (pe_callB call_len_seq (by rfl) B.b_len PySem.boot_len (pa_cons (pv 0) pa_nil)) pa_nil)) (pg_name (i := 2) nd rfl (Or.inr rfl)) (pss_one (ps_set (i := 1) nd rfl (Or.inl rfl) (pe_op op_cat (pv 1) (pe_lc (own := [("row", 3)]) (g := (gName 3)) (tt := tYes) rfl nd (pi_list (pe_call G__law_places hr (by rfl) D__law_places.m D__law_places.kp D__law_places.b .nil pass0 (pa_cons (pe_ix ix_tup (pv 0) (pv 2) (fun _ _ => rfl)) pa_nil))) (blkOk_by (own := [("row", 3)]) (N := ["kind", "rows", "k", "row"]) (sc := defScope s__law_places) (by decide +kernel)) (fun _ _ _ _ _ => (pg_name (i := 3) nd rfl (Or.inl rfl))) (fun _ _ _ _ _ => pts_nil) (fun _ _ _ _ _ => (pe_op (show OpR _ (binaryOp .Add) (rCatA K) from op_catA) (pe_tup (pa_cons (pv 2) pa_nil)) (pv 3))))))))
  (pss_one (ps_ret (pv 1))))), ?_⟩
    refine ⟨(by show 0 ≤ sizeLine; decide), fun e0 n0 => ⟨(by show 1 ≤ sizeLine; decide), fun r0 nr0 => ?_⟩⟩
    have s0 : Same H (upd (upd H e0 (.tup [])) r0 (.lst [.ref e0])) := (same_new n0 _).trans (same_new nr0 _)
    refine ⟨_, rfl, a, xs, rfl, .inr (SqT.of (s0 _ _ hx)), _, rfl, by omega, by omega, ?_⟩
    refine for_range (n := ((xs.length : Nat) : Int).toNat) (fun i σ H' => ∃ (r : Addr) (ys : List V) (y2 y3 : Option V), σ = [some (.ref a), some (.ref r), y2, y3] ∧ Same H H' ∧ H' r = some (.lst ys) ∧ Reps H' ys (([] :: pls 0 (ts.take i)).map placeD))
      ⟨r0, _, _, _, rfl, s0, upd_same, .cons (.tup (by rw [upd_ne (ne_of_none upd_same nr0)]; exact upd_same) .nil) .nil⟩ ?_ ?_
    · rintro i σ H1 hi ⟨r, ys, y2, y3, rfl, s1, hr1, rys⟩
      have hi' : i < xs.length := by omega
      have ix : xs[i]? = some xs[i] := List.getElem?_eq_getElem hi'
      obtain ⟨d, hd, rd⟩ := rx.get ix
      have md : d ∈ ts := List.mem_of_getElem? hd
      have z1 := dep_mem md
      have z2 := sz_mem md
      have ez : (0 : Int) + (i : Nat) = ((i : Nat) : Int) := by omega
      have ax : atI xs ((0 : Int) + (i : Nat)) = some xs[i] := by rw [ez]; exact atI_nat ix
      have hkd := isK_mem hks md
      have hcount := pl_count d hkd
      refine ⟨_, rfl, _, rfl, _, rfl, a, xs, _, _, rfl, rfl, SqT.of (s1 _ _ hx), ax, _, d, rfl, rd.mono (kx_same s1), hkd, by omega, by omega, fun r2 H2 zs s2 hr2 rzs => ?_⟩
      refine ⟨r2, rfl, ⟨_, SqL.of hr2⟩, fun p np => ?_⟩
      have lzs := rzs.length
      rw [List.length_map, hcount] at lzs
      have fin : ∀ (H3 : Hp) (acc : List V), Same H2 H3 → H3 p = some (.lst acc) → Reps H3 acc (((pl d).map (fun p => i :: p)).map placeD) → True := fun _ _ _ _ _ => trivial
      refine lc_list (K := K) (a := r2) (xs := zs) (fun j H' => Same H2 H' ∧ ∃ acc, H' p = some (.lst acc) ∧ Reps H' acc ((((pl d).take j).map (fun p => i :: p)).map placeD))
        ⟨same_new np _, [], upd_same, .nil⟩ (fun j H' _ h => SqL.of (h.1 _ _ hr2)) ?_ ?_
      · rintro j x H3 hj ⟨s3, acc, hp, racc⟩
        obtain ⟨pd, hpd, rp⟩ := rzs.get hj
        rw [List.getElem?_map] at hpd
        obtain ⟨pp, hpp, rfl⟩ := Option.map_eq_some_iff.mp hpd
        have mpp : pp ∈ pl d := List.mem_of_getElem? hpp
        have lpp := pl_len d pp mpp
        have ldz := dep_lt_sz d
        obtain ⟨b, bs, rfl, hb, rbs⟩ := (rp.mono (kx_same s3)).inv
        have lbs := rbs.length
        rw [List.length_map] at lbs
        have lacc := racc.length
        rw [List.length_map, List.length_map, List.length_take] at lacc
        have etake : ((((pl d).take (j + 1)).map (fun p => i :: p)).map placeD) = ((((pl d).take j).map (fun p => i :: p)).map placeD) ++ [placeD (i :: pp)] := by
          rw [List.take_add_one, hpp, List.map_append, List.map_append]
          rfl
        have npH : ∀ (o : Addr) (u : HO), H2 o = some u → o ≠ p := fun o u e => ne_of_none e np
        refine ⟨rfl, yes_go ⟨_, rfl, (by show 1 ≤ sizeLine; decide), fun t nt => ⟨_, rfl, t, b, _, bs, rfl, rfl, SqT.of upd_same, SqT.of (by rw [upd_ne (ne_of_none hb nt)]; exact hb), small6' (by show 1 + bs.length ≤ 1000000; omega), (fun z => by cases z), fun _ e => ?_, fun _ ne t2 nt2 => ?_⟩⟩⟩
        · subst e
          have e2 : pp = [] := by
            cases pp with
            | nil => rfl
            | cons _ _ => cases rbs
          subst e2
          have s4 : Same H3 (upd H3 t (.tup [.int ((0 : Int) + (i : Nat))])) := same_new nt _
          refine ⟨acc, s4 _ _ hp, small6 (by omega), fun o u e => ?_, acc ++ [.ref t], upd_same, ?_⟩
          · rw [upd_ne (npH _ _ e)]
            exact s4 _ _ (s3 _ _ e)
          · rw [etake]
            have k5 := kx_list (s4 _ _ hp) (acc ++ [.ref t])
            refine (racc.mono ((kx_same s4).trans k5)).append (.one ?_)
            refine placeD_cons (ys := []) .nil (k5.t _ _ ?_)
            rw [upd_same, ez]
            rfl
        · have s4 : Same H3 (upd H3 t (.tup [.int ((0 : Int) + (i : Nat))])) := same_new nt _
          have s5 := s4.trans (same_new nt2 (.tup ([.int ((0 : Int) + (i : Nat))] ++ bs)))
          refine ⟨acc, s5 _ _ hp, small6 (by omega), fun o u e => ?_, acc ++ [.ref t2], upd_same, ?_⟩
          · rw [upd_ne (npH _ _ e)]
            exact s5 _ _ (s3 _ _ e)
          · rw [etake]
            have k5 := kx_list (s5 _ _ hp) (acc ++ [.ref t2])
            refine (racc.mono ((kx_same s5).trans k5)).append (.one ?_)
            refine placeD_cons (rbs.mono ((kx_same s5).trans k5)) (k5.t _ _ ?_)
            rw [upd_same, ez]
      · rintro H3 ⟨s3, acc, hp, racc⟩
        rw [lzs, ← hcount, List.take_length] at racc
        have lacc := racc.length
        rw [List.length_map, List.length_map, hcount] at lacc
        have lys := rys.length
        have zt := pls_count (ts.take i) 0 (by
          have := isKs_append (ts.take i) (ts.drop i)
          rw [List.take_append_drop, hks] at this
          exact (Bool.and_eq_true_iff.mp this.symm).1)
        have zt2 := szs_append (ts.take i) (ts.drop i)
        rw [List.take_append_drop] at zt2
        rw [List.length_map, List.length_cons, zt] at lys
        refine ⟨r, p, ys, acc, rfl, rfl, s3 _ _ (s2 _ _ hr1), hp, small6' (by omega), fun r4 nr4 => ?_⟩
        have s4 : Same H3 (upd H3 r4 (.lst (ys ++ acc))) := same_new nr4 _
        refine ⟨r4, ys ++ acc, _, _, rfl, ((s1.trans s2).trans s3).trans s4, upd_same, ?_⟩
        have e3 : (([] :: pls 0 (ts.take (i + 1))).map placeD) = (([] :: pls 0 (ts.take i)).map placeD) ++ ((pl d).map (fun p => i :: p)).map placeD := by
          rw [pls_take hd, ← List.map_append]
          rfl
        rw [e3]
        exact (rys.mono (kx_same ((s2.trans s3).trans s4))).append (racc.mono (kx_same s4))
    · rintro σ H1 ⟨r, ys, y2, y3, rfl, s1, hr1, rys⟩
      have e1 : ts.take ((xs.length : Nat) : Int).toNat = ts := List.take_of_length_le (by omega)
      rw [e1] at rys
      exact ⟨_, rfl, q r H1 ys s1 hr1 rys⟩
end
end Pk

set_option maxRecDepth 100000
set_option maxHeartbeats 4000000
namespace Pk
open PySem PySem.Spec PyProof.Rows L2
/-! ### the kind at a place -/
def atD : D → List Nat → Option D
  | d, [] => some d
  | .tup ts, k :: p => match ts[k]? with
    | some t => atD t p
    | none => none
  | _, _ :: _ => none
theorem atD_none {ts : List D} {k : Nat} {p : List Nat} (h : ts[k]? = none) : atD (.tup ts) (k :: p) = none := by
  unfold atD
  rw [h]
theorem atD_some {ts : List D} {k : Nat} {p : List Nat} {t : D} (h : ts[k]? = some t) : atD (.tup ts) (k :: p) = atD t p := by
  conv => lhs; unfold atD
  rw [h]
def AtIs (H : Hp) (d : D) (p : List Nat) (w : V) : Prop := match atD d p with
  | some e => Rep H w e ∧ isK e = true
  | none => w = .non
section
variable {P : Program} {w : World} {K : PySem.W.Frag} {mg : Str → Option Value} {base : Heap}
def spAt : Sp := fun vs H Q _ => ∃ (v x : V) (d : D) (p : List Nat), vs = [v, x] ∧ Rep H v d ∧ isK d = true ∧ Rep H x (placeD p) ∧ ∀ z, AtIs H d p z → Q z H
theorem ok_at {f : Addr} {fd : FuncData} (D__law_at : Df K mg "_law_at" s__law_at ["kind", "place"] f fd) (B : Bt mg) : FnOk P w K mg base CX0 1 f fd ["kind", "place"] spAt := by
  refine D__law_at.ok c__law_at (fun vs H Q E h => ?_) (fun cdv A outer s H vs Q E hr h => ?_)
  · obtain ⟨v, x, d, p, rfl, _⟩ := h
    rfl
  obtain ⟨v, x, d, p, rfl, rv, hk, rx, q⟩ := h
  have nd := c__law_at.nd
  refine ⟨_, (pss_cons (ps_for PassesOwn.never rfl (pi_tup (pv 1)) (pg_name (i := 2) nd rfl (Or.inl rfl)) (pss_cons (ps_if (pt_cmpR op_ge (pv 2) (pe_callB call_len_seq (by rfl) B.b_len PySem.boot_len (pa_cons (pv 0) pa_nil)) (nomark _)) (pss_one (ps_ret pe_non)) pss_nil)
  (pss_one (ps_set (i := 0) nd rfl (Or.inl rfl) (pe_ix ix_tup (pv 0) (pv 2) (fun _ _ => rfl))))))
  (pss_one (ps_ret (pv 0)))), ?_⟩
  obtain ⟨a, xs, rfl, hx, rxs⟩ := rx.inv
  have lx := rxs.length
  rw [List.length_map] at lx
  refine ⟨_, rfl, a, rfl, ⟨_, SqT.of hx⟩, for_tup (K := K) (a := a) (xs := xs) (fun i σ H' => H' = H ∧ ∃ (v' : V) (d' : D) (y2 : Option V), σ = [some v', some (.ref a), y2] ∧ Rep H v' d' ∧ isK d' = true ∧ atD d p = atD d' (p.drop i))
    ⟨rfl, v, d, none, rfl, rv, hk, rfl⟩ (fun i σ H' _ h => by rw [h.1]; exact SqT.of hx) ?_ ?_⟩
  · rintro i x σ H' hi ⟨rfl, v', d', y2, rfl, rv', hk', e⟩
    have hil : i < xs.length := (List.getElem?_eq_some_iff.mp hi).1
    obtain ⟨dk, hdk, rk⟩ := rxs.get hi
    rw [List.getElem?_map] at hdk
    obtain ⟨k, hpk, rfl⟩ := Option.map_eq_some_iff.mp hdk
    obtain ⟨rfl, _⟩ := rk.inva
    have ed : p.drop i = k :: p.drop (i + 1) := by
      rw [List.drop_eq_getElem_cons (by omega)]
      rw [List.getElem?_eq_getElem (by omega)] at hpk
      rw [Option.some.inj hpk]
    obtain ⟨ts, rfl, hks⟩ := isK_inv hk'
    obtain ⟨b, ys, rfl, hy, ry⟩ := rv'.inv
    have ly := ry.length
    rw [ed] at e
    refine ⟨_, rfl, _, rfl, b, ys, rfl, .inr (SqT.of hy), _, _, rfl, rfl, _, rfl, ite2 (fun c => ?_) (fun c => ?_)⟩
    · have c' : ((ys.length : Nat) : Int) ≤ (k : Int) := of_decide_eq_true c
      refine q _ ?_
      have en : ts[k]? = none := List.getElem?_eq_none_iff.mpr (by omega)
      unfold AtIs
      rw [e, atD_none en]
    · have c' : ¬ ((ys.length : Nat) : Int) ≤ (k : Int) := of_decide_eq_false (Bool.eq_false_iff.mpr c)
      have hk2 : k < ys.length := by omega
      obtain ⟨d2, hd2, rd2⟩ := ry.get (List.getElem?_eq_getElem hk2)
      refine ⟨_, rfl, _, rfl, b, ys, _, _, rfl, rfl, SqT.of hy, atI_nat (List.getElem?_eq_getElem hk2), rfl, _, d2, _, rfl, rd2, isK_mem hks (List.mem_of_getElem? hd2), ?_⟩
      rw [e, atD_some hd2]
  · rintro σ H' ⟨rfl, v', d', y2, rfl, rv', hk', e⟩
    refine ⟨_, rfl, q _ ?_⟩
    rw [lx, List.drop_length] at e
    unfold AtIs
    rw [e]
    have e0 : atD d' [] = some d' := by
      cases d' <;> rfl
    rw [e0]
    exact ⟨rv', hk'⟩
theorem ok_kat {f : Addr} {fd : FuncData} (D_kind_at : Df K mg "kind_at" s_kind_at ["kind", "place"] f fd) (B : Bt mg) : FnOk P w K mg base CX0 1 f fd ["kind", "place"] spAt := by
  refine D_kind_at.ok c_kind_at (fun vs H Q E h => ?_) (fun cdv A outer s H vs Q E hr h => ?_)
  · obtain ⟨v, x, d, p, rfl, _⟩ := h
    rfl
  obtain ⟨v, x, d, p, rfl, rv, hk, rx, q⟩ := h
  have nd := c_kind_at.nd
  refine ⟨_, (pss_cons (ps_for PassesOwn.never rfl (pi_tup (pv 1)) (pg_name (i := 2) nd rfl (Or.inl rfl)) (pss_cons (ps_if (pt_not (pt_chain op_le op_lt pe_int (pv 2) (pe_callB call_len_seq (by rfl) B.b_len PySem.boot_len (pa_cons (pv 0) pa_nil)))) (pss_one (ps_ret pe_non)) pss_nil)
  (pss_one (ps_set (i := 0) nd rfl (Or.inl rfl) (pe_ix ix_tup (pv 0) (pv 2) (fun _ _ => rfl))))))
  (pss_one (ps_ret (pv 0)))), ?_⟩
  obtain ⟨a, xs, rfl, hx, rxs⟩ := rx.inv
  have lx := rxs.length
  rw [List.length_map] at lx
  refine ⟨_, rfl, a, rfl, ⟨_, SqT.of hx⟩, for_tup (K := K) (a := a) (xs := xs) (fun i σ H' => H' = H ∧ ∃ (v' : V) (d' : D) (y2 : Option V), σ = [some v', some (.ref a), y2] ∧ Rep H v' d' ∧ isK d' = true ∧ atD d p = atD d' (p.drop i))
    ⟨rfl, v, d, none, rfl, rv, hk, rfl⟩ (fun i σ H' _ h => by rw [h.1]; exact SqT.of hx) ?_ ?_⟩
  · rintro i x σ H' hi ⟨rfl, v', d', y2, rfl, rv', hk', e⟩
    have hil : i < xs.length := (List.getElem?_eq_some_iff.mp hi).1
    obtain ⟨dk, hdk, rk⟩ := rxs.get hi
    rw [List.getElem?_map] at hdk
    obtain ⟨k, hpk, rfl⟩ := Option.map_eq_some_iff.mp hdk
    obtain ⟨rfl, _⟩ := rk.inva
    have ed : p.drop i = k :: p.drop (i + 1) := by
      rw [List.drop_eq_getElem_cons (by omega)]
      rw [List.getElem?_eq_getElem (by omega)] at hpk
      rw [Option.some.inj hpk]
    obtain ⟨ts, rfl, hks⟩ := isK_inv hk'
    obtain ⟨b, ys, rfl, hy, ry⟩ := rv'.inv
    have ly := ry.length
    rw [ed] at e
    refine ⟨_, rfl, _, _, rfl, rfl, _, rfl, ?_⟩
    rw [show decide ((0 : Int) ≤ (k : Nat)) = true from decide_eq_true (by omega)]
    refine iteT ⟨_, rfl, b, ys, rfl, .inr (SqT.of hy), _, _, rfl, rfl, _, rfl, ?_⟩
    by_cases c' : k < ys.length
    · rw [show decide (((k : Nat) : Int) < ((ys.length : Nat) : Int)) = true from decide_eq_true (by omega)]
      refine iteF ?_
      obtain ⟨d2, hd2, rd2⟩ := ry.get (List.getElem?_eq_getElem c')
      refine ⟨_, rfl, _, rfl, b, ys, _, _, rfl, rfl, SqT.of hy, atI_nat (List.getElem?_eq_getElem c'), rfl, _, d2, _, rfl, rd2, isK_mem hks (List.mem_of_getElem? hd2), ?_⟩
      rw [e, atD_some hd2]
    · rw [show decide (((k : Nat) : Int) < ((ys.length : Nat) : Int)) = false from decide_eq_false (by omega)]
      refine iteT (q _ ?_)
      have en : ts[k]? = none := List.getElem?_eq_none_iff.mpr (by omega)
      unfold AtIs
      rw [e, atD_none en]
  · rintro σ H' ⟨rfl, v', d', y2, rfl, rv', hk', e⟩
    refine ⟨_, rfl, q _ ?_⟩
    rw [lx, List.drop_length] at e
    unfold AtIs
    rw [e]
    have e0 : atD d' [] = some d' := by
      cases d' <;> rfl
    rw [e0]
    exact ⟨rv', hk'⟩
end
/-! ### is_kind -/
section
variable {P : Program} {w : World} {K : PySem.W.Frag} {mg : Str → Option Value} {base : Heap}
def spIK : Sp := fun vs H Q _ => ∃ (v : V) (d : D), vs = [v] ∧ Rep H v d ∧ sz d ≤ 1000000 ∧ ∀ H', Same H H' → Q (.bl (isK d)) H'
theorem ok_ik {f : Addr} {fd : FuncData} (D_is_kind : Df K mg "is_kind" s_is_kind ["value"] f fd) (B : Bt mg) : FnOk P w K mg base CX0 1 f fd ["value"] spIK := by
  refine D_is_kind.ok c_is_kind (fun vs H Q E h => ?_) (fun cdv A outer s H vs Q E hr h => ?_)
  · obtain ⟨v, d, rfl, _⟩ := h
    rfl
  obtain ⟨v, d, rfl, rv, hsz, q⟩ := h
  have nd := c_is_kind.nd
  refine ⟨_, (pss_cons (ps_set (i := 1) nd rfl (Or.inl rfl) (pe_lst (pa_cons (pv 0) pa_nil)))
  (pss_cons (ps_while PassesOwn.never (pt_truth (pv 1) (by intro _; rfl)) (pss_cons (ps_set (i := 2) nd rfl (Or.inl rfl) (pe_bm0 PySem.F.plainAttrs_list PySem.F.slot_list_pop PySem.F.type_list_pop mt_pop (pv 1)))
  (pss_cons (ps_if (pt_not (pt_val (pe_callB call_isi (by rfl) B.b_isinstance (by decide +kernel) (pa_cons (pv 2) (pa_cons (pe_bltn (v := .ty "tuple") (by rfl) B.b_tuple (by decide +kernel) rfl) pa_nil))))) (pss_one (ps_ret pe_bl)) pss_nil)
  (pss_one (ps_expr (pe_bm PySem.F.plainAttrs_list PySem.F.slot_list_extend PySem.F.type_list_extend mt_extendT (pv 1) (pa_cons (pv 2) pa_nil)))))))
  (pss_one (ps_ret pe_bl)))), ?_⟩
  refine ⟨_, rfl, (by show 1 ≤ sizeLine; decide), fun p np => ?_⟩
  obtain ⟨W, hW⟩ : ∃ W : Nat → L2.St → Hp → Prop, ∀ m σ H', W m σ H' ↔ (∃ (xs : List V) (ds : List D) (y2 : Option V), σ = [some v, some (.ref p), y2] ∧ Nw p H H' xs ∧ Reps H' xs ds ∧ isKs ds = isK d ∧ m = szs ds ∧ szs ds ≤ 1000000) := ⟨_, fun _ _ _ => Iff.rfl⟩
  refine ⟨W, ⟨szs [d], (hW _ _ _).mpr ⟨[v], [d], none, rfl, Nw.new np _, .one (rv.mono (kx_new np _)), by show (isK d && true) = isK d; exact Bool.and_true _, rfl, by show sz d + 0 ≤ 1000000; omega⟩⟩, ?_⟩
  intro m σ H1 hw
  obtain ⟨xs, ds, y2, rfl, hn, rx, hk, rfl, hs⟩ := (hW _ _ _).mp hw
  refine ⟨_, rfl, _, .inl ⟨xs, SqL.of hn.h, rfl⟩, ?_⟩
  cases xs with
  | nil =>
    cases rx
    refine iteF ?_
    rw [show isK d = true from hk.symm] at q
    exact q H1 hn.s
  | cons x0 r0 =>
    refine iteT ⟨fun σ' H' => ∃ m', m' < szs ds ∧ W m' σ' H', fun _ _ h => h, ?_⟩
    obtain ⟨y, e, es, hlast, rfl, re, res⟩ := rx.last (fun z => by cases z)
    rw [szs_append] at hs
    have hs' : szs es + (sz e + 0) ≤ 1000000 := hs
    refine ⟨_, rfl, .inl ⟨rfl, _, SqL.of hn.h⟩, p, _, y, rfl, rfl, hn.h, hlast, ?_⟩
    have hn2 := hn.put (x0 :: r0).dropLast
    have k2 : Kx H1 (upd H1 p (.lst (x0 :: r0).dropLast)) := kx_list hn.h _
    have re2 := re.mono k2
    have res2 := res.mono k2
    rw [isKs_append] at hk
    refine ⟨y, rfl, _, _, _, _, _, rfl, .ty _, rep_ty re2, kit_ty (kit_tup _), ⟨_, rfl, ?_⟩⟩
    have bad : isK e = false → Q (.bl false) (upd H1 p (.lst (x0 :: r0).dropLast)) := fun z => by
      have z2 : isK d = false := by
        rw [← hk]
        show (isKs es && (isK e && true)) = false
        rw [z, Bool.false_and, Bool.and_false]
      rw [z2] at q
      exact q _ hn2.s
    cases e with
    | lst => exact iteT (bad rfl)
    | «at» _ => exact iteT (bad rfl)
    | tup ts =>
      refine iteF ?_
      obtain ⟨b, ys, rfl, hy, ry⟩ := re2.inv
      have l1 := ry.length
      have l2 := res2.length
      have l3 := len_szs ts
      have l4 := len_szs es
      have l5 : sz (.tup ts) = szs ts + 1 := rfl
      refine ⟨_, rfl, .inl ⟨rfl, _, SqL.of hn2.h⟩, _, rfl, p, b, _, ys, rfl, rfl, hn2.h, SqT.of hy, small6' (by omega), ?_⟩
      have hn3 := hn2.put ((x0 :: r0).dropLast ++ ys)
      have k3 : Kx (upd H1 p (.lst (x0 :: r0).dropLast)) (upd (upd H1 p (.lst (x0 :: r0).dropLast)) p (.lst ((x0 :: r0).dropLast ++ ys))) := kx_list hn2.h _
      refine ⟨szs (es ++ ts), ?_, (hW _ _ _).mpr ⟨_, es ++ ts, _, rfl, hn3, (res2.mono k3).append (ry.mono k3), ?_, rfl, ?_⟩⟩
      · rw [szs_append, szs_append]
        show szs es + szs ts < szs es + (szs ts + 1 + 0)
        omega
      · rw [← hk, isKs_append]
        show (isKs es && isKs ts) = (isKs es && (isKs ts && true))
        rw [Bool.and_true]
      · rw [szs_append]
        omega
/-! ### depth -/
def mx : List (D × Nat) → Nat
  | [] => 0
  | x :: r => max (x.2 + dep x.1) (mx r)
theorem mx_append : ∀ a b : List (D × Nat), mx (a ++ b) = max (mx a) (mx b)
  | [], b => by simp [mx]
  | x :: r, b => by
    show max (x.2 + dep x.1) (mx (r ++ b)) = max (max (x.2 + dep x.1) (mx r)) (mx b)
    rw [mx_append r b]
    omega
theorem mx_kids (lv : Nat) : ∀ ts : List D, max lv (mx (ts.map fun d => (d, lv + 1))) = lv + deps ts
  | [] => by
    show max lv 0 = lv + 0
    omega
  | t :: r => by
    have := mx_kids lv r
    show max lv (max (lv + 1 + dep t) (mx (r.map fun d => (d, lv + 1)))) = lv + max (dep t + 1) (deps r)
    omega
def pairL (x : D × Nat) : D := .tup [x.1, .at (.int (x.2 : Nat))]
def szl (l : List (D × Nat)) : Nat := szs (l.map (·.1))
theorem szl_append (a b : List (D × Nat)) : szl (a ++ b) = szl a + szl b := by
  unfold szl
  rw [List.map_append, szs_append]
theorem szl_kids (lv : Nat) (ts : List D) : szl (ts.map fun d => (d, lv)) = szs ts := by
  unfold szl
  rw [List.map_map]
  congr 1
  exact List.map_id _
theorem len_szl (l : List (D × Nat)) : l.length ≤ szl l := by
  have := len_szs (l.map (·.1))
  rw [List.length_map] at this
  exact this
def spDepth : Sp := fun vs H Q _ => ∃ (v : V) (d : D), vs = [v] ∧ Rep H v d ∧ isK d = true ∧ sz d ≤ 1000000 ∧ ∀ H', Same H H' → Q (.int (dep d)) H'
theorem ok_depth {f : Addr} {fd : FuncData} (D_depth : Df K mg "depth" s_depth ["kind"] f fd) (B : Bt mg) : FnOk P w K mg base CX0 1 f fd ["kind"] spDepth := by
  refine D_depth.ok c_depth (fun vs H Q E h => ?_) (fun cdv A outer s H vs Q E hr h => ?_)
  · obtain ⟨v, d, rfl, _⟩ := h
    rfl
  obtain ⟨v, d, rfl, rv, hk, hsz, q⟩ := h
  have nd := c_depth.nd
  refine ⟨_, (pss_cons (ps_set (i := 1) nd rfl (Or.inl rfl) pe_int)
  (pss_cons (ps_set (i := 2) nd rfl (Or.inl rfl) (pe_lst (pa_cons (pe_tup (pa_cons (pv 0) (pa_cons pe_int pa_nil))) pa_nil)))
  (pss_cons (ps_while PassesOwn.never (pt_truth (pv 2) (by intro _; rfl)) (pss_cons (ps_asg (pe_bm0 PySem.F.plainAttrs_list PySem.F.slot_list_pop PySem.F.type_list_pop mt_pop (pv 2)) (pg_tup rfl (pgs_cons (pg_name (i := 3) nd rfl (Or.inl rfl)) (pgs_cons (pg_name (i := 4) nd rfl (Or.inr rfl)) pgs_nil))))
  (pss_cons (ps_set (i := 1) nd rfl (Or.inl rfl) (pe_callB (call_max2 rfl) (by rfl) B.b_max (by decide +kernel) (pa_cons (pv 1) (pa_cons (pv 4) pa_nil))))
  (pss_one (ps_expr (pe_bm PySem.F.plainAttrs_list PySem.F.slot_list_extend PySem.F.type_list_extend mt_extend (pv 2) (pa_cons (pe_lc (own := [("argument", 5)]) (g := (gName 5)) (tt := tYes) rfl nd (pi_tup (pv 3)) (blkOk_by (own := [("argument", 5)]) (N := ["kind", "deepest", "pending", "part", "level", "argument"]) (sc := defScope s_depth) (by decide +kernel)) (fun _ _ _ _ _ => (pg_name (i := 5) nd rfl (Or.inl rfl))) (fun _ _ _ _ _ => pts_nil) (fun _ _ _ _ _ => (pe_tup (pa_cons (pv 5) (pa_cons (pe_op op_add (pv 4) pe_int) pa_nil))))) pa_nil)))))))
  (pss_one (ps_ret (pv 1)))))), ?_⟩
  refine ⟨_, rfl, (by show 2 ≤ sizeLine; decide), fun t0 nt0 => ⟨(by show 1 ≤ sizeLine; decide), fun p np => ?_⟩⟩
  have s0 : Same H (upd H t0 (.tup [v, .int 0])) := same_new nt0 _
  have s1 := s0.trans (same_new np (.lst [.ref t0]))
  have npH : H p = none := s0.free np
  obtain ⟨W, hW⟩ : ∃ W : Nat → L2.St → Hp → Prop, ∀ m σ H', W m σ H' ↔ (∃ (xs : List V) (ds : List (D × Nat)) (mm : Nat) (y3 y4 y5 : Option V), σ = [some v, some (.int (mm : Nat)), some (.ref p), y3, y4, y5] ∧ Nw p H H' xs ∧ Reps H' xs (ds.map pairL) ∧ max mm (mx ds) = dep d ∧ (∀ x ∈ ds, isK x.1 = true) ∧ m = szl ds ∧ szl ds ≤ 1000000) := ⟨_, fun _ _ _ => Iff.rfl⟩
  refine ⟨W, ⟨szl [(d, 0)], (hW _ _ _).mpr ⟨[.ref t0], [(d, 0)], 0, none, none, none, rfl, ⟨s1, npH, upd_same⟩, .one (.tup (by rw [upd_ne (ne_of_none upd_same np)]; exact upd_same) (.cons (rv.mono (kx_same s1)) (.cons (.at rfl) .nil))), ?_, ?_, rfl, by show sz d + 0 ≤ 1000000; omega⟩⟩, ?_⟩
  · show max 0 (max (0 + dep d) 0) = dep d
    omega
  · intro x hx
    rw [List.mem_singleton.mp hx]
    exact hk
  intro m σ H1 hw
  obtain ⟨xs, ds, mm, y3, y4, y5, rfl, hn, rx, hmx, hks, rfl, hs⟩ := (hW _ _ _).mp hw
  refine ⟨_, rfl, _, .inl ⟨xs, SqL.of hn.h, rfl⟩, ?_⟩
  cases xs with
  | nil =>
    have e0 : ds = [] := by
      have := rx.length
      rw [List.length_map] at this
      exact List.eq_nil_of_length_eq_zero this.symm
    subst e0
    refine iteF ?_
    have e1 : mm = dep d := by
      have : max mm 0 = dep d := hmx
      omega
    refine ⟨_, rfl, ?_⟩
    rw [e1]
    exact q H1 hn.s
  | cons x0 r0 =>
    refine iteT ⟨fun σ' H' => ∃ m', m' < szl ds ∧ W m' σ' H', fun _ _ h => h, ?_⟩
    obtain ⟨y, e, es, hlast, hde, re, res⟩ := rx.last (fun z => by cases z)
    obtain ⟨ds', x, rfl⟩ : ∃ ds' x, ds = ds' ++ [x] := by
      refine ⟨ds.dropLast, ds.getLast (fun z => by rw [z] at hde; simp at hde), (List.dropLast_concat_getLast _).symm⟩
    rw [List.map_append] at hde
    obtain ⟨rfl, he⟩ : ds'.map pairL = es ∧ pairL x = e := by
      have := List.append_inj' hde rfl
      exact ⟨this.1, (List.cons.inj this.2).1⟩
    subst he
    have hkx := hks x (List.mem_append_right _ (List.mem_singleton.mpr rfl))
    rw [szl_append] at hs
    rw [mx_append] at hmx
    obtain ⟨xd, lv⟩ := x
    obtain ⟨ts, rfl, hkts⟩ := isK_inv hkx
    have hs' : szl ds' + (szs ts + 1 + 0) ≤ 1000000 := hs
    have hmx' : max mm (max (mx ds') (max (lv + deps ts) 0)) = dep d := hmx
    refine ⟨_, rfl, .inl ⟨rfl, _, SqL.of hn.h⟩, p, _, y, rfl, rfl, hn.h, hlast, ?_⟩
    have hn2 := hn.put (x0 :: r0).dropLast
    have k2 : Kx H1 (upd H1 p (.lst (x0 :: r0).dropLast)) := kx_list hn.h _
    obtain ⟨b, bs, rfl, hb, rb⟩ := (re.mono k2).inv
    have res2 := res.mono k2
    cases rb with
    | cons r1 rb =>
      cases rb with
      | cons r2 rb =>
        cases rb
        obtain ⟨rfl, _⟩ := r2.inva
        refine ⟨b, _, rfl, SqT.of hb, rfl, _, _, rfl, _, _, rfl, rfl, ?_⟩
        refine ⟨_, rfl, _, rfl, mm, lv, rfl, ?_⟩
        obtain ⟨c, cs, rfl, hc, rc⟩ := r1.inv
        have lc := rc.length
        have lts := len_szs ts
        refine ⟨_, rfl, .inl ⟨rfl, _, SqL.of hn2.h⟩, _, rfl, c, rfl, ⟨_, SqT.of hc⟩, fun l nl => ?_⟩
        refine lc_tup (K := K) (a := c) (xs := cs) (fun i H' => Same (upd H1 p (.lst (x0 :: r0).dropLast)) H' ∧ ∃ acc, H' l = some (.lst acc) ∧ Reps H' acc (((ts.take i).map fun d => (d, lv + 1)).map pairL))
          ⟨same_new nl _, [], upd_same, .nil⟩ (fun i H' _ h => SqT.of (h.1 _ _ hc)) ?_ ?_
        · rintro i x H3 hi ⟨s3, acc, hl3, racc⟩
          obtain ⟨dd, hdd, rdd⟩ := rc.get hi
          have lacc := racc.length
          rw [List.length_map, List.length_map, List.length_take] at lacc
          refine ⟨rfl, yes_go ⟨_, rfl, _, rfl, _, _, rfl, rfl, (by show 2 ≤ sizeLine; decide), fun t nt => ?_⟩⟩
          have s4 : Same H3 (upd H3 t (.tup [x, .int ((lv : Int) + 1)])) := same_new nt _
          refine ⟨acc, s4 _ _ hl3, small6 (by omega), fun o u e => ?_, acc ++ [.ref t], upd_same, ?_⟩
          · rw [upd_ne (ne_of_none e nl)]
            exact s4 _ _ (s3 _ _ e)
          · have e3 : (((ts.take (i + 1)).map fun d => (d, lv + 1)).map pairL) = (((ts.take i).map fun d => (d, lv + 1)).map pairL) ++ [pairL (dd, lv + 1)] := by
              rw [List.take_add_one, hdd, List.map_append, List.map_append]
              rfl
            rw [e3]
            have k5 := (kx_same s4).trans (kx_list (s4 _ _ hl3) (acc ++ [.ref t]))
            refine (racc.mono k5).append (.one (.tup (xs := [x, .int ((lv : Int) + 1)]) ?_ (.cons ((rdd.mono (kx_same s3)).mono k5) (.cons ?_ .nil))))
            · exact (kx_list (s4 _ _ hl3) (acc ++ [.ref t])).t _ _ upd_same
            · exact .at rfl
        · rintro H3 ⟨s3, acc, hl3, racc⟩
          rw [lc, List.take_length] at racc
          have lacc := racc.length
          rw [List.length_map, List.length_map] at lacc
          have hp3 := s3 _ _ hn2.h
          have l2 := res2.length
          rw [List.length_map] at l2
          have l3 := len_szl ds'
          refine ⟨p, l, _, acc, rfl, rfl, hp3, hl3, small6' (by omega), ?_⟩
          have hn3 := (hn2.step s3).put ((x0 :: r0).dropLast ++ acc)
          have k4 : Kx H3 (upd H3 p (.lst ((x0 :: r0).dropLast ++ acc))) := kx_list hp3 _
          have em : ((if ((lv : Nat) : Int) > ((mm : Nat) : Int) then ((lv : Nat) : Int) else ((mm : Nat) : Int))) = ((max mm lv : Nat) : Int) := by
            split <;> omega
          refine ⟨szl (ds' ++ ts.map fun d => (d, lv + 1)), ?_, (hW _ _ _).mpr ⟨_, ds' ++ ts.map (fun d => (d, lv + 1)), max mm lv, some (.ref c), some (.int (lv : Nat)), y5, ?_, hn3, ?_, ?_, ?_, rfl, ?_⟩⟩
          · rw [szl_append, szl_append, szl_kids]
            show szl ds' + szs ts < szl ds' + (szs ts + 1 + 0)
            omega
          · rw [← em]
            rfl
          · rw [List.map_append]
            exact ((res2.mono (kx_same s3)).mono k4).append (racc.mono k4)
          · rw [mx_append]
            have := mx_kids lv ts
            omega
          · intro x hx
            rcases List.mem_append.mp hx with hx | hx
            · exact hks x (List.mem_append_left _ hx)
            · obtain ⟨d2, hd2, rfl⟩ := List.mem_map.mp hx
              exact isK_mem hkts hd2
          · rw [szl_append, szl_kids]
            omega
end
end Pk

set_option maxRecDepth 100000
set_option maxHeartbeats 4000000
namespace Pk
open PySem PySem.Spec PyProof.Rows L2
/-! ### places -/
def pairD (x : List Nat × D) : D := .tup [placeD x.1, x.2]
def gl : List (List Nat × D) → List (List Nat)
  | [] => []
  | x :: r => (pl x.2).map (fun q => x.1 ++ q) ++ gl r
theorem gl_append : ∀ a b : List (List Nat × D), gl (a ++ b) = gl a ++ gl b
  | [], b => rfl
  | x :: r, b => by
    show (pl x.2).map (fun q => x.1 ++ q) ++ gl (r ++ b) = ((pl x.2).map (fun q => x.1 ++ q) ++ gl r) ++ gl b
    rw [gl_append r b, List.append_assoc]
def inn (p : List Nat) : Nat → List D → List (List Nat × D)
  | _, [] => []
  | k, t :: r => (p ++ [k], t) :: inn p (k + 1) r
theorem inn_append (p : List Nat) : ∀ (a b : List D) (k : Nat), inn p k (a ++ b) = inn p k a ++ inn p (k + a.length) b
  | [], b, k => rfl
  | t :: r, b, k => by
    show (p ++ [k], t) :: inn p (k + 1) (r ++ b) = (p ++ [k], t) :: (inn p (k + 1) r ++ inn p (k + (r.length + 1)) b)
    rw [inn_append p r b (k + 1), show k + 1 + r.length = k + (r.length + 1) by omega]
theorem inn_take (p : List Nat) {l : List D} {i : Nat} {d : D} (h : l[i]? = some d) : inn p 0 (l.take (i + 1)) = inn p 0 (l.take i) ++ [(p ++ [i], d)] := by
  have hi := (List.getElem?_eq_some_iff.mp h).1
  rw [List.take_add_one, h, inn_append, List.length_take, Nat.min_eq_left (by omega), Nat.zero_add]
  rfl
theorem gl_inn (p : List Nat) : ∀ (l : List D) (k : Nat), gl (inn p k l) = (pls k l).map (fun q => p ++ q)
  | [], _ => rfl
  | t :: r, k => by
    show (pl t).map (fun q => (p ++ [k]) ++ q) ++ gl (inn p (k + 1) r) = ((pl t).map (fun q => k :: q) ++ pls (k + 1) r).map (fun q => p ++ q)
    rw [gl_inn p r (k + 1), List.map_append, List.map_map]
    congr 1
    apply List.map_congr_left
    intro q _
    show (p ++ [k]) ++ q = p ++ (k :: q)
    rw [List.append_assoc]
    rfl
theorem inn_mem (p : List Nat) : ∀ (l : List D) (k : Nat) (x : List Nat × D), x ∈ inn p k l → x.2 ∈ l ∧ x.1.length = p.length + 1
  | t :: r, k, x, h => by
    rcases List.mem_cons.mp h with e | h
    · rw [e]
      exact ⟨List.mem_cons_self .., by rw [List.length_append, List.length_singleton]⟩
    · obtain ⟨a, b⟩ := inn_mem p r (k + 1) x h
      exact ⟨List.mem_cons_of_mem _ a, b⟩
def szp (l : List (List Nat × D)) : Nat := szs (l.map (·.2))
theorem szp_append (a b : List (List Nat × D)) : szp (a ++ b) = szp a + szp b := by
  unfold szp
  rw [List.map_append, szs_append]
theorem szs_rev : ∀ l : List D, szs l.reverse = szs l
  | [] => rfl
  | t :: r => by
    rw [List.reverse_cons, szs_append, szs_rev r]
    show szs r + (sz t + 0) = sz t + szs r
    omega
theorem szp_rev (l : List (List Nat × D)) : szp l.reverse = szp l := by
  unfold szp
  rw [List.map_reverse, szs_rev]
theorem inn_snd (p : List Nat) : ∀ (l : List D) (k : Nat), (inn p k l).map (·.2) = l
  | [], _ => rfl
  | t :: r, k => by
    show t :: (inn p (k + 1) r).map (·.2) = t :: r
    rw [inn_snd p r (k + 1)]
theorem len_szp (l : List (List Nat × D)) : l.length ≤ szp l := by
  have := len_szs (l.map (·.2))
  rw [List.length_map] at this
  exact this
section
variable {P : Program} {w : World} {K : PySem.W.Frag} {mg : Str → Option Value} {base : Heap}
def spPlaces : Sp := fun vs H Q _ => ∃ (v : V) (d : D), vs = [v] ∧ Rep H v d ∧ isK d = true ∧ sz d ≤ 100000 ∧
  ∀ (x : V) (H' : Hp), Same H H' → Rep H' x (.tup ((pl d).map placeD)) → Q x H'
theorem ok_places {f : Addr} {fd : FuncData} (D_places : Df K mg "places" s_places ["kind"] f fd) (B : Bt mg) : FnOk P w K mg base CX0 1 f fd ["kind"] spPlaces := by
  refine D_places.ok c_places (fun vs H Q E h => ?_) (fun cdv A outer s H vs Q E hr h => ?_)
  · obtain ⟨v, d, rfl, _⟩ := h
    rfl
  obtain ⟨v, d, rfl, rv, hk, hsz, q⟩ := h
  have nd := c_places.nd
  refine ⟨_, (pss_cons (ps_set (i := 1) nd rfl (Or.inl rfl) (pe_lst pa_nil))
  (pss_cons (ps_set (i := 2) nd rfl (Or.inl rfl) (pe_lst (pa_cons (pe_tup (pa_cons (pe_tup pa_nil) (pa_cons (pv 0) pa_nil))) pa_nil)))
  (pss_cons (ps_while PassesOwn.never (pt_truth (pv 2) (by intro _; rfl)) (pss_cons (ps_asg (pe_bm0 PySem.F.plainAttrs_list PySem.F.slot_list_pop PySem.F.type_list_pop mt_pop (pv 2)) (pg_tup rfl (pgs_cons (pg_name (i := 3) nd rfl (Or.inr rfl)) (pgs_cons (pg_name (i := 4) nd rfl (Or.inl rfl)) pgs_nil))))
  (pss_cons (ps_expr (pe_bm PySem.F.plainAttrs_list PySem.F.slot_list_append PySem.F.type_list_append mt_append (pv 1) (pa_cons (pv 3) pa_nil)))
  (pss_cons (ps_setLc (i := 5) (own := [("number", 6), ("argument", 7)]) (g := (gTup K 2 (gCons (gName 6) (gCons (gName 7) gNil)))) (tt := tYes) rfl nd rfl rfl (sw_true rfl rfl rfl (by decide +kernel)) (pi_enumT (by rfl) B.b_enumerate (pa_cons (pv 4) pa_nil)) (blkOk_by (own := [("number", 6), ("argument", 7)]) (N := ["kind", "found", "pending", "place", "part", "inner", "number", "argument"]) (sc := defScope s_places) (by decide +kernel)) (fun _ _ _ _ _ => (pg_tup rfl (pgs_cons (pg_name (i := 6) nd rfl (Or.inl rfl)) (pgs_cons (pg_name (i := 7) nd rfl (Or.inl rfl)) pgs_nil)))) (fun _ _ _ _ _ => pts_nil) (fun _ _ _ _ _ => (pe_tup (pa_cons (pe_op op_catR (pv 3) (pe_tup (pa_cons (pv 6) pa_nil))) (pa_cons (pv 7) pa_nil)))))
  (pss_one (ps_expr (pe_bm PySem.F.plainAttrs_list PySem.F.slot_list_extend PySem.F.type_list_extend mt_extend (pv 2) (pa_cons (pe_revL (pv 5)) pa_nil))))))))
  (pss_one (ps_ret (pe_callTy call_tuple_of (by rfl) B.b_tuple (by decide +kernel) (pa_cons (pv 1) pa_nil))))))), ?_⟩
  refine ⟨Nat.zero_le _, fun fa nfa => ⟨(by show 0 ≤ sizeLine; decide), fun e0 ne0 => ⟨_, rfl, (by show 2 ≤ sizeLine; decide), fun t0 nt0 => ⟨(by show 1 ≤ sizeLine; decide), fun p np => ?_⟩⟩⟩⟩
  have a1 : Same H (upd H fa (.lst [])) := same_new nfa _
  have a2 : Same (upd H fa (.lst [])) (upd (upd H fa (.lst [])) e0 (.tup [])) := same_new ne0 _
  have a3 := a2.trans (same_new nt0 (.tup [.ref e0, v]))
  have a4 := a3.trans (same_new np (.lst [.ref t0]))
  have s1 := a1.trans a4
  have npH : H p = none := (a1.trans a3).free np
  have nfp : fa ≠ p := ne_of_none (a3 _ _ upd_same) np
  have cnt := pl_count d hk
  obtain ⟨W, hW⟩ : ∃ W : Nat → L2.St → Hp → Prop, ∀ m σ H', W m σ H' ↔ (∃ (fs xs : List V) (dn : List (List Nat)) (ds : List (List Nat × D)) (y3 y4 y5 y6 y7 : Option V), σ = [some v, some (.ref fa), some (.ref p), y3, y4, y5, y6, y7] ∧ Same H H' ∧ H' fa = some (.lst fs) ∧ H' p = some (.lst xs) ∧ Reps H' fs (dn.map placeD) ∧ Reps H' xs (ds.map pairD) ∧
      dn ++ gl ds.reverse = pl d ∧ (∀ x ∈ ds, isK x.2 = true ∧ x.1.length + dep x.2 ≤ dep d) ∧ m = szp ds ∧ szp ds ≤ 100000) := ⟨_, fun _ _ _ => Iff.rfl⟩
  refine ⟨W, ⟨szp [([], d)], (hW _ _ _).mpr ⟨[], [.ref t0], [], [([], d)], none, none, none, none, none, rfl, s1, a4 _ _ upd_same, upd_same, .nil, .one (.tup (by rw [upd_ne (ne_of_none upd_same np)]; exact upd_same) (.cons (.tup (xs := []) ?_ .nil) (.cons (rv.mono (kx_same s1)) .nil))), ?_, ?_, rfl, by show sz d + 0 ≤ 100000; omega⟩⟩, ?_⟩
  · rw [upd_ne (ne_of_none (same_new nt0 _ _ _ upd_same) np), upd_ne (ne_of_none upd_same nt0)]
    exact upd_same
  · show [] ++ ((pl d).map (fun q => [] ++ q) ++ []) = pl d
    rw [List.nil_append, List.append_nil]
    exact List.map_id _
  · intro x hx
    rw [List.mem_singleton.mp hx]
    exact ⟨hk, by show 0 + dep d ≤ dep d; omega⟩
  intro m σ H1 hw
  obtain ⟨fs, xs, dn, ds, y3, y4, y5, y6, y7, rfl, sH, hfa, hp, rfs, rx, hgl, hks, rfl, hs⟩ := (hW _ _ _).mp hw
  have ldn : dn.length ≤ 100000 := by
    have := congrArg List.length hgl
    rw [List.length_append] at this
    omega
  have lfs := rfs.length
  rw [List.length_map] at lfs
  refine ⟨_, rfl, _, .inl ⟨xs, SqL.of hp, rfl⟩, ?_⟩
  cases xs with
  | nil =>
    have e0 : ds = [] := by
      have := rx.length
      rw [List.length_map] at this
      exact List.eq_nil_of_length_eq_zero this.symm
    subst e0
    refine iteF ?_
    have e1 : dn = pl d := by
      have : dn ++ [] = pl d := hgl
      rw [List.append_nil] at this
      exact this
    subst e1
    refine ⟨_, rfl, fa, fs, rfl, .inl ⟨SqL.of hfa, fun l nl => ?_⟩⟩
    have s5 : Same H1 (upd H1 l (.tup fs)) := same_new nl _
    exact q _ _ (sH.trans s5) (.tup upd_same (rfs.mono (kx_same s5)))
  | cons x0 r0 =>
    refine iteT ⟨fun σ' H' => ∃ m', m' < szp ds ∧ W m' σ' H', fun _ _ h => h, ?_⟩
    obtain ⟨y, e, es, hlast, hde, re, res⟩ := rx.last (fun z => by cases z)
    obtain ⟨ds', x, rfl⟩ : ∃ ds' x, ds = ds' ++ [x] := by
      refine ⟨ds.dropLast, ds.getLast (fun z => by rw [z] at hde; simp at hde), (List.dropLast_concat_getLast _).symm⟩
    rw [List.map_append] at hde
    obtain ⟨rfl, he⟩ : ds'.map pairD = es ∧ pairD x = e := by
      have := List.append_inj' hde rfl
      exact ⟨this.1, (List.cons.inj this.2).1⟩
    subst he
    obtain ⟨hkx, hlx⟩ := hks x (List.mem_append_right _ (List.mem_singleton.mpr rfl))
    rw [szp_append] at hs
    obtain ⟨pp, xd⟩ := x
    obtain ⟨ts, rfl, hkts⟩ := isK_inv hkx
    have hs' : szp ds' + (szs ts + 1 + 0) ≤ 100000 := hs
    have hlx' : pp.length + deps ts ≤ dep d := hlx
    have hdd := dep_lt_sz d
    refine ⟨_, rfl, .inl ⟨rfl, _, SqL.of hp⟩, p, _, y, rfl, rfl, hp, hlast, ?_⟩
    have k2 : Kx H1 (upd H1 p (.lst (x0 :: r0).dropLast)) := kx_list hp _
    have hp2 : (upd H1 p (.lst (x0 :: r0).dropLast)) p = some (.lst (x0 :: r0).dropLast) := upd_same
    have hfa2 : (upd H1 p (.lst (x0 :: r0).dropLast)) fa = some (.lst fs) := by rw [upd_ne nfp]; exact hfa
    have sH2 : Same H (upd H1 p (.lst (x0 :: r0).dropLast)) := fun o u z => by rw [upd_ne (ne_of_none z npH)]; exact sH _ _ z
    obtain ⟨b, bs, rfl, hb, rb⟩ := (re.mono k2).inv
    have res2 := res.mono k2
    have rfs2 := rfs.mono k2
    generalize upd H1 p (.lst (x0 :: r0).dropLast) = H2 at *
    cases rb with
    | cons r1 rb =>
      cases rb with
      | cons r2 rb =>
        cases rb
        obtain ⟨a, as, rfl, ha, ra⟩ := r1.inv
        obtain ⟨c, cs, rfl, hc, rc⟩ := r2.inv
        have la := ra.length
        rw [List.length_map] at la
        have la' : as.length = pp.length := la
        have lc := rc.length
        have lts := len_szs ts
        refine ⟨b, _, rfl, SqT.of hb, rfl, _, _, rfl, _, _, rfl, rfl, ?_⟩
        refine ⟨_, rfl, .inl ⟨rfl, _, SqL.of hfa2⟩, _, rfl, fa, fs, _, rfl, rfl, hfa2, small6 (by omega), ?_⟩
        have k3 : Kx H2 (upd H2 fa (.lst (fs ++ [.ref a]))) := kx_list hfa2 _
        have hp3 : (upd H2 fa (.lst (fs ++ [.ref a]))) p = some (.lst (x0 :: r0).dropLast) := by rw [upd_ne nfp.symm]; exact hp2
        have hfa3 : (upd H2 fa (.lst (fs ++ [.ref a]))) fa = some (.lst (fs ++ [.ref a])) := upd_same
        have sH3 : Same H (upd H2 fa (.lst (fs ++ [.ref a]))) := fun o u z => by rw [upd_ne (ne_of_none z nfa)]; exact sH2 _ _ z
        have res3 := res2.mono k3
        have rfs3 := (rfs2.mono k3).append (.one (r1.mono k3))
        have ha3 := k3.t _ _ ha
        have hc3 := k3.t _ _ hc
        have ra3 := ra.mono k3
        have rc3 := rc.mono k3
        generalize upd H2 fa (.lst (fs ++ [.ref a])) = H3 at *
        refine ⟨_, rfl, c, cs, rfl, SqT.of hc3, fun l nl => ?_⟩
        refine lc_enumT (K := K) (a := c) (xs := cs) (fun i H' => Same H3 H' ∧ ∃ acc, H' l = some (.lst acc) ∧ Reps H' acc ((inn pp 0 (ts.take i)).map pairD))
          ⟨same_new nl _, [], upd_same, .nil⟩ (fun i H' _ h => SqT.of (h.1 _ _ hc3)) ?_ ?_
        · rintro i x T H4 hi ⟨s4, acc, hl4, racc⟩ nT
          obtain ⟨dd, hdd2, rdd⟩ := rc3.get hi
          have lacc := racc.length
          have linn : (inn pp 0 (ts.take i)).length ≤ ts.length := by
            have := congrArg List.length (inn_snd pp (ts.take i) 0)
            rw [List.length_map, List.length_take] at this
            omega
          rw [List.length_map] at lacc
          have s5 : Same H4 (upd H4 T (.tup [.int (i : Nat), x])) := same_new nT _
          refine ⟨T, _, rfl, SqT.of upd_same, rfl, _, _, rfl, _, _, rfl, rfl, ⟨rfl, yes_go ?_⟩⟩
          refine ⟨_, rfl, _, rfl, (by show 1 ≤ sizeLine; decide), fun t1 nt1 => ?_⟩
          have s6 := s5.trans (same_new nt1 (.tup [.int (i : Nat)]))
          refine ⟨a, t1, as, _, rfl, rfl, s6 _ _ (s4 _ _ ha3), upd_same, small6' (by show as.length + 1 ≤ 1000000; omega), fun u H5 s7 hu => ?_⟩
          refine ⟨_, rfl, (by show 2 ≤ sizeLine; decide), fun t2 nt2 => ?_⟩
          have s8 := (s6.trans s7).trans (same_new nt2 (.tup [.ref u, x]))
          refine ⟨acc, s8 _ _ hl4, small6 (by omega), fun o v2 z => ?_, acc ++ [.ref t2], upd_same, ?_⟩
          · rw [upd_ne (ne_of_none z nl)]
            exact s8 _ _ (s4 _ _ z)
          · rw [inn_take pp hdd2, List.map_append]
            have k9 := kx_list (s8 _ _ hl4) (acc ++ [.ref t2])
            refine (racc.mono ((kx_same s8).trans k9)).append (.one (.tup (k9.t _ _ upd_same) (.cons (.tup (k9.t _ _ ((same_new nt2 (.tup [.ref u, x])) _ _ hu)) ?_) (.cons ?_ .nil))))
            · rw [List.map_append]
              exact ((ra3.mono (kx_same s4)).mono ((kx_same s8).trans k9)).append (.one (.at rfl))
            · exact (rdd.mono (kx_same s4)).mono ((kx_same s8).trans k9)
        · rintro H4 ⟨s4, acc, hl4, racc⟩
          rw [lc, List.take_length] at racc
          have lacc := racc.length
          have linn := congrArg List.length (inn_snd pp ts 0)
          rw [List.length_map] at linn lacc
          refine ⟨_, rfl, .inl ⟨rfl, _, SqL.of (s4 _ _ hp3)⟩, _, rfl, l, acc, rfl, SqL.of hl4, fun u nu => ?_⟩
          have s5 := s4.trans (same_new nu (.lst acc.reverse))
          have hp5 := s5 _ _ hp3
          have hfa5 := s5 _ _ hfa3
          have l2 := res3.length
          rw [List.length_map] at l2
          have l3 := len_szp ds'
          refine ⟨p, u, _, _, rfl, rfl, hp5, upd_same, small6' (by rw [List.length_reverse]; omega), ?_⟩
          have k6 : Kx (upd H4 u (.lst acc.reverse)) (upd (upd H4 u (.lst acc.reverse)) p (.lst ((x0 :: r0).dropLast ++ acc.reverse))) := kx_list hp5 _
          refine ⟨szp (ds' ++ (inn pp 0 ts).reverse), ?_, (hW _ _ _).mpr ⟨fs ++ [.ref a], _, dn ++ [pp], ds' ++ (inn pp 0 ts).reverse, some (.ref a), some (.ref c), some (.ref l), y6, y7, rfl, fun o v2 z => ?_, ?_, upd_same, ?_, ?_, ?_, ?_, rfl, ?_⟩⟩
          · rw [szp_append, szp_append, szp_rev]
            unfold szp
            rw [inn_snd]
            show szs (ds'.map (·.2)) + szs ts < szs (ds'.map (·.2)) + (szs ts + 1 + 0)
            omega
          · rw [upd_ne (ne_of_none z npH)]
            exact s5 _ _ (sH3 _ _ z)
          · rw [upd_ne nfp]
            exact hfa5
          · rw [List.map_append]
            exact (rfs3.mono (kx_same s5)).mono k6
          · rw [List.map_append, List.map_reverse]
            exact ((res3.mono (kx_same s5)).mono k6).append (((racc.mono (kx_same (same_new nu (.lst acc.reverse)))).mono k6).reverse)
          · rw [List.reverse_append, List.reverse_reverse, gl_append, gl_inn, ← hgl, List.reverse_append]
            show (dn ++ [pp]) ++ ((pls 0 ts).map (fun q => pp ++ q) ++ gl ds'.reverse) = dn ++ (([] :: pls 0 ts).map (fun q => pp ++ q) ++ gl ds'.reverse)
            rw [List.append_assoc, List.map_cons, List.append_nil]
            rfl
          · intro x hx
            rcases List.mem_append.mp hx with hx | hx
            · exact hks x (List.mem_append_left _ hx)
            · obtain ⟨m1, m2⟩ := inn_mem pp ts 0 x (List.mem_reverse.mp hx)
              have := dep_mem m1
              exact ⟨isK_mem hkts m1, by omega⟩
          · rw [szp_append, szp_rev]
            have : szp (inn pp 0 ts) = szs ts := by
              unfold szp
              rw [inn_snd]
            omega
end
/-! ### _law_spoilt_kind -/
theorem split_at {ts : List D} {k : Nat} {t : D} (h : ts[k]? = some t) : ts = ts.take k ++ (t :: ts.drop (k + 1)) := by
  have hk := (List.getElem?_eq_some_iff.mp h).1
  have e : ts.drop k = t :: ts.drop (k + 1) := by
    rw [List.drop_eq_getElem_cons hk]
    rw [List.getElem?_eq_getElem hk] at h
    rw [Option.some.inj h]
  rw [← e, List.take_append_drop]
theorem szs_put {ts : List D} {k : Nat} {t : D} (e : D) (h : ts[k]? = some t) : szs (ts.take k ++ [e] ++ ts.drop (k + 1)) + sz t = szs ts + sz e := by
  have s := congrArg szs (split_at h)
  rw [szs_append] at s
  have s' : szs ts = szs (ts.take k) + (sz t + szs (ts.drop (k + 1))) := s
  rw [szs_append, szs_append]
  show szs (ts.take k) + (sz e + 0) + szs (ts.drop (k + 1)) + sz t = szs ts + sz e
  omega
theorem deps_put {ts : List D} {k n : Nat} {t : D} (e : D) (h : ts[k]? = some t) (he : dep e ≤ dep t + n) : deps (ts.take k ++ [e] ++ ts.drop (k + 1)) ≤ deps ts + n := by
  have s := congrArg deps (split_at h)
  rw [deps_append] at s
  have s' : deps ts = max (deps (ts.take k)) (max (dep t + 1) (deps (ts.drop (k + 1)))) := s
  rw [deps_append, deps_append]
  show max (max (deps (ts.take k)) (max (dep e + 1) 0)) (deps (ts.drop (k + 1))) ≤ deps ts + n
  omega
def menuD (d : D) : List D := [.lst, .at .non, .at (.int 0), .at (.int 1), .at (.bl true), .at (.str ""), .at (.str "o"), .at (.str "()"), .lst, .tup [d], .tup [d, .tup []], .tup [.tup [], .at .non], .tup [.tup [], .lst]]
theorem menu_reps {M : Hp} {a l1 t1 l2 t2 t3 t4 t5 t6 t7 l3 t8 : Addr} {xs : List V} {d : D} (h1 : M l1 = some (.lst xs)) (h2 : M t1 = some (.tup [])) (h3 : M l2 = some (.lst [.ref t1])) (h4 : M t2 = some (.tup [.ref a])) (h5 : M t3 = some (.tup [])) (h6 : M t4 = some (.tup [.ref a, .ref t3]))
    (h7 : M t5 = some (.tup [])) (h8 : M t6 = some (.tup [.ref t5, .non])) (h9 : M t7 = some (.tup [])) (h10 : M l3 = some (.lst [])) (h11 : M t8 = some (.tup [.ref t7, .ref l3])) (r : Rep M (.ref a) d) :
    Reps M [.ref l1, .non, .int 0, .int 1, .bl true, .str "", .str "o", .str "()", .ref l2, .ref t2, .ref t4, .ref t6, .ref t8] (menuD d) :=
  .cons (.lst h1) (.cons (.at rfl) (.cons (.at rfl) (.cons (.at rfl) (.cons (.at rfl) (.cons (.at rfl) (.cons (.at rfl) (.cons (.at rfl) (.cons (.lst h3) (.cons (.tup h4 (.one r)) (.cons (.tup h6 (.cons r (.one (.tup h5 .nil))))
    (.cons (.tup h8 (.cons (.tup h7 .nil) (.one (.at rfl)))) (.cons (.tup h11 (.cons (.tup h9 .nil) (.one (.lst h10)))) .nil))))))))))))
theorem pick {H : Hp} {xs : List V} {ds : List D} {r : Int} (h : Reps H xs ds) (h0 : 0 ≤ r) (h1 : r < (xs.length : Nat)) : ∃ v e, atI xs r = some v ∧ Rep H v e ∧ e ∈ ds := by
  have hk : r.toNat < xs.length := by omega
  obtain ⟨e, he, re⟩ := h.get (List.getElem?_eq_getElem hk)
  have q := atI_nat (List.getElem?_eq_getElem hk)
  rw [show ((r.toNat : Nat) : Int) = r by omega] at q
  exact ⟨_, e, q, re, List.mem_of_getElem? he⟩
theorem menu_small {d e : D} (h : e ∈ menuD d) : sz e ≤ sz d + 5 ∧ dep e ≤ dep d + 2 := by
  unfold menuD at h
  simp only [List.mem_cons, List.not_mem_nil, or_false] at h
  have p := sz_pos d
  rcases h with rfl | rfl | rfl | rfl | rfl | rfl | rfl | rfl | rfl | rfl | rfl | rfl | rfl <;> simp only [sz, szs, dep, deps] <;> omega
section
variable {P : Program} {w : World} {K : PySem.W.Frag} {mg : Str → Option Value} {base : Heap}
def spSpoilt (n : Nat) : Sp := fun vs H Q _ => ∃ (b c : Addr) (v : V) (d : D), vs = [.ref b, v] ∧ BoxAt H b c ∧ Rep H v d ∧ isK d = true ∧ dep d < n ∧ n ≤ 60 ∧ sz d ≤ 10000 ∧
  ∀ (z : V) (e : D) (H' : Hp), Rep H' z e → sz e ≤ sz d + 5 → dep e ≤ dep d + 2 → BoxAt H' b c → SB b H H' → Q z H'
theorem ok_spoilt {f g : Addr} {fd gd : FuncData} (D__law_spoilt_kind : Df K mg "_law_spoilt_kind" s__law_spoilt_kind ["box", "value"] f fd) (D__law_draw : Df K mg "_law_draw" s__law_draw ["box", "many"] g gd) (B : Bt mg) :
    ∀ n : Nat, FnOk P w K mg base CX0 (n + 1) f fd ["box", "value"] (spSpoilt n)
  | 0 => (fn_none (f := f) (fd := fd) fun vs H Q E h => by
    obtain ⟨b, c, v, d, _, _, _, _, h1, _⟩ := h
    omega).mono (by omega)
  | n + 1 => by
    have G__law_spoilt_kind := ok_spoilt D__law_spoilt_kind D__law_draw B n
    have G__law_draw : FnOk P w K mg base CX0 1 g gd ["box", "many"] spDraw := ok_draw D__law_draw B
    refine D__law_spoilt_kind.ok c__law_spoilt_kind (fun vs H Q E h => ?_) (fun cdv A outer s H vs Q E hr h => ?_)
    · obtain ⟨b, c, v, d, rfl, _⟩ := h
      rfl
    obtain ⟨b, c, v, d, rfl, hB, rv, hk, hdp, hn60, hsz, q⟩ := h
    have nd := c__law_spoilt_kind.nd
    refine ⟨_, (pss_cons (ps_if (PW.pt (pw_and (pt_val (pe_callB call_isi (by rfl) B.b_isinstance (by decide +kernel) (pa_cons (pv 1) (pa_cons (pe_bltn (v := .ty "tuple") (by rfl) B.b_tuple (by decide +kernel) rfl) pa_nil)))) (pw_and (pt_cmpR (op_neD hr.units) (pv 1) (pe_tup pa_nil) (nomark _)) (pw_and1 (pt_cmpR op_gt (pe_call G__law_draw (hr.mono (by first | decide | omega)) (by rfl) D__law_draw.m D__law_draw.kp D__law_draw.b .nil pass0 (pa_cons (pv 0) (pa_cons pe_int pa_nil))) pe_int (nomark _)))))) (pss_cons (ps_set (i := 2) nd rfl (Or.inl rfl) (pe_call G__law_draw (hr.mono (by first | decide | omega)) (by rfl) D__law_draw.m D__law_draw.kp D__law_draw.b .nil pass0 (pa_cons (pv 0) (pa_cons (pe_callB call_len_seq (by rfl) B.b_len PySem.boot_len (pa_cons (pv 1) pa_nil)) pa_nil))))
  (pss_one (ps_ret (pe_op op_catR (pe_op op_catR (pe_slice sl_tupR (pv 1) po_none (po_some (pv 2))) (pe_tup (pa_cons (pe_call G__law_spoilt_kind hr (by rfl) D__law_spoilt_kind.m D__law_spoilt_kind.kp D__law_spoilt_kind.b .nil pass0 (pa_cons (pv 0) (pa_cons (pe_ix ix_tup (pv 1) (pv 2) (fun _ _ => rfl)) pa_nil))) pa_nil))) (pe_slice sl_tupR (pv 1) (po_some (pe_op op_add (pv 2) pe_int)) po_none))))) pss_nil)
  (pss_cons (ps_set (i := 3) nd rfl (Or.inl rfl) (pe_lst (pa_cons (pe_callTy call_list_of (by rfl) B.b_list (by decide +kernel) (pa_cons (pv 1) pa_nil)) (pa_cons pe_non (pa_cons pe_int (pa_cons pe_int (pa_cons pe_bl (pa_cons pe_str (pa_cons pe_str (pa_cons pe_str (pa_cons (pe_lst (pa_cons (pe_tup pa_nil) pa_nil)) (pa_cons (pe_tup (pa_cons (pv 1) pa_nil)) (pa_cons (pe_tup (pa_cons (pv 1) (pa_cons (pe_tup pa_nil) pa_nil))) (pa_cons (pe_tup (pa_cons (pe_tup pa_nil) (pa_cons pe_non pa_nil))) (pa_cons (pe_tup (pa_cons (pe_tup pa_nil) (pa_cons (pe_lst pa_nil) pa_nil))) pa_nil)))))))))))))))
  (pss_one (ps_ret (pe_ix ix_list (pv 3) (pe_call G__law_draw (hr.mono (by first | decide | omega)) (by rfl) D__law_draw.m D__law_draw.kp D__law_draw.b .nil pass0 (pa_cons (pv 0) (pa_cons (pe_callB call_len_seq (by rfl) B.b_len PySem.boot_len (pa_cons (pv 3) pa_nil)) pa_nil))) (fun _ _ => rfl)))))), ?_⟩
    obtain ⟨ts, rfl, hks⟩ := isK_inv hk
    obtain ⟨a, xs, rfl, hx, rx⟩ := rv.inv
    have lx := rx.length
    have lts := len_szs ts
    have hsz' : szs ts + 1 ≤ 10000 := hsz
    have hdp' : deps ts < n + 1 := hdp
    refine ⟨_, rfl, _, _, _, _, _, rfl, .ty _, rep_ty rv, kit_ty (kit_tup _), ⟨_, rfl, iteT ?_⟩⟩
    refine ⟨_, rfl, (by show 0 ≤ sizeLine; decide), fun e0 ne0 => ?_⟩
    have s0 : Same H (upd H e0 (.tup [])) := same_new ne0 _
    refine ⟨toPy (.tup ts), .tuple [], dp_kind (rv.mono (kx_same s0)) hk, .tup (SqT.of upd_same) .nil, shaped_kind hk (by show deps ts ≤ 60; omega), rfl, _, rfl, ?_⟩
    rcases (show (ts = [] ∧ PyData.eqv (toPy (.tup ts)) (.tuple []) = true) ∨ (ts ≠ [] ∧ PyData.eqv (toPy (.tup ts)) (.tuple []) = false) by
      cases ts with
      | nil => exact .inl ⟨rfl, rfl⟩
      | cons t r => exact .inr ⟨(fun z => by cases z), rfl⟩) with ⟨e1, e2⟩ | ⟨e1, e2⟩
    · rw [e2]
      refine iteF ?_
      have hB1 := hB.same s0
      have sb1 : SB b H (upd H e0 (.tup [])) := sb_same s0
      have rv1 := rv.mono (kx_same s0)
      have hx1 := s0 _ _ hx
      generalize upd H e0 (.tup []) = H1 at *
      refine ⟨_, rfl, a, xs, rfl, .inr (SqT.of hx1), fun l1 nl1 => ⟨(by show 0 ≤ sizeLine; decide), fun t1 nt1 => ⟨(by show 1 ≤ sizeLine; decide), fun l2 nl2 => ⟨_, rfl, (by show 1 ≤ sizeLine; decide), fun t2 nt2 =>
        ⟨_, rfl, (by show 0 ≤ sizeLine; decide), fun t3 nt3 => ⟨(by show 2 ≤ sizeLine; decide), fun t4 nt4 => ⟨(by show 0 ≤ sizeLine; decide), fun t5 nt5 => ⟨(by show 2 ≤ sizeLine; decide), fun t6 nt6 =>
        ⟨(by show 0 ≤ sizeLine; decide), fun t7 nt7 => ⟨(by show 0 ≤ sizeLine; decide), fun l3 nl3 => ⟨(by show 2 ≤ sizeLine; decide), fun t8 nt8 => ⟨(by show 13 ≤ sizeLine; decide), fun m nm => ?_⟩⟩⟩⟩⟩⟩⟩⟩⟩⟩⟩⟩
      have u12 := same_new nm (.lst [.ref l1, .non, .int 0, .int 1, .bl true, .str "", .str "o", .str "()", .ref l2, .ref t2, .ref t4, .ref t6, .ref t8])
      have u11 := (same_new nt8 _).trans u12
      have u10 := (same_new nl3 _).trans u11
      have u9 := (same_new nt7 _).trans u10
      have u8 := (same_new nt6 _).trans u9
      have u7 := (same_new nt5 _).trans u8
      have u6 := (same_new nt4 _).trans u7
      have u5 := (same_new nt3 _).trans u6
      have u4 := (same_new nt2 _).trans u5
      have u3 := (same_new nl2 _).trans u4
      have u2 := (same_new nt1 _).trans u3
      have u1 := (same_new nl1 _).trans u2
      have xM := u1 _ _ hx1
      have rvM := rv1.mono (kx_same u1)
      have hnb : b ≠ m := by
        obtain ⟨bs, hbs⟩ := (hB1.same ((same_new nl1 _).trans ((same_new nt1 _).trans ((same_new nl2 _).trans ((same_new nt2 _).trans ((same_new nt3 _).trans ((same_new nt4 _).trans ((same_new nt5 _).trans ((same_new nt6 _).trans ((same_new nt7 _).trans ((same_new nl3 _).trans (same_new nt8 _)))))))))))).lst
        exact ne_of_none hbs nm
      have RM := menu_reps (u2 _ _ upd_same) (u3 _ _ upd_same) (u4 _ _ upd_same) (u5 _ _ upd_same) (u6 _ _ upd_same) (u7 _ _ upd_same) (u8 _ _ upd_same) (u9 _ _ upd_same) (u10 _ _ upd_same) (u11 _ _ upd_same) (u12 _ _ upd_same) rvM
      have hBM := hB1.same u1
      refine ⟨_, rfl, _, rfl, _, rfl, m, _, rfl, .inl (SqL.of upd_same), b, c, 13, rfl, hBM, by decide, fun r2 H8 hr20 hr213 hB8 sb8 => ?_⟩
      obtain ⟨y, e, hy, re, me⟩ := pick RM hr20 hr213
      refine ⟨m, _, _, y, rfl, rfl, SqL.of (sb8 _ _ hnb.symm upd_same), hy, ?_⟩
      obtain ⟨q1, q2⟩ := menu_small me
      exact q y e H8 (re.mono (box_kx hBM hB8 sb8)) (by have : sz (.tup ts) = szs ts + 1 := rfl; omega) q2 hB8 (sb1.trans ((sb_same u1).trans sb8))
    · rw [e2]
      refine iteT ?_
      have hB0 := hB.same s0
      have sb0 : SB b H (upd H e0 (.tup [])) := sb_same s0
      have rv0 := rv.mono (kx_same s0)
      refine ⟨_, rfl, b, c, 3, rfl, hB0, by decide, fun r H1 hr0 hr3 hB1 sb01 => ⟨_, _, rfl, rfl, _, rfl, ite2 (fun z => ?_) (fun z => ?_)⟩⟩
      · have sb1 := sb0.trans sb01
        have k1 := box_kx hB hB1 sb1
        have rv1 := rv.mono k1
        have hx1 := k1.t _ _ hx
        have hp : 0 < ts.length := List.length_pos_iff.mpr e1
        refine ⟨_, rfl, _, rfl, a, xs, rfl, .inr (SqT.of hx1), b, c, _, rfl, hB1, by omega, fun k H2 hk0 hkl hB2 sb2 => ?_⟩
        have k2 := box_kx hB1 hB2 sb2
        have hx2 := k2.t _ _ hx1
        have rx2 := (rx.mono k1).mono k2
        obtain ⟨kn, rfl⟩ : ∃ kn : Nat, k = (kn : Int) := ⟨k.toNat, by omega⟩
        have hkn : kn < xs.length := by omega
        obtain ⟨t, ht, rt⟩ := rx2.get (List.getElem?_eq_getElem hkn)
        have mt : t ∈ ts := List.mem_of_getElem? ht
        have z1 := dep_mem mt
        have z2 := sz_mem mt
        refine ⟨_, rfl, _, rfl, _, rfl, a, xs, rfl, hx2, fun c1 H3 s3 hc1 => ?_⟩
        rw [cutV_to] at hc1
        have k3 := kx_same s3
        refine ⟨_, rfl, _, rfl, _, rfl, a, xs, _, _, rfl, rfl, SqT.of (s3 _ _ hx2), atI_nat (List.getElem?_eq_getElem hkn), b, c, _, t, rfl, hB2.same s3, rt.mono k3, isK_mem hks mt, by omega, by omega, by omega, fun y e H4 ry hsy hdy hB4 sb4 => ?_⟩
        have k4 := box_kx (hB2.same s3) hB4 sb4
        refine ⟨(by show 1 ≤ sizeLine; decide), fun t1 nt1 => ?_⟩
        have s5 := same_new nt1 (.tup [y])
        have ltk : (xs.take kn).length ≤ ts.length := by rw [List.length_take]; omega
        have ldr : (xs.drop (kn + 1)).length ≤ ts.length := by rw [List.length_drop]; omega
        refine ⟨c1, t1, _, _, rfl, rfl, s5 _ _ (k4.t _ _ hc1), upd_same, small6' (by show (xs.take kn).length + 1 ≤ 1000000; omega), fun c2 H5 s6 hc2 => ?_⟩
        refine ⟨_, rfl, _, rfl, _, _, rfl, rfl, (kn : Int) + 1, rfl, a, xs, rfl, s6 _ _ (s5 _ _ (k4.t _ _ (s3 _ _ hx2))), fun c3 H6 s7 hc3 => ?_⟩
        rw [show (kn : Int) + 1 = ((kn + 1 : Nat) : Int) by omega, cutV_from] at hc3
        refine ⟨c2, c3, _, _, rfl, rfl, s7 _ _ hc2, hc3, small6' (by rw [List.length_append, List.length_singleton]; omega), fun c4 H7 s8 hc4 => ?_⟩
        have s58 := ((s5.trans s6).trans s7).trans s8
        have k27 := (k3.trans k4).trans (kx_same s58)
        have sz1 := szs_put e ht
        have dp1 := deps_put e ht hdy
        refine q _ (.tup (ts.take kn ++ [e] ++ ts.drop (kn + 1))) H7 (.tup hc4 ((((rx2.mono k27).take kn).append (.one (ry.mono (kx_same s58)))).append ((rx2.mono k27).drop (kn + 1)))) (by show szs _ + 1 ≤ szs ts + 1 + 5; omega) dp1 (hB4.same s58) ?_
        exact (sb1.trans sb2).trans ((sb_same s3).trans (sb4.trans (sb_same s58)))
      · have sb1 := sb0.trans sb01
        have k1 := box_kx hB hB1 sb1
        have rv1 := rv.mono k1
        have hx1 := k1.t _ _ hx
        refine ⟨_, rfl, a, xs, rfl, .inr (SqT.of hx1), fun l1 nl1 => ⟨(by show 0 ≤ sizeLine; decide), fun t1 nt1 => ⟨(by show 1 ≤ sizeLine; decide), fun l2 nl2 => ⟨_, rfl, (by show 1 ≤ sizeLine; decide), fun t2 nt2 =>
          ⟨_, rfl, (by show 0 ≤ sizeLine; decide), fun t3 nt3 => ⟨(by show 2 ≤ sizeLine; decide), fun t4 nt4 => ⟨(by show 0 ≤ sizeLine; decide), fun t5 nt5 => ⟨(by show 2 ≤ sizeLine; decide), fun t6 nt6 =>
          ⟨(by show 0 ≤ sizeLine; decide), fun t7 nt7 => ⟨(by show 0 ≤ sizeLine; decide), fun l3 nl3 => ⟨(by show 2 ≤ sizeLine; decide), fun t8 nt8 => ⟨(by show 13 ≤ sizeLine; decide), fun m nm => ?_⟩⟩⟩⟩⟩⟩⟩⟩⟩⟩⟩⟩
        have u12 := same_new nm (.lst [.ref l1, .non, .int 0, .int 1, .bl true, .str "", .str "o", .str "()", .ref l2, .ref t2, .ref t4, .ref t6, .ref t8])
        have u11 := (same_new nt8 _).trans u12
        have u10 := (same_new nl3 _).trans u11
        have u9 := (same_new nt7 _).trans u10
        have u8 := (same_new nt6 _).trans u9
        have u7 := (same_new nt5 _).trans u8
        have u6 := (same_new nt4 _).trans u7
        have u5 := (same_new nt3 _).trans u6
        have u4 := (same_new nt2 _).trans u5
        have u3 := (same_new nl2 _).trans u4
        have u2 := (same_new nt1 _).trans u3
        have u1 := (same_new nl1 _).trans u2
        have xM := u1 _ _ hx1
        have rvM := rv1.mono (kx_same u1)
        have hnb : b ≠ m := by
          obtain ⟨bs, hbs⟩ := (hB1.same ((same_new nl1 _).trans ((same_new nt1 _).trans ((same_new nl2 _).trans ((same_new nt2 _).trans ((same_new nt3 _).trans ((same_new nt4 _).trans ((same_new nt5 _).trans ((same_new nt6 _).trans ((same_new nt7 _).trans ((same_new nl3 _).trans (same_new nt8 _)))))))))))).lst
          exact ne_of_none hbs nm
        have RM := menu_reps (u2 _ _ upd_same) (u3 _ _ upd_same) (u4 _ _ upd_same) (u5 _ _ upd_same) (u6 _ _ upd_same) (u7 _ _ upd_same) (u8 _ _ upd_same) (u9 _ _ upd_same) (u10 _ _ upd_same) (u11 _ _ upd_same) (u12 _ _ upd_same) rvM
        have hBM := hB1.same u1
        refine ⟨_, rfl, _, rfl, _, rfl, m, _, rfl, .inl (SqL.of upd_same), b, c, 13, rfl, hBM, by decide, fun r2 H8 hr20 hr213 hB8 sb8 => ?_⟩
        obtain ⟨y, e, hy, re, me⟩ := pick RM hr20 hr213
        refine ⟨m, _, _, y, rfl, rfl, SqL.of (sb8 _ _ hnb.symm upd_same), hy, ?_⟩
        obtain ⟨q1, q2⟩ := menu_small me
        exact q y e H8 (re.mono (box_kx hBM hB8 sb8)) (by have : sz (.tup ts) = szs ts + 1 := rfl; omega) q2 hB8 (sb1.trans ((sb_same u1).trans sb8))
end
end Pk

set_option maxRecDepth 100000
set_option maxHeartbeats 4000000
namespace Pk
open PySem PySem.Spec PyProof.Rows L2
/-! ### places and what stands there -/
mutual
theorem noL_kind : ∀ {d : D}, isK d = true → noL d = true
  | .at _, h => by cases h
  | .lst, h => by cases h
  | .tup ts, h => noLs_kinds (l := ts) h
theorem noLs_kinds : ∀ {l : List D}, isKs l = true → noLs l = true
  | [], _ => rfl
  | t :: r, h => by
    have k := Bool.and_eq_true_iff.mp h
    show (noL t && noLs r) = true
    rw [noL_kind k.1, noLs_kinds k.2]
    rfl
end
theorem noLs_of : ∀ {l : List D}, (∀ d ∈ l, noL d = true) → noLs l = true
  | [], _ => rfl
  | t :: r, h => by
    show (noL t && noLs r) = true
    rw [h t (List.mem_cons_self ..), noLs_of fun d hd => h d (List.mem_cons_of_mem _ hd)]
    rfl
theorem noL_place (p : List Nat) : noL (placeD p) = true := noLs_of fun d hd => by
  obtain ⟨k, _, rfl⟩ := List.mem_map.mp hd
  rfl
theorem szs_ints : ∀ p : List Nat, szs (p.map fun k => .at (.int (k : Nat))) = p.length
  | [] => rfl
  | k :: r => by
    show 1 + szs (r.map fun k => .at (.int (k : Nat))) = r.length + 1
    rw [szs_ints r]
    omega
theorem deps_ints : ∀ p : List Nat, deps (p.map fun k => .at (.int (k : Nat))) ≤ 1
  | [] => Nat.zero_le _
  | k :: r => by
    have := deps_ints r
    show max (0 + 1) (deps (r.map fun k => .at (.int (k : Nat)))) ≤ 1
    omega
theorem szs_le {n : Nat} : ∀ l : List D, (∀ d ∈ l, sz d ≤ n) → szs l ≤ l.length * n
  | [], _ => by rw [List.length_nil, Nat.zero_mul]; exact Nat.le_refl _
  | t :: r, h => by
    have h1 := h t (List.mem_cons_self ..)
    have h2 := szs_le r fun d hd => h d (List.mem_cons_of_mem _ hd)
    show sz t + szs r ≤ (r.length + 1) * n
    rw [Nat.succ_mul]
    omega
theorem deps_le {n : Nat} : ∀ l : List D, (∀ d ∈ l, dep d + 1 ≤ n) → deps l ≤ n
  | [], _ => Nat.zero_le _
  | t :: r, h => by
    have h1 := h t (List.mem_cons_self ..)
    have h2 := deps_le r fun d hd => h d (List.mem_cons_of_mem _ hd)
    show max (dep t + 1) (deps r) ≤ n
    omega
theorem atD_append : ∀ (p r : List Nat) (d e : D), atD d p = some e → atD d (p ++ r) = atD e r
  | [], r, d, e, h => by
    have e0 : atD d [] = some d := by
      cases d <;> rfl
    rw [e0] at h
    rw [Option.some.inj h]
    rfl
  | k :: p, r, d, e, h => by
    cases d with
    | «at» _ => cases h
    | lst => cases h
    | tup ts =>
      cases ht : ts[k]? with
      | none =>
        rw [atD_none ht] at h
        cases h
      | some t =>
        rw [atD_some ht] at h
        show atD (.tup ts) (k :: (p ++ r)) = atD e r
        rw [atD_some ht]
        exact atD_append p r t e h
theorem atD_small : ∀ (p : List Nat) (d e : D), atD d p = some e → dep e ≤ dep d ∧ sz e ≤ sz d
  | [], d, e, h => by
    have e0 : atD d [] = some d := by
      cases d <;> rfl
    rw [e0] at h
    rw [Option.some.inj h]
    exact ⟨Nat.le_refl _, Nat.le_refl _⟩
  | k :: p, d, e, h => by
    cases d with
    | «at» _ => cases h
    | lst => cases h
    | tup ts =>
      cases ht : ts[k]? with
      | none =>
        rw [atD_none ht] at h
        cases h
      | some t =>
        rw [atD_some ht] at h
        obtain ⟨a, b⟩ := atD_small p t e h
        have m : t ∈ ts := List.mem_of_getElem? ht
        have h1 := dep_mem m
        have h2 := sz_mem m
        exact ⟨by show dep e ≤ deps ts; omega, by show sz e ≤ szs ts + 1; omega⟩
theorem at_over {p : List Nat} {d : D} {ts : List D} {k : Nat} {r : List Nat} (h : atD d p = some (.tup ts)) (hk : ts.length ≤ k) : atD d (p ++ (k :: r)) = none := by
  rw [atD_append p _ d _ h]
  exact atD_none (List.getElem?_eq_none_iff.mpr hk)
mutual
theorem pl_at : ∀ (d : D) (p : List Nat), p ∈ pl d → ∃ ts, atD d p = some (.tup ts)
  | .at _, p, h => by cases h
  | .lst, p, h => by cases h
  | .tup ts, p, h => by
    rcases List.mem_cons.mp h with e | h
    · subst e
      exact ⟨ts, rfl⟩
    · obtain ⟨i, q, t, rfl, ht, us, hu⟩ := pls_at ts 0 p h
      rw [Nat.zero_add] at *
      exact ⟨us, by rw [atD_some ht]; exact hu⟩
theorem pls_at : ∀ (l : List D) (k : Nat) (p : List Nat), p ∈ pls k l → ∃ i q t, p = (k + i) :: q ∧ l[i]? = some t ∧ ∃ ts, atD t q = some (.tup ts)
  | [], _, p, h => by cases h
  | t :: r, k, p, h => by
    rcases List.mem_append.mp h with h | h
    · obtain ⟨q, hq, e⟩ := List.mem_map.mp h
      exact ⟨0, q, t, e.symm, rfl, pl_at t q hq⟩
    · obtain ⟨i, q, u, e, hu, hx⟩ := pls_at r (k + 1) p h
      exact ⟨i + 1, q, u, by rw [e, show k + 1 + i = k + (i + 1) by omega], hu, hx⟩
end
section
variable {P : Program} {w : World} {K : PySem.W.Frag} {mg : Str → Option Value} {base : Heap}
def spRight : Sp := fun vs H Q _ => ∃ (v : V) (d : D), vs = [v] ∧ Rep H v d ∧ isK d = true ∧ dep d < 5 ∧ sz d ≤ 100 ∧ ∀ H', Same H H' → Q (.bl true) H'
theorem ok_right {f : Addr} {fd : FuncData} {f1 f2 f3 f4 f5 f6 f7 f8 : Addr} {d1 d2 d3 d4 d5 d6 d7 d8 : FuncData} (D__law_right : Df K mg "_law_right" s__law_right ["kind"] f fd) (B : Bt mg)
    (D__law_places : Df K mg "_law_places" s__law_places ["kind"] f1 d1) (D_is_kind : Df K mg "is_kind" s_is_kind ["value"] f2 d2) (D__law_same : Df K mg "_law_same" s__law_same ["actual", "expected"] f3 d3)
    (D_places : Df K mg "places" s_places ["kind"] f4 d4) (D_depth : Df K mg "depth" s_depth ["kind"] f5 d5) (D__law_deep : Df K mg "_law_deep" s__law_deep ["kind"] f6 d6)
    (D__law_at : Df K mg "_law_at" s__law_at ["kind", "place"] f7 d7) (D_kind_at : Df K mg "kind_at" s_kind_at ["kind", "place"] f8 d8) : FnOk P w K mg base CX0 6 f fd ["kind"] spRight := by
  have G__law_places : FnOk P w K mg base CX0 5 f1 d1 ["kind"] (spLPl 5) := ok_lpl D__law_places B 5
  have G_is_kind : FnOk P w K mg base CX0 1 f2 d2 ["value"] spIK := ok_ik D_is_kind B
  have G__law_same : FnOk P w K mg base CX0 5 f3 d3 ["actual", "expected"] (spSame 5) := ok_same D__law_same B 5
  have G_places : FnOk P w K mg base CX0 1 f4 d4 ["kind"] spPlaces := ok_places D_places B
  have G_depth : FnOk P w K mg base CX0 1 f5 d5 ["kind"] spDepth := ok_depth D_depth B
  have G__law_deep : FnOk P w K mg base CX0 5 f6 d6 ["kind"] (spLDeep 5) := ok_ldeep D__law_deep B 5
  have G__law_at : FnOk P w K mg base CX0 1 f7 d7 ["kind", "place"] spAt := ok_at D__law_at B
  have G_kind_at : FnOk P w K mg base CX0 1 f8 d8 ["kind", "place"] spAt := ok_kat D_kind_at B
  refine D__law_right.ok c__law_right (fun vs H Q E h => ?_) (fun cdv A outer s H vs Q E hr h => ?_)
  · obtain ⟨v, d, rfl, _⟩ := h
    rfl
  obtain ⟨v, d, rfl, rv, hk, hdp, hsz, q⟩ := h
  have nd := c__law_right.nd
  refine ⟨_, (pss_cons (ps_set (i := 1) nd rfl (Or.inl rfl) (pe_call G__law_places (hr.mono (by first | decide | omega)) (by rfl) D__law_places.m D__law_places.kp D__law_places.b .nil pass0 (pa_cons (pv 0) pa_nil)))
  (pss_cons (ps_if (PW.pt (pw_or (pt_cmpR op_isnot_bl (pe_call G_is_kind (hr.mono (by first | decide | omega)) (by rfl) D_is_kind.m D_is_kind.kp D_is_kind.b .nil pass0 (pa_cons (pv 0) pa_nil)) pe_bl (nomark _)) (pw_or1 (pt_not (pt_val (pe_call G__law_same (hr.mono (by first | decide | omega)) (by rfl) D__law_same.m D__law_same.kp D__law_same.b .nil pass0 (pa_cons (pe_call G_places (hr.mono (by first | decide | omega)) (by rfl) D_places.m D_places.kp D_places.b .nil pass0 (pa_cons (pv 0) pa_nil)) (pa_cons (pe_callTy call_tuple_of (by rfl) B.b_tuple (by decide +kernel) (pa_cons (pv 1) pa_nil)) pa_nil)))))))) (pss_one (ps_ret pe_bl)) pss_nil)
  (pss_cons (ps_if (pt_not (pt_val (pe_call G__law_same (hr.mono (by first | decide | omega)) (by rfl) D__law_same.m D__law_same.kp D__law_same.b .nil pass0 (pa_cons (pe_call G_depth (hr.mono (by first | decide | omega)) (by rfl) D_depth.m D_depth.kp D_depth.b .nil pass0 (pa_cons (pv 0) pa_nil)) (pa_cons (pe_call G__law_deep (hr.mono (by first | decide | omega)) (by rfl) D__law_deep.m D__law_deep.kp D__law_deep.b .nil pass0 (pa_cons (pv 0) pa_nil)) pa_nil))))) (pss_one (ps_ret pe_bl)) pss_nil)
  (pss_cons (ps_for PassesOwn.never rfl (pi_list (pv 1)) (pg_name (i := 2) nd rfl (Or.inl rfl)) (pss_cons (ps_set (i := 3) nd rfl (Or.inl rfl) (pe_call G__law_at (hr.mono (by first | decide | omega)) (by rfl) D__law_at.m D__law_at.kp D__law_at.b .nil pass0 (pa_cons (pv 0) (pa_cons (pv 2) pa_nil))))
  (pss_cons (ps_set (i := 4) nd rfl (Or.inl rfl) (pe_callB call_len_seq (by rfl) B.b_len PySem.boot_len (pa_cons (pv 3) pa_nil)))
  (pss_cons (ps_if (pt_not (pt_val (pe_call G__law_same (hr.mono (by first | decide | omega)) (by rfl) D__law_same.m D__law_same.kp D__law_same.b .nil pass0 (pa_cons (pe_call G_kind_at (hr.mono (by first | decide | omega)) (by rfl) D_kind_at.m D_kind_at.kp D_kind_at.b .nil pass0 (pa_cons (pv 0) (pa_cons (pv 2) pa_nil))) (pa_cons (pv 3) pa_nil))))) (pss_one (ps_ret pe_bl)) pss_nil)
  (pss_one (ps_if (PW.pt (pw_or (pt_cmpR op_notN (pe_call G_kind_at (hr.mono (by first | decide | omega)) (by rfl) D_kind_at.m D_kind_at.kp D_kind_at.b .nil pass0 (pa_cons (pv 0) (pa_cons (pe_op op_catR (pv 2) (pe_tup (pa_cons (pv 4) pa_nil))) pa_nil))) pe_non (nomark _)) (pw_or1 (pt_cmpR op_notN (pe_call G_kind_at (hr.mono (by first | decide | omega)) (by rfl) D_kind_at.m D_kind_at.kp D_kind_at.b .nil pass0 (pa_cons (pv 0) (pa_cons (pe_op op_catR (pv 2) (pe_tup (pa_cons (pe_op op_add (pv 4) pe_int) (pa_cons pe_int pa_nil)))) pa_nil))) pe_non (nomark _))))) (pss_one (ps_ret pe_bl)) pss_nil))))))
  (pss_one (ps_ret pe_bl)))))), ?_⟩
  have cnt := pl_count d hk
  have psz : szs ((pl d).map placeD) ≤ 600 := by
    have := szs_le (n := 6) ((pl d).map placeD) fun e he => by
      obtain ⟨p, hp, rfl⟩ := List.mem_map.mp he
      have := pl_len d p hp
      show szs (p.map fun k => .at (.int (k : Nat))) + 1 ≤ 6
      rw [szs_ints]
      omega
    rw [List.length_map] at this
    omega
  have pdp : deps ((pl d).map placeD) ≤ 2 := deps_le _ fun e he => by
    obtain ⟨p, hp, rfl⟩ := List.mem_map.mp he
    have := deps_ints p
    show deps (p.map fun k => .at (.int (k : Nat))) + 1 ≤ 2
    omega
  refine ⟨_, rfl, v, d, rfl, rv, hk, by omega, by omega, fun r H1 rows s1 hr1 rrows => ?_⟩
  have lrows := rrows.length
  rw [List.length_map] at lrows
  have rv1 := rv.mono (kx_same s1)
  refine ⟨_, rfl, v, d, rfl, rv1, by omega, fun H2 s2 => ?_⟩
  rw [hk]
  refine ⟨_, _, rfl, rfl, _, rfl, iteF ?_⟩
  refine ⟨_, rfl, v, d, rfl, rv1.mono (kx_same s2), hk, by omega, fun x3 H3 s3 rx3 => ?_⟩
  have s13 := s2.trans s3
  refine ⟨_, rfl, r, rows, rfl, .inl ⟨SqL.of (s13 _ _ hr1), fun t nt => ?_⟩⟩
  have s4 := same_new nt (.tup rows)
  have s14 := s13.trans s4
  refine ⟨_, _, _, .tup ((pl d).map placeD), rfl, rx3.mono (kx_same s4), .tup upd_same (rrows.mono (kx_same s14)), noLs_of (fun e he => ?_), by show deps ((pl d).map placeD) < 5; omega, by show szs ((pl d).map placeD) + 1 + 0 ≤ 1000000; omega, fun b hb => ?_⟩
  · obtain ⟨p, _, rfl⟩ := List.mem_map.mp he
    exact noL_place p
  rw [hb.mpr rfl]
  refine ⟨_, rfl, iteF ?_⟩
  generalize upd H3 t (.tup rows) = H4 at *
  refine ⟨_, rfl, v, d, rfl, rv1.mono (kx_same s14), hk, by omega, fun H5 s5 => ?_⟩
  have s15 := s14.trans s5
  refine ⟨_, rfl, v, d, rfl, rv1.mono (kx_same s15), hk, by omega, by omega, fun H6 s6 => ?_⟩
  have s16 := s15.trans s6
  refine ⟨_, _, .at (.int (dep d)), .at (.int (dep d)), rfl, .at rfl, .at rfl, rfl, by show 0 < 5; omega, by show 1 + 0 ≤ 1000000; omega, fun b2 hb2 => ?_⟩
  rw [hb2.mpr rfl]
  refine ⟨_, rfl, iteF ?_⟩
  refine ⟨_, rfl, r, rfl, ⟨_, SqL.of (s16 _ _ hr1)⟩, for_list (K := K) (a := r) (xs := rows) (fun i σ H' => Same H1 H' ∧ ∃ (y2 y3 y4 : Option V), σ = [some v, some (.ref r), y2, y3, y4])
    ⟨s16, none, none, none, rfl⟩ (fun i σ H' _ h => SqL.of (h.1 _ _ hr1)) ?_ ?_⟩
  · rintro i x σ H7 hi ⟨s7, y2, y3, y4, rfl⟩
    obtain ⟨pd, hpd, rp⟩ := rrows.get hi
    rw [List.getElem?_map] at hpd
    obtain ⟨p, hp, rfl⟩ := Option.map_eq_some_iff.mp hpd
    have mp : p ∈ pl d := List.mem_of_getElem? hp
    have lp := pl_len d p mp
    obtain ⟨ts, hts⟩ := pl_at d p mp
    have rv7 := rv1.mono (kx_same s7)
    have rp7 := rp.mono (kx_same s7)
    refine ⟨_, rfl, _, rfl, v, x, d, p, rfl, rv7, hk, rp7, fun z hz => ?_⟩
    unfold AtIs at hz
    rw [hts] at hz
    obtain ⟨rz, kz⟩ := hz
    obtain ⟨a, ys, rfl, ha, ry⟩ := rz.inv
    have ly := ry.length
    refine ⟨_, rfl, a, ys, rfl, .inr (SqT.of ha), ?_⟩
    refine ⟨_, rfl, _, rfl, v, x, d, p, rfl, rv7, hk, rp7, fun z2 hz2 => ?_⟩
    unfold AtIs at hz2
    rw [hts] at hz2
    refine ⟨_, rfl, _, _, .tup ts, .tup ts, rfl, hz2.1, rz, noL_kind kz, ?_, ?_, fun b3 hb3 => ?_⟩
    · have := (atD_small p d _ hts).1
      omega
    · have := (atD_small p d _ hts).2
      show sz (.tup ts) + 0 ≤ 1000000
      omega
    rw [hb3.mpr rfl]
    refine ⟨_, rfl, iteF ?_⟩
    obtain ⟨b, bs, rfl, hbx, rbs⟩ := rp7.inv
    have lbs := rbs.length
    rw [List.length_map] at lbs
    refine ⟨_, rfl, _, rfl, _, rfl, (by show 1 ≤ sizeLine; decide), fun t1 nt1 => ?_⟩
    have s8 := same_new nt1 (.tup [.int ((ys.length : Nat) : Int)])
    refine ⟨b, t1, bs, _, rfl, rfl, s8 _ _ hbx, upd_same, small6' (by show bs.length + 1 ≤ 1000000; omega), fun c1 H9 s9 hc1 => ?_⟩
    have s79 := s8.trans s9
    refine ⟨v, _, d, p ++ [ys.length], rfl, rv7.mono (kx_same s79), hk, .tup hc1 (by rw [List.map_append]; exact (rbs.mono (kx_same s79)).append (.one (.at rfl))), fun z3 hz3 => ?_⟩
    unfold AtIs at hz3
    rw [at_over hts (by omega)] at hz3
    subst hz3
    refine ⟨rfl, _, rfl, iteF ?_⟩
    refine ⟨_, rfl, _, rfl, _, rfl, _, _, rfl, rfl, (by show 2 ≤ sizeLine; decide), fun t2 nt2 => ?_⟩
    have s10 := same_new nt2 (.tup [.int (((ys.length : Nat) : Int) + 1), .int 0])
    refine ⟨b, t2, bs, _, rfl, rfl, s10 _ _ (s79 _ _ hbx), upd_same, small6' (by show bs.length + 2 ≤ 1000000; omega), fun c2 H11 s11 hc2 => ?_⟩
    have s71 := (s79.trans s10).trans s11
    refine ⟨v, _, d, p ++ [ys.length + 1, 0], rfl, rv7.mono (kx_same s71), hk, .tup hc2 (by rw [List.map_append]; exact (rbs.mono (kx_same s71)).append (.cons (.at rfl) (.one (.at rfl)))), fun z4 hz4 => ?_⟩
    unfold AtIs at hz4
    rw [at_over hts (by omega)] at hz4
    subst hz4
    exact ⟨rfl, _, rfl, iteF ⟨s7.trans s71, _, _, _, rfl⟩⟩
  · rintro σ H7 ⟨s7, y2, y3, y4, rfl⟩
    exact q H7 (s1.trans s7)
end
/-! ### the law -/
theorem Reps.rep {H : Hp} {xs : List V} {ds : List D} (h : Reps H xs ds) : ∀ k : Nat, Reps H (List.replicate k xs).flatten (List.replicate k ds).flatten
  | 0 => .nil
  | k + 1 => by
    rw [List.replicate_succ, List.replicate_succ, List.flatten_cons, List.flatten_cons]
    exact h.append (Reps.rep h k)
theorem szs_rep (l : List D) : ∀ k : Nat, szs (List.replicate k l).flatten = k * szs l
  | 0 => by rw [Nat.zero_mul]; rfl
  | k + 1 => by
    rw [List.replicate_succ, List.flatten_cons, szs_append, szs_rep l k, Nat.succ_mul]
    omega
theorem deps_rep (l : List D) : ∀ k : Nat, deps (List.replicate k l).flatten ≤ deps l
  | 0 => Nat.zero_le _
  | k + 1 => by
    rw [List.replicate_succ, List.flatten_cons, deps_append]
    have := deps_rep l k
    omega
theorem len_rep {α : Type} (l : List α) : ∀ k : Nat, (List.replicate k l).flatten.length = k * l.length
  | 0 => by rw [Nat.zero_mul]; rfl
  | k + 1 => by
    rw [List.replicate_succ, List.flatten_cons, List.length_append, len_rep l k, Nat.succ_mul]
    omega
/-- the kinds of the law -/
def Small (d : D) : Prop := isK d = true ∧ dep d ≤ 3 ∧ sz d ≤ 12
/-- the values of the law -/
def Val (n m : Nat) (d : D) : Prop := dep d ≤ n ∧ sz d ≤ m
theorem tri_reps {M : Hp} {x : V} {e : D} {t1 t2 t3 t4 t5 t6 t7 : Addr} (h1 : M t1 = some (.tup [x])) (h2 : M t2 = some (.tup [])) (h3 : M t3 = some (.tup [.ref t2, x])) (h4 : M t4 = some (.tup [])) (h5 : M t5 = some (.tup [])) (h6 : M t6 = some (.tup [.ref t5]))
    (h7 : M t7 = some (.tup [x, .ref t4, .ref t6])) (r : Rep M x e) : Reps M [.ref t1, .ref t3, .ref t7] [.tup [e], .tup [.tup [], e], .tup [e, .tup [], .tup [.tup []]]] :=
  .cons (.tup h1 (.one r)) (.cons (.tup h3 (.cons (.tup h2 .nil) (.one r))) (.one (.tup h7 (.cons r (.cons (.tup h4 .nil) (.one (.tup h6 (.one (.tup h5 .nil)))))))))
theorem tri_val {n m : Nat} {e f : D} (h : f ∈ ([.tup [e], .tup [.tup [], e], .tup [e, .tup [], .tup [.tup []]]] : List D)) (v : Val n m e) : Val (n + 2) (m + 4) f := by
  simp only [List.mem_cons, List.not_mem_nil, or_false] at h
  unfold Val at *
  rcases h with rfl | rfl | rfl <;> simp only [sz, szs, dep, deps] <;> omega
section
variable {P : Program} {w : World} {K : PySem.W.Frag} {mg : Str → Option Value} {base : Heap}
def spLaw (K : PySem.W.Frag) : Sp := fun vs H Q _ => ∃ (a : Addr) (ns : List Int), vs = [.ref a] ∧ SqL K H a (ns.map V.int) ∧ ns.length ≤ 63 ∧ ∀ H', Q (.bl true) H'
theorem ok_law {f : Addr} {fd : FuncData} {f1 f2 f3 f4 f5 f6 f7 f8 f9 f10 f11 f12 f13 f14 f15 f16 : Addr} {d1 d2 d3 d4 d5 d6 d7 d8 d9 d10 d11 d12 d13 d14 d15 d16 : FuncData} (D_law : Df K mg "law" s_law ["script"] f fd) (B : Bt mg)
    (D__law_places : Df K mg "_law_places" s__law_places ["kind"] f1 d1) (D_is_kind : Df K mg "is_kind" s_is_kind ["value"] f2 d2) (D__law_same : Df K mg "_law_same" s__law_same ["actual", "expected"] f3 d3)
    (D_places : Df K mg "places" s_places ["kind"] f4 d4) (D_depth : Df K mg "depth" s_depth ["kind"] f5 d5) (D__law_deep : Df K mg "_law_deep" s__law_deep ["kind"] f6 d6)
    (D__law_at : Df K mg "_law_at" s__law_at ["kind", "place"] f7 d7) (D_kind_at : Df K mg "kind_at" s_kind_at ["kind", "place"] f8 d8)
    (D__law_cell : Df K mg "_law_cell" s__law_cell ["script", "k"] f9 d9) (D__law_digits : Df K mg "_law_digits" s__law_digits ["script", "first", "last"] f10 d10) (D__law_draw : Df K mg "_law_draw" s__law_draw ["box", "many"] f11 d11)
    (D__law_box : Df K mg "_law_box" s__law_box ["script", "first", "last"] f12 d12) (D__law_kind_deep : Df K mg "_law_kind_deep" s__law_kind_deep ["box", "deep", "budget"] f13 d13) (D__law_is_kind : Df K mg "_law_is_kind" s__law_is_kind ["value"] f14 d14)
    (D__law_spoilt_kind : Df K mg "_law_spoilt_kind" s__law_spoilt_kind ["box", "value"] f15 d15) (D__law_right : Df K mg "_law_right" s__law_right ["kind"] f16 d16) : FnOk P w K mg base CX0 121 f fd ["script"] (spLaw K) := by
  have G_is_kind : FnOk P w K mg base CX0 1 f2 d2 ["value"] spIK := ok_ik D_is_kind B
  have G__law_same : FnOk P w K mg base CX0 5 f3 d3 ["actual", "expected"] (spSame 5) := ok_same D__law_same B 5
  have G__law_draw : FnOk P w K mg base CX0 1 f11 d11 ["box", "many"] spDraw := ok_draw D__law_draw B
  have G__law_box : FnOk P w K mg base CX0 3 f12 d12 ["script", "first", "last"] (spBox K) := ok_box D__law_box D__law_digits D__law_cell B
  have G__law_kind_deep : FnOk P w K mg base CX0 5 f13 d13 ["box", "deep", "budget"] (spDeep 4) := ok_deep D__law_kind_deep D__law_draw B 4
  have G__law_is_kind : FnOk P w K mg base CX0 120 f14 d14 ["value"] (spIsK 120) := ok_isK D__law_is_kind B 120
  have G__law_spoilt_kind : FnOk P w K mg base CX0 6 f15 d15 ["box", "value"] (spSpoilt 5) := ok_spoilt D__law_spoilt_kind D__law_draw B 5
  have G__law_right : FnOk P w K mg base CX0 6 f16 d16 ["kind"] spRight := ok_right D__law_right B D__law_places D_is_kind D__law_same D_places D_depth D__law_deep D__law_at D_kind_at
  refine D_law.ok c_law (fun vs H Q E h => ?_) (fun cdv A outer s H vs Q E hr h => ?_)
  · obtain ⟨a, ns, rfl, _⟩ := h
    rfl
  obtain ⟨a, ns, rfl, hS, hns, q⟩ := h
  have nd := c_law.nd
  refine ⟨_, (pss_cons (ps_set (i := 1) nd rfl (Or.inl rfl) (pe_call G__law_box (hr.mono (by first | decide | omega)) (by rfl) D__law_box.m D__law_box.kp D__law_box.b .nil pass0 (pa_cons (pv 0) (pa_cons pe_int (pa_cons pe_int pa_nil)))))
  (pss_cons (ps_set (i := 2) nd rfl (Or.inl rfl) (pe_lst pa_nil))
  (pss_cons (ps_for PassesOwn.never rfl (pi_range1 (by rfl) B.b_range (pa_cons pe_int pa_nil)) (pg_name (i := 3) nd rfl (Or.inl rfl)) (pss_cons (ps_set (i := 4) nd rfl (Or.inl rfl) (pe_call G__law_kind_deep (hr.mono (by first | decide | omega)) (by rfl) D__law_kind_deep.m D__law_kind_deep.kp D__law_kind_deep.b .nil pass0 (pa_cons (pv 1) (pa_cons (pe_call G__law_draw (hr.mono (by first | decide | omega)) (by rfl) D__law_draw.m D__law_draw.kp D__law_draw.b .nil pass0 (pa_cons (pv 1) (pa_cons pe_int pa_nil))) (pa_cons (pe_lst (pa_cons (pe_call G__law_draw (hr.mono (by first | decide | omega)) (by rfl) D__law_draw.m D__law_draw.kp D__law_draw.b .nil pass0 (pa_cons (pv 1) (pa_cons pe_int pa_nil))) pa_nil)) pa_nil)))))
  (pss_cons (ps_expr (pe_bm PySem.F.plainAttrs_list PySem.F.slot_list_append PySem.F.type_list_append mt_append (pv 2) (pa_cons (pv 4) pa_nil)))
  (pss_cons (ps_if (pt_not (pt_val (pe_call G__law_right (hr.mono (by first | decide | omega)) (by rfl) D__law_right.m D__law_right.kp D__law_right.b .nil pass0 (pa_cons (pv 4) pa_nil)))) (pss_one (ps_ret pe_bl)) pss_nil)
  (pss_one (ps_for PassesOwn.never rfl (pi_range1 (by rfl) B.b_range (pa_cons pe_int pa_nil)) (pg_name (i := 5) nd rfl (Or.inl rfl)) (pss_cons (ps_set (i := 6) nd rfl (Or.inl rfl) (pe_call G__law_spoilt_kind (hr.mono (by first | decide | omega)) (by rfl) D__law_spoilt_kind.m D__law_spoilt_kind.kp D__law_spoilt_kind.b .nil pass0 (pa_cons (pv 1) (pa_cons (pv 4) pa_nil))))
  (pss_one (ps_if (pt_not (pt_val (pe_call G__law_same (hr.mono (by first | decide | omega)) (by rfl) D__law_same.m D__law_same.kp D__law_same.b .nil pass0 (pa_cons (pe_call G_is_kind (hr.mono (by first | decide | omega)) (by rfl) D_is_kind.m D_is_kind.kp D_is_kind.b .nil pass0 (pa_cons (pv 6) pa_nil)) (pa_cons (pe_call G__law_is_kind (hr.mono (by first | decide | omega)) (by rfl) D__law_is_kind.m D__law_is_kind.kp D__law_is_kind.b .nil pass0 (pa_cons (pv 6) pa_nil)) pa_nil))))) (pss_one (ps_ret pe_bl)) pss_nil)))))))))
  (pss_cons (ps_for PassesOwn.never rfl (pi_list (pv 2)) (pg_name (i := 4) nd rfl (Or.inl rfl)) (pss_one (ps_if (pt_not (pt_val (pe_call G__law_right (hr.mono (by first | decide | omega)) (by rfl) D__law_right.m D__law_right.kp D__law_right.b .nil pass0 (pa_cons (pv 4) pa_nil)))) (pss_one (ps_ret pe_bl)) pss_nil)))
  (pss_cons (ps_set (i := 7) nd rfl (Or.inl rfl) (pe_lst (pa_cons (pe_ix ix_list (pv 2) pe_int (fun _ _ => rfl)) (pa_cons (pe_call G__law_spoilt_kind (hr.mono (by first | decide | omega)) (by rfl) D__law_spoilt_kind.m D__law_spoilt_kind.kp D__law_spoilt_kind.b .nil pass0 (pa_cons (pv 1) (pa_cons (pe_ix ix_list (pv 2) pe_int (fun _ _ => rfl)) pa_nil))) (pa_cons (pe_ix ix_list (pv 2) pe_int (fun _ _ => rfl)) pa_nil)))))
  (pss_cons (ps_for PassesOwn.never rfl (pi_range1 (by rfl) B.b_range (pa_cons (pe_op op_add pe_int (pe_call G__law_draw (hr.mono (by first | decide | omega)) (by rfl) D__law_draw.m D__law_draw.kp D__law_draw.b .nil pass0 (pa_cons (pv 1) (pa_cons pe_int pa_nil)))) pa_nil)) (pg_name (i := 3) nd rfl (Or.inl rfl)) (pss_cons (ps_set (i := 8) nd rfl (Or.inr rfl) (pe_call G__law_draw (hr.mono (by first | decide | omega)) (by rfl) D__law_draw.m D__law_draw.kp D__law_draw.b .nil pass0 (pa_cons (pv 1) (pa_cons pe_int pa_nil))))
  (pss_one (ps_setLc (i := 7) (own := [("value", 6)]) (g := (gName 6)) (tt := tYes) rfl nd rfl rfl (sw_true rfl rfl rfl (by decide +kernel)) (pi_list (pv 7)) (blkOk_by (own := [("value", 6)]) (N := ["script", "box", "found", "turn", "kind", "step", "value", "great", "pick"]) (sc := defScope s_law) (by decide +kernel)) (fun _ _ _ _ _ => (pg_name (i := 6) nd rfl (Or.inl rfl))) (fun _ _ _ _ _ => pts_nil) (fun _ _ _ _ _ => (pe_ix (show IxR _ (rIxL K) from ix_list) (pe_lst (pa_cons (pe_tup (pa_cons (pv 6) pa_nil)) (pa_cons (pe_tup (pa_cons (pe_tup pa_nil) (pa_cons (pv 6) pa_nil))) (pa_cons (pe_tup (pa_cons (pv 6) (pa_cons (pe_tup pa_nil) (pa_cons (pe_tup (pa_cons (pe_tup pa_nil) pa_nil)) pa_nil)))) pa_nil)))) (pv 8) (fun _ _ => rfl)))))))
  (pss_cons (ps_for PassesOwn.never rfl (pi_list (pe_op op_cat (pv 7) (pe_lst (pa_cons (pe_op op_catR (pe_op op_repR (pe_ix ix_list (pv 2) pe_int (fun _ _ => rfl)) pe_int) (pe_op op_repR (pe_tup (pa_cons (pe_tup pa_nil) pa_nil)) pe_int)) (pa_cons (pe_op op_catR (pe_op op_repR (pe_tup (pa_cons (pe_ix ix_list (pv 2) pe_int (fun _ _ => rfl)) pa_nil)) pe_int) (pe_tup (pa_cons pe_non pa_nil))) pa_nil))))) (pg_name (i := 6) nd rfl (Or.inl rfl)) (pss_one (ps_if (pt_not (pt_val (pe_call G__law_same (hr.mono (by first | decide | omega)) (by rfl) D__law_same.m D__law_same.kp D__law_same.b .nil pass0 (pa_cons (pe_call G_is_kind (hr.mono (by first | decide | omega)) (by rfl) D_is_kind.m D_is_kind.kp D_is_kind.b .nil pass0 (pa_cons (pv 6) pa_nil)) (pa_cons (pe_call G__law_is_kind (hr.mono (by first | decide | omega)) (by rfl) D__law_is_kind.m D__law_is_kind.kp D__law_is_kind.b .nil pass0 (pa_cons (pv 6) pa_nil)) pa_nil))))) (pss_one (ps_ret pe_bl)) pss_nil)))
  (pss_one (ps_ret (pe_and (pe_cmpR op_is_bl (pe_call G_is_kind (hr.mono (by first | decide | omega)) (by rfl) D_is_kind.m D_is_kind.kp D_is_kind.b .nil pass0 (pa_cons (pe_lst pa_nil) pa_nil)) pe_bl (nomark _)) (pe_and (pe_cmpR op_is_bl (pe_call G_is_kind (hr.mono (by first | decide | omega)) (by rfl) D_is_kind.m D_is_kind.kp D_is_kind.b .nil pass0 (pa_cons pe_non pa_nil)) pe_bl (nomark _)) (pe_and (pe_cmpR op_is_bl (pe_call G_is_kind (hr.mono (by first | decide | omega)) (by rfl) D_is_kind.m D_is_kind.kp D_is_kind.b .nil pass0 (pa_cons pe_int pa_nil)) pe_bl (nomark _)) (pe_one (pe_cmpR op_is_bl (pe_call G_is_kind (hr.mono (by first | decide | omega)) (by rfl) D_is_kind.m D_is_kind.kp D_is_kind.b .nil pass0 (pa_cons pe_str pa_nil)) pe_bl (nomark _))))))))))))))), ?_⟩
  refine ⟨_, rfl, a, ns, 0, 62, rfl, hS, by omega, by omega, fun b c H1 _ _ _ hB1 => ⟨Nat.zero_le _, fun fl nfl => ?_⟩⟩
  obtain ⟨bs, hbs⟩ := hB1.lst
  obtain ⟨cs, hcs⟩ := hB1.dst
  have nbf : b ≠ fl := ne_of_none hbs nfl
  have ncf : c ≠ fl := ne_of_none hcs nfl
  have hB2 := hB1.same (same_new nfl (.lst []))
  have hf2 : (upd H1 fl (.lst [])) fl = some (.lst []) := upd_same
  generalize upd H1 fl (.lst []) = H2 at *
  refine ⟨5, rfl, by decide, by decide, for_range (n := 5) (fun i σ H' => ∃ (ks : List V) (ds : List D) (y3 y4 y5 y6 y7 y8 : Option V), σ = [some (.ref a), some (.ref b), some (.ref fl), y3, y4, y5, y6, y7, y8] ∧ BoxAt H' b c ∧ H' fl = some (.lst ks) ∧ Reps H' ks ds ∧ ds.length = i ∧ ∀ d ∈ ds, Small d)
    ⟨[], [], none, none, none, none, none, none, rfl, hB2, hf2, .nil, rfl, fun d hd => by cases hd⟩ ?_ ?_⟩
  · rintro i σ H3 hi ⟨ks, ds, y3, y4, y5, y6, y7, y8, rfl, hB3, hf3, rks, hlen, hsm⟩
    have lks := rks.length
    refine ⟨_, rfl, _, rfl, b, c, 4, rfl, hB3, by decide, fun r1 H4 r10 r14 hB4 sb4 => ⟨_, rfl, b, c, 12, rfl, hB4, by decide, fun r2 H5 r20 r212 hB5 sb5 => ⟨(by show 1 ≤ sizeLine; decide), fun u nu => ?_⟩⟩⟩
    obtain ⟨g, rfl⟩ : ∃ g : Nat, r2 = (g : Int) := ⟨r2.toNat, by omega⟩
    have s6 := same_new nu (.lst [.int (g : Int)])
    have hf5 := sb5 _ _ nbf.symm (sb4 _ _ nbf.symm hf3)
    have k35 := (box_kx hB3 hB4 sb4).trans (box_kx hB4 hB5 sb5)
    obtain ⟨bs5, hbs5⟩ := hB5.lst
    obtain ⟨cs5, hcs5⟩ := hB5.dst
    have nbu : b ≠ u := ne_of_none hbs5 nu
    have ncu : c ≠ u := ne_of_none hcs5 nu
    have nfu : fl ≠ u := ne_of_none hf5 nu
    refine ⟨b, c, u, r1, g, rfl, hB5.same s6, upd_same, r10, by omega, by omega, nbu, ncu, fun v H7 d g' rv kd dd sd hu7 hB7 sb7 => ?_⟩
    have k7 := sb2_kx (hB5.same s6) hB7 upd_same hu7 sb7
    have hf7 := sb7 _ _ nbf.symm nfu (s6 _ _ hf5)
    have rks7 := rks.mono (k35.trans ((kx_same s6).trans k7))
    refine ⟨_, rfl, .inl ⟨rfl, _, SqL.of hf7⟩, _, rfl, fl, ks, v, rfl, rfl, hf7, small6 (by omega), ?_⟩
    have k8 : Kx H7 (upd H7 fl (.lst (ks ++ [v]))) := kx_list hf7 _
    have hB8 : BoxAt (upd H7 fl (.lst (ks ++ [v]))) b c := hB7.other _ nbf.symm ncf.symm
    have hf8 : (upd H7 fl (.lst (ks ++ [v]))) fl = some (.lst (ks ++ [v])) := upd_same
    have rks8 := (rks7.mono k8).append (.one (rv.mono k8))
    have rv8 := rv.mono k8
    generalize upd H7 fl (.lst (ks ++ [v])) = H8 at *
    have smd : Small d := ⟨kd, by omega, by omega⟩
    have hsm8 : ∀ e ∈ ds ++ [d], Small e := fun e he => by
      rcases List.mem_append.mp he with he | he
      · exact hsm e he
      · rw [List.mem_singleton.mp he]
        exact smd
    refine ⟨_, rfl, v, d, rfl, rv8, kd, by omega, by omega, fun H9 s9 => ⟨_, rfl, iteF ?_⟩⟩
    refine ⟨3, rfl, by decide, by decide, for_range (n := 3) (fun j σ H' => ∃ (y3 y5 y6 y7 y8 : Option V), σ = [some (.ref a), some (.ref b), some (.ref fl), y3, some v, y5, y6, y7, y8] ∧ BoxAt H' b c ∧ H' fl = some (.lst (ks ++ [v])) ∧ Reps H' (ks ++ [v]) (ds ++ [d]) ∧ Rep H' v d)
      ⟨_, _, _, _, _, rfl, hB8.same s9, s9 _ _ hf8, rks8.mono (kx_same s9), rv8.mono (kx_same s9)⟩ ?_ ?_⟩
    · rintro j σ H10 hj ⟨y3, y5, y6, y7, y8, rfl, hB10, hf10, rks10, rv10⟩
      refine ⟨_, rfl, _, rfl, b, c, v, d, rfl, hB10, rv10, kd, by omega, by omega, by omega, fun z e H11 rz sze dpe hB11 sb11 => ?_⟩
      have k11 := box_kx hB10 hB11 sb11
      refine ⟨_, rfl, z, e, rfl, rz, by omega, fun H12 s12 => ⟨_, rfl, z, e, rfl, rz.mono (kx_same s12), by omega, by omega, fun H13 s13 => ?_⟩⟩
      refine ⟨_, _, .at (.bl (isK e)), .at (.bl (isK e)), rfl, .at rfl, .at rfl, rfl, by show 0 < 5; omega, by show 1 + 0 ≤ 1000000; omega, fun b2 hb2 => ?_⟩
      rw [hb2.mpr rfl]
      have s23 := s12.trans s13
      have kk := k11.trans (kx_same s23)
      exact ⟨_, rfl, iteF ⟨_, _, _, _, _, rfl, hB11.same s23, s23 _ _ (sb11 _ _ nbf.symm hf10), rks10.mono kk, rv10.mono kk⟩⟩
    · rintro σ H10 ⟨y3, y5, y6, y7, y8, rfl, hB10, hf10, rks10, rv10⟩
      exact ⟨ks ++ [v], ds ++ [d], _, _, _, _, _, _, rfl, hB10, hf10, rks10, by rw [List.length_append, List.length_singleton]; omega, hsm8⟩
  · rintro σ H3 ⟨ks, ds, y3, y4, y5, y6, y7, y8, rfl, hB3, hf3, rks, hlen, hsm⟩
    have lks := rks.length
    refine ⟨_, rfl, fl, rfl, ⟨_, SqL.of hf3⟩, for_list (K := K) (a := fl) (xs := ks) (fun i σ H' => Same H3 H' ∧ ∃ (y3 y4 y5 y6 y7 y8 : Option V), σ = [some (.ref a), some (.ref b), some (.ref fl), y3, y4, y5, y6, y7, y8])
      ⟨Same.refl _, _, _, _, _, _, _, rfl⟩ (fun i σ H' _ h => SqL.of (h.1 _ _ hf3)) ?_ ?_⟩
    · rintro i x σ H4 hi ⟨s4, y3, y4, y5, y6, y7, y8, rfl⟩
      obtain ⟨d, hd, rd⟩ := rks.get hi
      obtain ⟨kd, dd, sd⟩ := hsm d (List.mem_of_getElem? hd)
      exact ⟨_, rfl, x, d, rfl, rd.mono (kx_same s4), kd, by omega, by omega, fun H5 s5 => ⟨_, rfl, iteF ⟨s4.trans s5, _, _, _, _, _, _, rfl⟩⟩⟩
    · rintro σ H4 ⟨s4, y3, y4, y5, y6, y7, y8, rfl⟩
      have hB4 := hB3.same s4
      have hf4 := s4 _ _ hf3
      have rks4 := rks.mono (kx_same s4)
      obtain ⟨v0, e0, at0, re0, me0⟩ := pick (r := 0) rks4 (by omega) (by omega)
      obtain ⟨v1, e1, at1, re1, me1⟩ := pick (r := 1) rks4 (by omega) (by omega)
      obtain ⟨v2, e2, at2, re2, me2⟩ := pick (r := 2) rks4 (by omega) (by omega)
      obtain ⟨k0, dp0, sz0⟩ := hsm _ me0
      obtain ⟨k1, dp1, sz1⟩ := hsm _ me1
      obtain ⟨k2, dp2, sz2⟩ := hsm _ me2
      refine ⟨_, rfl, fl, ks, 0, v0, rfl, rfl, SqL.of hf4, at0, _, rfl, _, rfl, fl, ks, 1, v1, rfl, rfl, SqL.of hf4, at1, b, c, v1, e1, rfl, hB4, re1, k1, by omega, by omega, by omega, fun z ez H5 rz sze dpe hB5 sb5 => ?_⟩
      have k5 := box_kx hB4 hB5 sb5
      have hf5 := sb5 _ _ nbf.symm hf4
      refine ⟨_, rfl, fl, ks, 2, v2, rfl, rfl, SqL.of hf5, at2, (by show 3 ≤ sizeLine; decide), fun gr ngr => ?_⟩
      have s6 := same_new ngr (.lst [v0, z, v2])
      have k46 := k5.trans (kx_same s6)
      have rg6 : Reps (upd H5 gr (.lst [v0, z, v2])) [v0, z, v2] [e0, ez, e2] := .cons (re0.mono k46) (.cons (rz.mono (kx_same s6)) (.one (re2.mono k46)))
      have hB6 := hB5.same s6
      have hf6 := s6 _ _ hf5
      have rks6 := rks4.mono k46
      have hg6 : (upd H5 gr (.lst [v0, z, v2])) gr = some (.lst [v0, z, v2]) := upd_same
      have v6 : ∀ e ∈ [e0, ez, e2], Val 5 17 e := fun e he => by
        simp only [List.mem_cons, List.not_mem_nil, or_false] at he
        rcases he with rfl | rfl | rfl
        · exact ⟨by omega, by omega⟩
        · exact ⟨by omega, by omega⟩
        · exact ⟨by omega, by omega⟩
      generalize upd H5 gr (.lst [v0, z, v2]) = H6 at *
      refine ⟨_, rfl, b, c, 10, rfl, hB6, by decide, fun r H7 r0 r10 hB7 sb7 => ⟨_, _, rfl, rfl, 25 + r, rfl, by omega, by omega, ?_⟩⟩
      have k7 := box_kx hB6 hB7 sb7
      obtain ⟨bs6, hbs6⟩ := hB4.lst
      have ngb : gr ≠ b := fun e => by
        subst e
        obtain ⟨bs5, hbs5⟩ := hB5.lst
        rw [ngr] at hbs5
        cases hbs5
      refine for_range (n := (25 + r).toNat) (fun i σ H' => ∃ (gr : Addr) (xs : List V) (es : List D) (y3 y4 y5 y6 y8 : Option V), σ = [some (.ref a), some (.ref b), some (.ref fl), y3, y4, y5, y6, some (.ref gr), y8] ∧ BoxAt H' b c ∧ H' fl = some (.lst ks) ∧ Reps H' ks ds ∧ gr ≠ b ∧ H' gr = some (.lst xs) ∧ Reps H' xs es ∧ es.length = 3 ∧ ∀ e ∈ es, Val (5 + 2 * i) (17 + 4 * i) e)
        ⟨gr, _, _, _, _, _, _, _, rfl, hB7, sb7 _ _ nbf.symm hf6, rks6.mono k7, ngb, sb7 _ _ ngb hg6, rg6.mono k7, rfl, v6⟩ ?_ ?_
      · rintro i σ H8 hi ⟨gr, xs, es, y3, y4, y5, y6, y8, rfl, hB8, hf8, rks8, ngb, hg8, rx8, les, hv⟩
        have lxs := rx8.length
        refine ⟨_, rfl, b, c, 3, rfl, hB8, by decide, fun r3 H9 r30 r33 hB9 sb9 => ?_⟩
        have k9 := box_kx hB8 hB9 sb9
        have hg9 := sb9 _ _ ngb hg8
        have hf9 := sb9 _ _ nbf.symm hf8
        have rx9 := rx8.mono k9
        refine ⟨_, rfl, gr, rfl, ⟨_, SqL.of hg9⟩, fun p np => ?_⟩
        refine lc_list (K := K) (a := gr) (xs := xs) (fun j H' => Same H9 H' ∧ ∃ acc fs, H' p = some (.lst acc) ∧ Reps H' acc fs ∧ fs.length = j ∧ ∀ e ∈ fs, Val (5 + 2 * i + 2) (17 + 4 * i + 4) e)
          ⟨same_new np _, [], [], upd_same, .nil, rfl, fun e he => by cases he⟩ (fun j H' _ h => SqL.of (h.1 _ _ hg9)) ?_ ?_
        · rintro j x H10 hj ⟨s10, acc, fs, hp, racc, lfs, hfs⟩
          obtain ⟨e, he, re⟩ := rx9.get hj
          have hjl : j < xs.length := (List.getElem?_eq_some_iff.mp hj).1
          have ve := hv e (List.mem_of_getElem? he)
          have lacc := racc.length
          refine ⟨rfl, yes_go ⟨_, rfl, (by show 1 ≤ sizeLine; decide), fun t1 n1 => ⟨(by show 0 ≤ sizeLine; decide), fun t2 n2 => ⟨_, rfl, (by show 2 ≤ sizeLine; decide), fun t3 n3 => ⟨_, rfl, (by show 0 ≤ sizeLine; decide), fun t4 n4 =>
            ⟨(by show 0 ≤ sizeLine; decide), fun t5 n5 => ⟨(by show 1 ≤ sizeLine; decide), fun t6 n6 => ⟨(by show 3 ≤ sizeLine; decide), fun t7 n7 => ⟨(by show 3 ≤ sizeLine; decide), fun l nl => ?_⟩⟩⟩⟩⟩⟩⟩⟩⟩
          have u8 := same_new nl (.lst [.ref t1, .ref t3, .ref t7])
          have u7 := (same_new n7 _).trans u8
          have u6 := (same_new n6 _).trans u7
          have u5 := (same_new n5 _).trans u6
          have u4 := (same_new n4 _).trans u5
          have u3 := (same_new n3 _).trans u4
          have u2 := (same_new n2 _).trans u3
          have u1 := (same_new n1 _).trans u2
          have RM := tri_reps (u2 _ _ upd_same) (u3 _ _ upd_same) (u4 _ _ upd_same) (u5 _ _ upd_same) (u6 _ _ upd_same) (u7 _ _ upd_same) (u8 _ _ upd_same) ((re.mono (kx_same s10)).mono (kx_same u1))
          obtain ⟨y, f, hy, rf, mf⟩ := pick RM r30 r33
          refine ⟨_, rfl, l, _, _, y, rfl, rfl, SqL.of upd_same, hy, acc, u1 _ _ hp, small6 (by omega), fun o v2 z => ?_, acc ++ [y], fs ++ [f], upd_same, ?_, ?_, ?_⟩
          · rw [upd_ne (ne_of_none z np)]
            exact u1 _ _ (s10 _ _ z)
          · have kl := kx_list (u1 _ _ hp) (acc ++ [y])
            exact (racc.mono ((kx_same u1).trans kl)).append (.one (rf.mono kl))
          · rw [List.length_append, List.length_singleton, lfs]
          · intro f2 hf2
            rcases List.mem_append.mp hf2 with hf2 | hf2
            · exact hfs f2 hf2
            · rw [List.mem_singleton.mp hf2]
              exact tri_val mf ve
        · rintro H10 ⟨s10, acc, fs, hp, racc, lfs, hfs⟩
          refine ⟨p, acc, fs, some (.int (0 + (i : Nat))), y4, y5, y6, some (.int r3), rfl, hB9.same s10, s10 _ _ hf9, (rks8.mono k9).mono (kx_same s10), ?_, hp, racc, by omega, hfs⟩
          intro e
          subst e
          obtain ⟨bs9, hbs9⟩ := hB9.lst
          rw [np] at hbs9
          cases hbs9
      · rintro σ H8 ⟨gr, xs, es, y3, y4, y5, y6, y8, rfl, hB8, hf8, rks8, ngb, hg8, rx8, les, hv⟩
        have lxs := rx8.length
        obtain ⟨v3, e3, at3, re3, me3⟩ := pick (r := 3) rks8 (by omega) (by omega)
        obtain ⟨v4, e4, at4, re4, me4⟩ := pick (r := 4) rks8 (by omega) (by omega)
        obtain ⟨k3, dp3, sz3⟩ := hsm _ me3
        obtain ⟨k4, dp4, sz4⟩ := hsm _ me4
        obtain ⟨ts, rfl, hts⟩ := isK_inv k3
        obtain ⟨a3, as, rfl, ha3, ra3⟩ := re3.inv
        have l3 := ra3.length
        have lts := len_szs ts
        have sz3' : szs ts + 1 ≤ 12 := sz3
        refine ⟨_, rfl, _, rfl, fl, ks, 3, _, rfl, rfl, SqL.of hf8, at3, a3, 25, as, rfl, rfl, ha3, by decide, by decide, by omega, fun c1 H9 s9 hc1 => ?_⟩
        refine ⟨(by show 0 ≤ sizeLine; decide), fun t1 n1 => ⟨(by show 1 ≤ sizeLine; decide), fun t2 n2 => ?_⟩⟩
        have s10 := (same_new n1 (.tup [])).trans (same_new n2 (.tup [.ref t1]))
        have ht1 := (same_new n2 (.tup [.ref t1])) _ _ (upd_same (H := H9) (a := t1) (o := .tup []))
        refine ⟨t2, 50, [.ref t1], rfl, rfl, upd_same, by decide, by decide, (by show 1 ≤ 1000; decide), fun c2 H11 s11 hc2 => ?_⟩
        have lc1 : (List.replicate (Int.toNat 25) as).flatten.length = 25 * as.length := len_rep as 25
        have lc2 : (List.replicate (Int.toNat 50) [V.ref t1]).flatten.length = 50 * 1 := len_rep [V.ref t1] 50
        refine ⟨c1, c2, _, _, rfl, rfl, s11 _ _ (s10 _ _ hc1), hc2, small6' (by omega), fun c3 H12 s12 hc3 => ?_⟩
        have s912 := (s10.trans s11).trans s12
        have s812 := s9.trans s912
        refine ⟨_, rfl, fl, ks, 4, _, rfl, rfl, SqL.of (s812 _ _ hf8), at4, (by show 1 ≤ sizeLine; decide), fun t3 n3 => ?_⟩
        have s13 := same_new n3 (.tup [v4])
        refine ⟨t3, 50, [v4], rfl, rfl, upd_same, by decide, by decide, (by show 1 ≤ 1000; decide), fun c4 H14 s14 hc4 => ⟨(by show 1 ≤ sizeLine; decide), fun t5 n5 => ?_⟩⟩
        have s15 := same_new n5 (.tup [.non])
        have lc4 : (List.replicate (Int.toNat 50) [v4]).flatten.length = 50 * 1 := len_rep [v4] 50
        refine ⟨c4, t5, _, _, rfl, rfl, s15 _ _ hc4, upd_same, small6' (by show (List.replicate (Int.toNat 50) [v4]).flatten.length + 1 ≤ 1000000; omega), fun c6 H16 s16 hc6 => ⟨(by show 2 ≤ sizeLine; decide), fun l2 nl2 => ?_⟩⟩
        have s17 := same_new nl2 (.lst [.ref c3, .ref c6])
        have s1216 := ((s13.trans s14).trans s15).trans s16
        have s1217 := s1216.trans s17
        have s817 := s812.trans s1217
        refine ⟨gr, l2, xs, _, rfl, rfl, s817 _ _ hg8, upd_same, small6' (by show xs.length + 2 ≤ 1000000; omega), fun q1 nq1 => ?_⟩
        have s18 := same_new nq1 (.lst (xs ++ [.ref c3, .ref c6]))
        have s818 := s817.trans s18
        have R3 : Rep (upd (upd H16 l2 (.lst [.ref c3, .ref c6])) q1 (.lst (xs ++ [.ref c3, .ref c6]))) (.ref c3) (.tup ((List.replicate 25 ts).flatten ++ (List.replicate 50 [.tup []]).flatten)) :=
          .tup ((s1217.trans s18) _ _ hc3) (((ra3.mono (kx_same s818)).rep 25).append ((Reps.one (.tup ((s11.trans (s12.trans (s1217.trans s18))) _ _ ht1) .nil)).rep 50))
        have R6 : Rep (upd (upd H16 l2 (.lst [.ref c3, .ref c6])) q1 (.lst (xs ++ [.ref c3, .ref c6]))) (.ref c6) (.tup ((List.replicate 50 [e4]).flatten ++ [.at .non])) :=
          .tup ((s17.trans s18) _ _ hc6) (((Reps.one (re4.mono (kx_same s818))).rep 50).append (.one (.at rfl)))
        have Rall := (rx8.mono (kx_same s818)).append (.cons R3 (.one R6))
        have hq1 : (upd (upd H16 l2 (.lst [.ref c3, .ref c6])) q1 (.lst (xs ++ [.ref c3, .ref c6]))) q1 = some (.lst (xs ++ [.ref c3, .ref c6])) := upd_same
        have vall : ∀ e ∈ es ++ [.tup ((List.replicate 25 ts).flatten ++ (List.replicate 50 [.tup []]).flatten), .tup ((List.replicate 50 [e4]).flatten ++ [.at .non])], Val 119 1000000 e := by
          intro e he
          rcases List.mem_append.mp he with he | he
          · have := hv e he
            unfold Val at *
            omega
          · simp only [List.mem_cons, List.not_mem_nil, or_false] at he
            unfold Val
            rcases he with rfl | rfl
            · have q1 := szs_rep ts 25
              have q2 := szs_rep [.tup []] 50
              have q3 := deps_rep ts 25
              have q4 := deps_rep [.tup []] 50
              have q5 : szs [.tup []] = 1 := rfl
              have q6 : deps [.tup []] = 1 := rfl
              have dp3' : deps ts ≤ 3 := dp3
              constructor
              · show deps (_ ++ _) ≤ 119
                rw [deps_append]
                omega
              · show szs (_ ++ _) + 1 ≤ 1000000
                rw [szs_append]
                omega
            · have q1 := szs_rep [e4] 50
              have q3 := deps_rep [e4] 50
              have q5 : szs [e4] = sz e4 + 0 := rfl
              have q6 : deps [e4] = max (dep e4 + 1) 0 := rfl
              have q7 : szs [.at .non] = 1 := rfl
              have q8 : deps [.at .non] = 1 := rfl
              constructor
              · show deps (_ ++ _) ≤ 119
                rw [deps_append]
                omega
              · show szs (_ ++ _) + 1 ≤ 1000000
                rw [szs_append]
                omega
        generalize upd (upd H16 l2 (.lst [.ref c3, .ref c6])) q1 (.lst (xs ++ [.ref c3, .ref c6])) = H18 at *
        refine ⟨q1, rfl, ⟨_, SqL.of hq1⟩, for_list (K := K) (a := q1) (xs := xs ++ [.ref c3, .ref c6]) (fun i σ H' => Same H18 H' ∧ ∃ (y3 y4 y5 y6 y7 y8 : Option V), σ = [some (.ref a), some (.ref b), some (.ref fl), y3, y4, y5, y6, y7, y8])
          ⟨Same.refl _, _, _, _, _, _, _, rfl⟩ (fun i σ H' _ h => SqL.of (h.1 _ _ hq1)) ?_ ?_⟩
        · rintro i x σ H19 hi ⟨s19, y3, y4, y5, y6, y7, y8, rfl⟩
          obtain ⟨e, he, re⟩ := Rall.get hi
          obtain ⟨de, se⟩ := vall e (List.mem_of_getElem? he)
          have re19 := re.mono (kx_same s19)
          refine ⟨_, rfl, x, e, rfl, re19, by omega, fun H20 s20 => ⟨_, rfl, x, e, rfl, re19.mono (kx_same s20), by omega, by omega, fun H21 s21 => ?_⟩⟩
          refine ⟨_, _, .at (.bl (isK e)), .at (.bl (isK e)), rfl, .at rfl, .at rfl, rfl, by show 0 < 5; omega, by show 1 + 0 ≤ 1000000; omega, fun b2 hb2 => ?_⟩
          rw [hb2.mpr rfl]
          exact ⟨_, rfl, iteF ⟨(s19.trans s20).trans s21, _, _, _, _, _, _, rfl⟩⟩
        · rintro σ H19 ⟨s19, y3, y4, y5, y6, y7, y8, rfl⟩
          refine ⟨Nat.zero_le _, fun l5 nl5 => ⟨.ref l5, .lst, rfl, .lst upd_same, by show 1 ≤ 1000000; omega, fun H20 s20 => ⟨_, _, rfl, rfl, _, rfl, iteT ?_⟩⟩⟩
          refine ⟨.non, .at .non, rfl, .at rfl, by show 1 ≤ 1000000; omega, fun H21 s21 => ⟨_, _, rfl, rfl, _, rfl, iteT ?_⟩⟩
          refine ⟨.int 0, .at (.int 0), rfl, .at rfl, by show 1 ≤ 1000000; omega, fun H22 s22 => ⟨_, _, rfl, rfl, _, rfl, iteT ?_⟩⟩
          exact ⟨.str "", .at (.str ""), rfl, .at rfl, by show 1 ≤ 1000000; omega, fun H23 s23 => ⟨_, _, rfl, rfl, q H23⟩⟩
end
end Pk

namespace Pk
open PySem PySem.Spec PyProof.Rows L2
set_option maxHeartbeats 0

def d_is_kind : He.DefD := ⟨("is_kind", none), "is_kind", "is_kind", defArgs s_is_kind, defBody s_is_kind, defScope s_is_kind, [], []⟩
def d_places : He.DefD := ⟨("places", none), "places", "places", defArgs s_places, defBody s_places, defScope s_places, [], []⟩
def d_kind_at : He.DefD := ⟨("kind_at", none), "kind_at", "kind_at", defArgs s_kind_at, defBody s_kind_at, defScope s_kind_at, [], []⟩
def d_depth : He.DefD := ⟨("depth", none), "depth", "depth", defArgs s_depth, defBody s_depth, defScope s_depth, [], []⟩
def d__law_cell : He.DefD := ⟨("_law_cell", none), "_law_cell", "_law_cell", defArgs s__law_cell, defBody s__law_cell, defScope s__law_cell, [], []⟩
def d__law_digits : He.DefD := ⟨("_law_digits", none), "_law_digits", "_law_digits", defArgs s__law_digits, defBody s__law_digits, defScope s__law_digits, [], []⟩
def d__law_draw : He.DefD := ⟨("_law_draw", none), "_law_draw", "_law_draw", defArgs s__law_draw, defBody s__law_draw, defScope s__law_draw, [], []⟩
def d__law_box : He.DefD := ⟨("_law_box", none), "_law_box", "_law_box", defArgs s__law_box, defBody s__law_box, defScope s__law_box, [], []⟩
def d__law_same : He.DefD := ⟨("_law_same", none), "_law_same", "_law_same", defArgs s__law_same, defBody s__law_same, defScope s__law_same, [], []⟩
def d__law_at : He.DefD := ⟨("_law_at", none), "_law_at", "_law_at", defArgs s__law_at, defBody s__law_at, defScope s__law_at, [], []⟩
def d__law_places : He.DefD := ⟨("_law_places", none), "_law_places", "_law_places", defArgs s__law_places, defBody s__law_places, defScope s__law_places, [], []⟩
def d__law_kind_deep : He.DefD := ⟨("_law_kind_deep", none), "_law_kind_deep", "_law_kind_deep", defArgs s__law_kind_deep, defBody s__law_kind_deep, defScope s__law_kind_deep, [], []⟩
def d__law_is_kind : He.DefD := ⟨("_law_is_kind", none), "_law_is_kind", "_law_is_kind", defArgs s__law_is_kind, defBody s__law_is_kind, defScope s__law_is_kind, [], []⟩
def d__law_deep : He.DefD := ⟨("_law_deep", none), "_law_deep", "_law_deep", defArgs s__law_deep, defBody s__law_deep, defScope s__law_deep, [], []⟩
def d__law_spoilt_kind : He.DefD := ⟨("_law_spoilt_kind", none), "_law_spoilt_kind", "_law_spoilt_kind", defArgs s__law_spoilt_kind, defBody s__law_spoilt_kind, defScope s__law_spoilt_kind, [], []⟩
def d__law_right : He.DefD := ⟨("_law_right", none), "_law_right", "_law_right", defArgs s__law_right, defBody s__law_right, defScope s__law_right, [], []⟩
def d_law : He.DefD := ⟨("law", none), "law", "law", defArgs s_law, defBody s_law, defScope s_law, [], []⟩
def fn : List He.DefD := [d_is_kind, d_places, d_kind_at, d_depth, d__law_cell, d__law_digits, d__law_draw, d__law_box, d__law_same, d__law_at, d__law_places, d__law_kind_deep, d__law_is_kind, d__law_deep, d__law_spoilt_kind, d__law_right, d_law]
def fa : List He.Fa := [.glo "is_kind", .glo "places", .glo "kind_at", .glo "depth", .glo "_law_cell", .glo "_law_digits", .glo "_law_draw", .glo "_law_box", .glo "_law_same", .glo "_law_at", .glo "_law_places", .glo "_law_kind_deep", .glo "_law_is_kind", .glo "_law_deep", .glo "_law_spoilt_kind", .glo "_law_right", .glo "law", .free "isinstance", .free "tuple", .free "enumerate", .free "len", .free "max", .free "range", .free "int", .free "bool", .free "str", .free "list"]
abbrev R : PySem.W.OpenRow := PySem.W.OpenLaw.row PySem.Challenge.rw_playsense_k00_kinds_and_their_places
abbrev hk : PySem.W.Hook := He.hookD 4 fa fn
def ob (s : PySem.W.SharedT) : He.AlD := He.obsDG 4 fa fn (HandSHeadRun.getT s)
theorem ob_eq (s : PySem.W.SharedT) : ob s = hk.obs s.abs := He.obsDG_eq (HandSHeadRun.getT_eq s)
def names0 : List PySem.Str := ["__name__", "is_kind", "places", "kind_at", "depth", "_law_cell", "_law_digits", "_law_draw", "_law_box", "_law_same", "_law_at", "_law_places", "_law_kind_deep", "_law_is_kind", "_law_deep", "_law_spoilt_kind", "_law_right"]
abbrev names : List PySem.Str := names0
theorem run (w : World) : HandSHeadRun.RunEq R (PySem.W.view R.prog [18]) hk ob 4000 names w := by
  intro os
  kernel_rfl

theorem facts {P : Program} {w : World} {K : PySem.W.Frag} {h : Heap} {mg : Str → Option Value} {f : Addr} (X : K.In h) (G : h.Ns mainGlobals mg) (hfa : mg ("law" : Str) = some (.ref f)) (c : He.SaysD fa fn K) :
    ∃ fd : FuncData, (∀ (s : Shared) (v : Value), BindsTo s fd ⟨[v], []⟩ [("script", v)]) ∧ ∀ base : Heap, K.In base → base.Ns mainGlobals mg → FnOk P w K mg base CX0 121 f fd ["script"] (spLaw K) := by
  obtain ⟨fd_is_kind, F_is_kind⟩ := c.def_ 0 (d := d_is_kind) rfl
  have D_is_kind : Df K mg "is_kind" s_is_kind ["value"] _ fd_is_kind := ⟨F_is_kind, F_is_kind.bindsN fun _ _ _ _ _ _ us hl => match us, hl with | [_], _ => rfl, He.glo_ok X G (c.fact 0 (f := .glo "is_kind") rfl)⟩
  obtain ⟨fd_places, F_places⟩ := c.def_ 1 (d := d_places) rfl
  have D_places : Df K mg "places" s_places ["kind"] _ fd_places := ⟨F_places, F_places.bindsN fun _ _ _ _ _ _ us hl => match us, hl with | [_], _ => rfl, He.glo_ok X G (c.fact 1 (f := .glo "places") rfl)⟩
  obtain ⟨fd_kind_at, F_kind_at⟩ := c.def_ 2 (d := d_kind_at) rfl
  have D_kind_at : Df K mg "kind_at" s_kind_at ["kind", "place"] _ fd_kind_at := ⟨F_kind_at, F_kind_at.bindsN fun _ _ _ _ _ _ us hl => match us, hl with | [_, _], _ => rfl, He.glo_ok X G (c.fact 2 (f := .glo "kind_at") rfl)⟩
  obtain ⟨fd_depth, F_depth⟩ := c.def_ 3 (d := d_depth) rfl
  have D_depth : Df K mg "depth" s_depth ["kind"] _ fd_depth := ⟨F_depth, F_depth.bindsN fun _ _ _ _ _ _ us hl => match us, hl with | [_], _ => rfl, He.glo_ok X G (c.fact 3 (f := .glo "depth") rfl)⟩
  obtain ⟨fd__law_cell, F__law_cell⟩ := c.def_ 4 (d := d__law_cell) rfl
  have D__law_cell : Df K mg "_law_cell" s__law_cell ["script", "k"] _ fd__law_cell := ⟨F__law_cell, F__law_cell.bindsN fun _ _ _ _ _ _ us hl => match us, hl with | [_, _], _ => rfl, He.glo_ok X G (c.fact 4 (f := .glo "_law_cell") rfl)⟩
  obtain ⟨fd__law_digits, F__law_digits⟩ := c.def_ 5 (d := d__law_digits) rfl
  have D__law_digits : Df K mg "_law_digits" s__law_digits ["script", "first", "last"] _ fd__law_digits := ⟨F__law_digits, F__law_digits.bindsN fun _ _ _ _ _ _ us hl => match us, hl with | [_, _, _], _ => rfl, He.glo_ok X G (c.fact 5 (f := .glo "_law_digits") rfl)⟩
  obtain ⟨fd__law_draw, F__law_draw⟩ := c.def_ 6 (d := d__law_draw) rfl
  have D__law_draw : Df K mg "_law_draw" s__law_draw ["box", "many"] _ fd__law_draw := ⟨F__law_draw, F__law_draw.bindsN fun _ _ _ _ _ _ us hl => match us, hl with | [_, _], _ => rfl, He.glo_ok X G (c.fact 6 (f := .glo "_law_draw") rfl)⟩
  obtain ⟨fd__law_box, F__law_box⟩ := c.def_ 7 (d := d__law_box) rfl
  have D__law_box : Df K mg "_law_box" s__law_box ["script", "first", "last"] _ fd__law_box := ⟨F__law_box, F__law_box.bindsN fun _ _ _ _ _ _ us hl => match us, hl with | [_, _, _], _ => rfl, He.glo_ok X G (c.fact 7 (f := .glo "_law_box") rfl)⟩
  obtain ⟨fd__law_same, F__law_same⟩ := c.def_ 8 (d := d__law_same) rfl
  have D__law_same : Df K mg "_law_same" s__law_same ["actual", "expected"] _ fd__law_same := ⟨F__law_same, F__law_same.bindsN fun _ _ _ _ _ _ us hl => match us, hl with | [_, _], _ => rfl, He.glo_ok X G (c.fact 8 (f := .glo "_law_same") rfl)⟩
  obtain ⟨fd__law_at, F__law_at⟩ := c.def_ 9 (d := d__law_at) rfl
  have D__law_at : Df K mg "_law_at" s__law_at ["kind", "place"] _ fd__law_at := ⟨F__law_at, F__law_at.bindsN fun _ _ _ _ _ _ us hl => match us, hl with | [_, _], _ => rfl, He.glo_ok X G (c.fact 9 (f := .glo "_law_at") rfl)⟩
  obtain ⟨fd__law_places, F__law_places⟩ := c.def_ 10 (d := d__law_places) rfl
  have D__law_places : Df K mg "_law_places" s__law_places ["kind"] _ fd__law_places := ⟨F__law_places, F__law_places.bindsN fun _ _ _ _ _ _ us hl => match us, hl with | [_], _ => rfl, He.glo_ok X G (c.fact 10 (f := .glo "_law_places") rfl)⟩
  obtain ⟨fd__law_kind_deep, F__law_kind_deep⟩ := c.def_ 11 (d := d__law_kind_deep) rfl
  have D__law_kind_deep : Df K mg "_law_kind_deep" s__law_kind_deep ["box", "deep", "budget"] _ fd__law_kind_deep := ⟨F__law_kind_deep, F__law_kind_deep.bindsN fun _ _ _ _ _ _ us hl => match us, hl with | [_, _, _], _ => rfl, He.glo_ok X G (c.fact 11 (f := .glo "_law_kind_deep") rfl)⟩
  obtain ⟨fd__law_is_kind, F__law_is_kind⟩ := c.def_ 12 (d := d__law_is_kind) rfl
  have D__law_is_kind : Df K mg "_law_is_kind" s__law_is_kind ["value"] _ fd__law_is_kind := ⟨F__law_is_kind, F__law_is_kind.bindsN fun _ _ _ _ _ _ us hl => match us, hl with | [_], _ => rfl, He.glo_ok X G (c.fact 12 (f := .glo "_law_is_kind") rfl)⟩
  obtain ⟨fd__law_deep, F__law_deep⟩ := c.def_ 13 (d := d__law_deep) rfl
  have D__law_deep : Df K mg "_law_deep" s__law_deep ["kind"] _ fd__law_deep := ⟨F__law_deep, F__law_deep.bindsN fun _ _ _ _ _ _ us hl => match us, hl with | [_], _ => rfl, He.glo_ok X G (c.fact 13 (f := .glo "_law_deep") rfl)⟩
  obtain ⟨fd__law_spoilt_kind, F__law_spoilt_kind⟩ := c.def_ 14 (d := d__law_spoilt_kind) rfl
  have D__law_spoilt_kind : Df K mg "_law_spoilt_kind" s__law_spoilt_kind ["box", "value"] _ fd__law_spoilt_kind := ⟨F__law_spoilt_kind, F__law_spoilt_kind.bindsN fun _ _ _ _ _ _ us hl => match us, hl with | [_, _], _ => rfl, He.glo_ok X G (c.fact 14 (f := .glo "_law_spoilt_kind") rfl)⟩
  obtain ⟨fd__law_right, F__law_right⟩ := c.def_ 15 (d := d__law_right) rfl
  have D__law_right : Df K mg "_law_right" s__law_right ["kind"] _ fd__law_right := ⟨F__law_right, F__law_right.bindsN fun _ _ _ _ _ _ us hl => match us, hl with | [_], _ => rfl, He.glo_ok X G (c.fact 15 (f := .glo "_law_right") rfl)⟩
  obtain ⟨fd_law, F_law⟩ := c.def_ 16 (d := d_law) rfl
  have e := hfa.symm.trans (He.glo_ok X G (c.fact 16 (f := .glo "law") rfl))
  cases e
  have D_law : Df K mg "law" s_law ["script"] _ fd_law := ⟨F_law, F_law.bindsN fun _ _ _ _ _ _ us hl => match us, hl with | [_], _ => rfl, hfa⟩
  have B : Bt mg := ⟨He.free_ok X G (c.fact 17 (f := .free "isinstance") rfl), He.free_ok X G (c.fact 18 (f := .free "tuple") rfl), He.free_ok X G (c.fact 19 (f := .free "enumerate") rfl), He.free_ok X G (c.fact 20 (f := .free "len") rfl), He.free_ok X G (c.fact 21 (f := .free "max") rfl), He.free_ok X G (c.fact 22 (f := .free "range") rfl), He.free_ok X G (c.fact 23 (f := .free "int") rfl), He.free_ok X G (c.fact 24 (f := .free "bool") rfl), He.free_ok X G (c.fact 25 (f := .free "str") rfl), He.free_ok X G (c.fact 26 (f := .free "list") rfl)⟩
  have b := FunD.bindsA (ps := ["script"]) F_law fun _ _ _ _ _ _ us hl => match us, hl with | [_], _ => rfl
  exact ⟨fd_law, fun s v => b s [v] rfl, fun base _ _ => ok_law D_law B D__law_places D_is_kind D__law_same D_places D_depth D__law_deep D__law_at D_kind_at D__law_cell D__law_digits D__law_draw D__law_box D__law_kind_deep D__law_is_kind D__law_spoilt_kind D__law_right⟩
end Pk
open PySem PySem.W PySem.Calls PyProof.Rows
set_option maxHeartbeats 0
theorem PySem.Challenge.cw_playsense_k00_kinds_and_their_places_holds : PySem.Challenge.rw_playsense_k00_kinds_and_their_places.Holds := by
  w_on; o_law
  refine HandSHeadRun.head_any (r := OpenLaw.row PySem.Challenge.rw_playsense_k00_kinds_and_their_places) (q := view (OpenLaw.row PySem.Challenge.rw_playsense_k00_kinds_and_their_places).prog [18]) (H := Pk.hk) (ob := Pk.ob) (M := 4000) (loose := Pk.names) (d := HandSHeadRun.topDef (OpenLaw.row PySem.Challenge.rw_playsense_k00_kinds_and_their_places).prog 18) (kwd := []) Pk.ob_eq
    (by kernel_rfl) (fun s => by kernel_rfl) Pk.run (by kernel_rfl) (by kernel_rfl) (by kernel_rfl) (by rfl) (by first | assumption | decide +kernel) (by decide +kernel) ⟨rfl, rfl, rfl, rfl, rfl, by decide +kernel⟩ ?hw ?hc
  case hw => w_witness2
  case hc =>
    refine L2.walk_ofE (l := PySem.Challenge.rw_playsense_k00_kinds_and_their_places) (n := 63) (k := 121) (x := "script") (CX := L2.CX0) rfl (by decide) (by kernel_rfl) ⟨rfl, by decide, by decide⟩ ?F (fun _ _ _ _ z => z)
    intro w mg fa h Y G hmg0
    obtain ⟨K, KX, c⟩ := Y
    have hmg : mg ("law" : PySem.Str) = some (.ref fa) := by
      have e : (HandSHeadRun.topDef (OpenLaw.row PySem.Challenge.rw_playsense_k00_kinds_and_their_places).prog 18).name = ("law" : PySem.Str) := by kernel_rfl
      rw [← e]
      exact hmg0
    obtain ⟨fd, hb, hF⟩ := Pk.facts (P := (PySem.Challenge.rw_playsense_k00_kinds_and_their_places).prog) (w := w) KX G hmg c
    exact ⟨K, fd, Pk.spLaw K, KX, hb, fun H a ns hl _ hS => ⟨a, ns, rfl, hS, hl, fun _ => rfl⟩, hF⟩
