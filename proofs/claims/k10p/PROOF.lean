import PyProof.Rows.All
import Wide.All
import OpenK.AllK
import Wide.FinOn
import HandS.ForMost
import HandS.Star
import HandS.Style
import HandS.IsInst
import HandS.DictComp
import HandS.TupAny
import HandS.Conv
import HandS.More
import HandS.Strs
import HandS.SetFor
import HandS.Zip
import HandS.Defaults
import KE.GoesMore
import HandS.SortInts
import PySem.Challenge.RW_letquay_k10_whole_equality_admitted
set_option Elab.async false
set_option maxRecDepth 100000
namespace Lq
open PySem PyProof.Rows
section
open PySem.AutoSeq1 (wpAny_loadPart' idx_int)
theorem ext_tuple (l : Addr) (its : Array Value) (n : Nat) (b : Addr) (its2 : Array Value) (n2 : Nat) (dd : Option Addr) (sl : Array (Option Value))
    (hs0 : ¬(!its.isEmpty && Builtin.List.listTooLong (its.size + its2.size)) = true) (hs1 : its.size ≤ sizeLine) (hs2 : its.size + its2.size ≤ sizeLine + 1) :
    Meets (Builtin.«list.extend» ⟨[.ref l, .ref b], []⟩) (fun _ R s =>
      s.heap.get? l = some { cls := .type "list", data := .seq its n } ∧
      s.heap.get? b = some { cls := .type "tuple", dict := dd, data := .seq its2 n2, slots := sl } ∧
      R (.ok (.ret Value.none)) { s with heap := s.heap.update l (Obj.mapSeq fun x => x ++ its2), toks := s.toks }) :=
  .of_wp fun prog w A R s h => by
    obtain ⟨hp, g, d, tk, os⟩ := s
    obtain ⟨hl, hb, h⟩ := h
    have q1 := idx_int
    have q2 := AutoSeq1.sub_tuple_tuple
    have q3 := AutoSeq1.sub_list_list
    have q4 := AutoSeq1.sub_tuple_list
    have q5 := AutoSeq1.sub_list_tuple
    have hz : (its ++ its2).size ≤ sizeLine + 1 := by
      rw [Array.size_append]
      exact hs2
    wp_walk using (wpAny_updateSeq hl rfl (hz := hs1) (_hz' := hz)), wpAny_loadPart' hl, wpAny_loadPart' hb
    exact ⟨_, rfl, h⟩
end
end Lq
namespace Lq
open PySem L2
section
variable {X : Cx}
/-- xs.extend(t), t a tuple -/
def rExtT (K : PySem.W.Frag) : V → List V → Hp → VK → Prop := fun x vs H Q => ∃ l b xs zs, x = .ref l ∧ vs = [.ref b] ∧ H l = some (.lst xs) ∧ SqT K H b zs ∧
  xs.length + zs.length ≤ sizeLine ∧ Q .non (upd H l (.lst (xs ++ zs)))
theorem mt_extT : MtM X "list.extend" (rExtT X.K) := by
  intro pins s σ H x vs v us Q I rx rv h
  obtain ⟨l, b, xs, zs, rfl, rfl, hH, hB, hz, q⟩ := h
  cases rx
  obtain ⟨u, rfl, ru⟩ := rv.one
  cases ru
  obtain ⟨z, its, n, r, hl, e⟩ := I.lstM hH
  obtain ⟨its2, r2, ⟨⟨cls, dd, data, sl⟩, e2, hc, n2, hd⟩, z2⟩ := I.tuple hB
  simp only at hc hd
  subst hc hd
  have hl2 := r2.length
  have hsz : its.toArray.size + its2.toArray.size ≤ sizeLine := by
    rw [List.size_toArray, List.size_toArray]
    omega
  have hlong : ¬ (!its.toArray.isEmpty && Builtin.List.listTooLong (its.toArray.size + its2.toArray.size)) = true := by
    rw [notLongL hsz, Bool.and_false]
    exact Bool.false_ne_true
  refine call_meets PySem.F.slot_list_extend ⟨_, e, rfl⟩ PySem.F.entry_list_extend (PySem.F.args_list_extend_2 _ _)
    (Lq.ext_tuple l its.toArray n b its2.toArray n2 dd sl hlong (by rw [List.size_toArray]; omega) (by omega)) ⟨e, e2, ?_⟩
  refine ⟨.non, _, I.lset (its' := its ++ its2) hH e (by simp) (r.append r2) ?_, rfl, q⟩
  rw [List.length_append]
  omega
end
end Lq
namespace Lq
open PySem PyProof.Rows HT
section
variable {prog : Program} {w : World} {A : Around} {E : Value → Shared → Prop} {s : Shared}
theorem adjust_back (n : Nat) : Builtin.Slice.sliceAdjust none none (-1) (n : Int) = ((n : Int) - 1, -1) := by
  unfold Builtin.Slice.sliceAdjust
  rfl
theorem places_back (n : Nat) : Builtin.Slice.slicePlaces ((n : Int) - 1) (-1) (-1) = n := by
  unfold Builtin.Slice.slicePlaces
  rw [if_neg (by decide)]
  by_cases h : (n : Int) - 1 > -1
  · rw [if_pos h, show (-(-1) : Int) = 1 from rfl, Int.ediv_one]
    omega
  · rw [if_neg h]
    omega
theorem fm_congr {α β : Type} {g h : α → Option β} : ∀ {l : List α}, (∀ x ∈ l, g x = h x) → l.filterMap g = l.filterMap h
  | [], _ => rfl
  | x :: r, q => by
    rw [List.filterMap_cons, List.filterMap_cons, q x (List.mem_cons_self), fm_congr fun y hy => q y (List.mem_cons_of_mem _ hy)]
theorem pick_back (xs : List Value) : (List.range xs.length).filterMap (fun (k : Nat) => xs.toArray[((xs.length : Int) - 1 + (k : Int) * (-1)).toNat]?) = xs.reverse := by
  have e : (List.range xs.length).filterMap (fun (k : Nat) => xs.toArray[((xs.length : Int) - 1 + (k : Int) * (-1)).toNat]?) =
      (List.range xs.length).filterMap (some ∘ fun k => xs.getD (xs.length - 1 - k) .none) := by
    refine fm_congr fun k hk => ?_
    have hk' := List.mem_range.mp hk
    have e1 : ((xs.length : Int) - 1 + (k : Int) * (-1)).toNat = xs.length - 1 - k := by omega
    rw [e1]
    have h2 : xs.length - 1 - k < xs.length := by omega
    simp [List.getElem?_eq_getElem h2, List.getD_eq_getElem?_getD]
  rw [e, List.filterMap_eq_map]
  apply List.ext_getElem?
  intro i
  by_cases hi : i < xs.length
  · have h2 : xs.length - 1 - i < xs.length := by omega
    rw [List.getElem?_map, List.getElem?_range hi, List.getElem?_reverse hi]
    simp [List.getElem?_eq_getElem h2, List.getD_eq_getElem?_getD]
  · rw [List.getElem?_eq_none (by simp; omega), List.getElem?_eq_none (by simp; omega)]
theorem sliceApplied_back {sl : Addr} {vs : Value} {n : Nat} {Q : Int × Int × Nat → Shared → Prop} (hs : s.heap.IsSliceOf sl .none .none vs) (ps : IsPart vs (some (-1)))
    (h : Q ((n : Int) - 1, -1, n) s) : wpAny (model prog w) A (Builtin.Slice.sliceApplied (.ref sl) (pure (n : Int))) Q E s := by
  obtain ⟨os, hos, hcs, hds⟩ := id hs
  unfold Builtin.Slice.sliceApplied Builtin.Slice.sliceFields
  refine wpAny_bind (wpAny_bind (wpAny_field hos hds (x := .none) rfl
    (wpAny_bind (wpAny_field hos hds (x := .none) rfl (wpAny_bind (wpAny_field hos hds (x := vs) rfl (wpAny_pure ?_)))))))
  refine wpAny_bind (slicePart_ ps ?_)
  show wpAny _ _ (if ((-1 : Int) == 0) = true then _ else _) _ _ s
  rw [if_neg (by decide)]
  refine wpAny_bind (slicePart_ .none (wpAny_bind (slicePart_ .none (wpAny_bind (wpAny_pure ?_)))))
  show wpAny _ _ (match Builtin.Slice.sliceAdjust none none (-1) (n : Int) with
    | (lo, hi) => pure (lo, (-1 : Int), Builtin.Slice.slicePlaces lo hi (-1))) _ _ s
  rw [adjust_back n]
  show wpAny _ _ (pure ((n : Int) - 1, (-1 : Int), Builtin.Slice.slicePlaces ((n : Int) - 1) (-1) (-1))) _ _ s
  rw [places_back]
  exact wpAny_pure h
theorem tuple_back {t sl : Addr} {xs : List Value} {vs : Value} {Q : Value → Shared → Prop} (ht : IsTup s.heap t xs.toArray) (hs : s.heap.IsSliceOf sl .none .none vs) (ps : IsPart vs (some (-1)))
    (h : Q (.ref s.heap.objs.size) { s with heap := s.heap.push { cls := .type "tuple", data := .seq xs.reverse.toArray } })
    (hsz : xs.length ≤ sizeLine) : wpAny (model prog w) A (getItem (.ref t) (.ref sl)) Q E s := by
  have hok : sizeOk (.seq xs.reverse.toArray) := by
    show xs.reverse.toArray.size ≤ sizeLine
    rw [List.size_toArray, List.length_reverse]
    exact hsz
  obtain ⟨os, hos, hcs, hds⟩ := id hs
  have hTs : s.TypeIs (.ref sl) "slice" := ⟨os, hos, hcs⟩
  unfold getItem
  try with_reducible refine wpAny_holding ?_
  first | refine wpAny_bind (wpAny_pure ?_) | skip
  refine wpAny_bind (wpAny_sequenceKey ht.typeIs (by decide) ?_)
  refine wpAny_bind (wpAny_callSpecial?_slot (name := Str.ofString "__getitem__") ht.typeIs slot_tuple_getitem
    (wpAny_call_entry slot_tuple_getitem ht.typeIs entry_tuple_getitem ?_ (args_tuple_getitem _ _)))
  show wpAny _ _ (Builtin.Tuple.tupleItemsOf (.ref t) >>= _) _ _ s
  refine wpAny_bind (tupleItemsOf_ ht ?_)
  refine wpAny_bind (wpAny_typeOf hTs ?_)
  rw [if_pos (by decide)]
  refine wpAny_bind (sliceApplied_back (n := xs.toArray.size) hs ps ?_)
  have hno : ¬ ((((xs.toArray.size : Nat) : Int) - 1 == 0 && (-1 : Int) == 1 && xs.toArray.size == xs.toArray.size) = true) := by
    rw [show ((-1 : Int) == 1) = false from rfl, Bool.and_false, Bool.false_and]
    exact Bool.false_ne_true
  show wpAny _ _ (if (((xs.toArray.size : Nat) : Int) - 1 == 0 && (-1 : Int) == 1 && xs.toArray.size == xs.toArray.size) = true then _ else _) _ _ s
  rw [if_neg hno, List.size_toArray, pick_back]
  first
    | exact wpAny_bind (m := Builtin.Tuple.tupleExact _) (wpAny_newObj_type (wpAny_pure ⟨_, rfl, wpAny_pure h⟩) hok)
    | exact wpAny_bind (m := Builtin.Tuple.tupleExact _) (wpAny_newObj_type (wpAny_bind (wpAny_pure (wpAny_pure ⟨_, rfl, wpAny_pure h⟩))) hok)
    | exact wpAny_bind (wpAny_bind (m := Builtin.Tuple.tupleExact _) (wpAny_newObj_type (wpAny_pure (wpAny_pure ⟨_, rfl, wpAny_pure h⟩)) hok))
    | exact wpAny_bind (wpAny_bind (m := Builtin.Tuple.tupleExact _) (wpAny_newObj_type (wpAny_pure ⟨_, rfl, wpAny_pure h⟩) hok))
end
end Lq
namespace Lq
open PySem PySem.Spec PyProof.Rows L2
section
variable {X : Cx}
/-- t[::-1], t a tuple -/
def tBackT (K : PySem.W.Frag) (te : TE) : TE := fun σ H Q => te σ H fun x H1 => ∃ a xs, x = .ref a ∧ SqT K H1 a xs ∧ ∀ p, H1 p = none → Q (.ref p) (upd H1 p (.tup xs.reverse))
theorem pe_backT {e : Expr} {te : TE} {k : Nat} {p1 p2 p3 pos : Pos} (he : PE X e te) :
    PE X (.Subscript e (.Slice none none (some (.UnaryOp .USub (.Constant (.int 1) k p1) p2)) p3) pos) (tBackT X.K te) := by
  refine ⟨fun pins s σ H Q I h => ?_⟩
  refine Subscript_ (thn (he.run pins s σ H _ I h) fun v s1 ⟨x, H1, I1, r1, q1⟩ => ?_)
  obtain ⟨a, xs, ex, hx, q⟩ := q1
  subst ex
  cases r1
  have hst : PO X (some (.UnaryOp .USub (.Constant (.int 1) k p1) p2)) (tPart (tUn (rU fun i => .int (-i)) (tC (.int 1)))) :=
    po_some (pe_un un_neg pe_int)
  refine wpAny_Slice (thn (po_none.run pins s1 σ H1 (fun o H2 => o = none ∧ H2 = H1) I1 ⟨rfl, rfl⟩)
    fun vl s2 ⟨l, H2, I2, pl, el, e2⟩ => ?_)
  subst el e2
  refine thn (po_none.run pins s2 σ H2 (fun o H3 => o = none ∧ H3 = H2) I2 ⟨rfl, rfl⟩)
    fun vu s3 ⟨u, H3, I3, pu, eu, e3⟩ => ?_
  subst eu e3
  refine thn (hst.run pins s3 σ H3 (fun o H4 => o = some (-1) ∧ H4 = H3) I3 ⟨1, rfl, -1, rfl, rfl, rfl⟩)
    fun vs s4 ⟨o, H4, I4, ps, eo, e4⟩ => ?_
  subst eo e4
  cases pl
  cases pu
  let s5 : Shared := { s4 with heap := s4.heap.push { cls := .type "slice", data := .fields #[.none, .none, vs] } }
  have I5 : Inv X pins σ H4 s5 := I4.kept (t' := s4.toks) fun b ob q => Heap.get?_push_of_some _ q
  obtain ⟨its, r, ht, hz⟩ := I5.tuple hx
  have hlen := r.length
  show wpAny (model X.prog X.w) X.A (subscriptTail e (.Slice none none (some (.UnaryOp .USub (.Constant (.int 1) k p1) p2)) p3) (.ref a) (.ref s4.heap.objs.size))
    (EP X pins σ Q) X.xe s5
  refine tail_any (ops := [.ref a, .ref s4.heap.objs.size]) ht.typeIs (PyProof.Rows.slot_tuple_getitem.lookup) ?_ (by with_unfolding_all rfl)
  refine tuple_back ht (Heap.IsSliceOf.new _ _ _ vs) ps ?_ (by omega)
  refine ⟨.ref _, _, I5.laid (t' := s4.toks) (o := .tup xs.reverse) (fun b ob q => Heap.get?_push_of_some _ q) (Nat.le_refl _) ?_, rfl, q _ (I5.hok.fresh (Nat.le_refl _))⟩
  exact ⟨by rw [List.length_reverse]; exact hz, _, r.reverse, IsTup.new _ _⟩
end
end Lq
namespace Lq
open PySem PyProof.Rows
theorem none_left (a N : Nat) (sel : Nat → Bool) (hs : ∀ k, k < N → sel k = decide (a ≤ k)) : ∀ (ys : List Value) (m : Nat), a ≤ m → m + ys.length ≤ N →
    (ys.zipIdx m).filterMap (fun p => if sel p.2 = true then none else some p.1) = []
  | [], _, _, _ => rfl
  | y :: r, m, hm, hN => by
    rw [List.length_cons] at hN
    have e : sel (y, m).snd = true := (hs m (by omega)).trans (decide_eq_true hm)
    rw [List.zipIdx_cons, List.filterMap_cons]
    rw [if_pos e]
    exact none_left a N sel hs r (m + 1) (by omega) (by omega)
theorem take_zip (a N : Nat) (sel : Nat → Bool) (hs : ∀ k, k < N → sel k = decide (a ≤ k)) : ∀ (xs : List Value) (n : Nat), n ≤ a → n + xs.length ≤ N →
    (xs.zipIdx n).filterMap (fun p => if sel p.2 = true then none else some p.1) = xs.take (a - n)
  | [], n, _, _ => by simp
  | x :: r, n, hn, hN => by
    by_cases h : a = n
    · rw [h, Nat.sub_self, List.take_zero]
      exact none_left n N sel (by rw [← h]; exact hs) _ n (Nat.le_refl _) hN
    · rw [List.length_cons] at hN
      have hlt : ¬ a ≤ n := by omega
      have e1 : a - n = (a - (n + 1)) + 1 := by omega
      have e : ¬ sel (x, n).snd = true := by rw [hs n (by omega), decide_eq_false hlt]; exact Bool.false_ne_true
      rw [e1, List.take_succ_cons, List.zipIdx_cons, List.filterMap_cons]
      rw [if_neg e]
      show x :: _ = _
      rw [take_zip a N sel hs r (n + 1) (by omega) (by omega)]
section
open PySem.AutoSeq1 (wpAny_loadPart' idx_int)
variable {prog : Program} {w : World} {A : Around} {E : Value → Shared → Prop} {s : Shared}
theorem bounds_tail {a n : Nat} (h : a ≤ n) : sliceBounds (some (a : Int)) none none n = ((a : Int), (n : Int), 1) := by
  simp only [sliceBounds, Option.getD_none]
  have h1 : ¬ ((a : Int) < 0) := by omega
  simp only [h1, if_false, show (1 : Int) > 0 by decide, if_true]
  congr 1
  omega
theorem delItem_tail {l sl : Addr} {its : Array Value} {n : Nat} {vl : Value} {a : Nat} {Q : Unit → Shared → Prop}
    (e : s.heap.get? l = some { cls := .type "list", data := .seq its n }) (hs : s.heap.IsSliceOf sl vl .none .none)
    (pl : IsPart vl (some (a : Int))) (ha : a ≤ its.size) (hsz : its.size ≤ sizeLine)
    (h : ∀ F : Array Value → Array Value, F its = (its.toList.take a).toArray → Q () { s with heap := s.heap.update l (Obj.mapSeq F) }) :
    wpAny (model prog w) A (delItem (.ref l) (.ref sl)) Q E s := by
  have hl : s.heap.IsList l its := PySem.IsL.isList e
  obtain ⟨os, hos, hcs, hds⟩ := id hs
  have hTs : s.TypeIs (.ref sl) "slice" := ⟨os, hos, hcs⟩
  have hstep : ¬ ((rawPart none == rawInt 0) = true) := Bool.false_ne_true
  refine wpAny_delItem_slot ⟨_, e, rfl⟩ (by decide) PySem.F.slot_list_delitem ?_
  refine wpAny_call_entry PySem.F.slot_list_delitem ⟨_, e, rfl⟩ PySem.F.entry_list_delitem ?_ (PySem.F.args_list_delitem_2 _ _)
  show wpAny _ _ (Builtin.List.listSubscript? (.ref sl) >>= _) _ _ s
  refine wpAny_bind ?_
  unfold Builtin.List.listSubscript?
  refine wpAny_bind (wpAny_specialOf hTs slice_no_index ?_)
  simp only [Option.isNone_none, if_true]
  refine wpAny_pure ?_
  show wpAny _ _ (typeOf (.ref sl) >>= _) _ _ s
  refine wpAny_bind (wpAny_typeOf hTs ?_)
  first
    | rw [if_neg (by decide)]
    | refine PySem.W.KFB.if_not (by decide) ?_
  rw [listSliceParts_eq]
  refine wpAny_bind (wpAny_bind (wpAny_field hos hds (x := .none) rfl (wpAny_bind (wpAny_listPart .none ?_))))
  rw [if_neg hstep]
  refine wpAny_bind (wpAny_field hos hds (x := vl) rfl (wpAny_bind (wpAny_listPart pl ?_)))
  refine wpAny_bind (wpAny_field hos hds (x := .none) rfl (wpAny_bind (wpAny_listPart .none (wpAny_pure ?_))))
  unfold Builtin.List.listItems
  refine wpAny_bind (wpAny_bind (wpAny_seqItems e rfl (wpAny_pure ?_)))
  refine wpAny_bind (wpAny_of_eq ((sliceIndices_raw (some (a : Int)) none none its.size (by simp)).trans
    (congrArg (pure : Int × Int × Int → Sem (Int × Int × Int)) (bounds_tail ha))) ?_)
  refine wpAny_bind (wpAny_rule ?_)
  unfold Builtin.List.listUpdate
  have key : ∀ f : Nat → Bool, (∀ k, k < its.size → f k = decide (a ≤ k)) →
      (List.filterMap (fun x : Value × Nat => if f x.snd = true then none else some x.fst) its.toList.zipIdx).toArray = (its.toList.take a).toArray := fun f hf =>
    congrArg List.toArray (take_zip a its.size f hf its.toList 0 (Nat.zero_le _) (by rw [Array.length_toList]; omega))
  have hsel : ∀ k, k < its.size → (if (1 : Int) > 0 then decide ((a : Int) ≤ (k : Int)) && decide ((k : Int) < (its.size : Int)) && ((k : Int) - (a : Int)) % 1 == 0
      else decide ((its.size : Int) < (k : Int)) && decide ((k : Int) ≤ (a : Int)) && ((a : Int) - (k : Int)) % (-1) == 0) = decide (a ≤ k) := by
    intro k hk
    rw [if_pos (by decide), Int.emod_one, show ((0 : Int) == 0) = true from rfl, Bool.and_true, show decide ((k : Int) < (its.size : Int)) = true from decide_eq_true (by omega), Bool.and_true]
    exact decide_eq_decide.mpr (by omega)
  refine wpAny_bind (m := updateSeq l _) (wpAny_updateSeq (hz := hsz) (_hz' := ?hz) e rfl ?_)
  case hz =>
    refine Nat.le_trans (Nat.le_of_eq (congrArg Array.size (key _ hsel))) ?_
    rw [List.size_toArray, List.length_take, Array.length_toList]
    omega
  refine wpAny_bind (wpAny_letGo ?_)
  first
    | exact wpAny_bind (wpAny_pure (wpAny_pure ⟨.none, rfl, wpAny_pure (h _ (key _ hsel))⟩))
    | exact wpAny_pure ⟨.none, rfl, wpAny_pure (h _ (key _ hsel))⟩
    | exact wpAny_pure ⟨.none, rfl, (h _ (key _ hsel))⟩
end
end Lq
namespace Lq
open PySem PySem.Spec PyProof.Rows L2
section
variable {X : Cx}
/-- del xs[a:] -/
def tDelT (tO : TE) (tl : TO) : TS := fun D σ H => tO σ H fun x H1 => tl σ H1 fun i H2 => ∃ (l : Addr) (xs : List V) (a : Nat),
  x = .ref l ∧ i = some (a : Int) ∧ H2 l = some (.lst xs) ∧ a ≤ xs.length ∧ D.nx σ (upd H2 l (.lst (xs.take a)))
theorem ps_delT {o lo : Expr} {tO : TE} {tl : TO} {p2 tpos pos : Pos} (ho : PE X o tO) (hl : PO X (some lo) tl) :
    PS X (.Delete [.Subscript o (.Slice (some lo) none none p2) tpos] pos) (tDelT tO tl) := by
  refine ⟨fun pins s σ H D I h => ?_⟩
  refine wpAny_Delete (wpAny_deleteEach_cons (wpAny_delete_Subscript (thn (ho.run pins s σ H _ I h) fun u s1 ⟨x, H1, I1, rx, q1⟩ => ?_)))
  refine wpAny_Slice (thn (hl.run pins s1 σ H1 _ I1 q1) fun vl s2 ⟨i, H2, I2, pl, q2⟩ =>
    thn (po_none.run pins s2 σ H2 (fun o H3 => o = none ∧ H3 = H2) I2 ⟨rfl, rfl⟩) fun vu s3 ⟨j, H3, I3, pu, ej, e3⟩ => ?_)
  subst ej e3
  cases pu
  rw [evalPart_none]
  refine wpAny_pure ?_
  obtain ⟨l, xs, a, ex, ei, hH, ha, q⟩ := q2
  subst ex ei
  cases (show u = Value.ref l from rx)
  let s4 : Shared := { s3 with heap := s3.heap.push { cls := .type "slice", data := .fields #[vl, .none, .none] } }
  have I4 : Inv X pins σ H3 s4 := I3.kept (t' := s3.toks) fun b ob q => Heap.get?_push_of_some _ q
  obtain ⟨z, its, n, r, hlen, e⟩ := I4.lstM hH
  refine delItem_tail (s := s4) (a := a) e (Heap.IsSliceOf.new _ vl _ _) pl (by rw [List.size_toArray]; omega) (by rw [List.size_toArray]; omega) fun F hF => ?_
  refine wpAny_deleteEach_nil ⟨σ, _, I4.lset (its' := its.take a) (t' := s4.toks) hH e hF (r.take a) ?_, q⟩
  rw [List.length_take]
  omega
end
end Lq
/-! rules with the written part named (for the blocks of comprehensions) -/
namespace Lq
open PySem PySem.Spec PyProof.Rows L2
section
variable {X : Cx}
theorem ixT (K : PySem.W.Frag) (h : X.K = K := by rfl) : IxR X (rIxT K) := by subst h; exact ix_tup
theorem ixL (K : PySem.W.Frag) (h : X.K = K := by rfl) : IxR X (rIxL K) := by subst h; exact ix_list
theorem lenS (K : PySem.W.Frag) (h : X.K = K := by rfl) : CallR X (.builtin "len") (fun xs H Q => ∃ p ys, xs = [.ref p] ∧ (SqL K H p ys ∨ SqT K H p ys) ∧ Q (.int ys.length) H) := by subst h; exact call_len_seq
theorem isiK (K : PySem.W.Frag) (h : X.K = K := by rfl) : CallR X (.builtin "isinstance") (rIsi K) := by subst h; exact call_isi
theorem inS (K : PySem.W.Frag) (h : X.K = K := by rfl) : OpR X (compareOp .In) (rIn K false) := by subst h; exact op_in_seq
theorem notInS (K : PySem.W.Frag) (h : X.K = K := by rfl) : OpR X (compareOp .NotIn) (rIn K true) := by subst h; exact op_notIn_seq
end
end Lq
/-! tuple(d), and y = {k: v for ..} -/
namespace Lq
open PySem PySem.Spec PyProof.Rows PySem.W L2
section
variable {prog : Program} {w : World} {A : Around} {E : Value → Shared → Prop} {s : Shared} {T : String} {r d : Addr} {n : Nat} {P : Nat → Value → Prop} {OK : Heap → Prop}
theorem collectK {Q : List Value → Shared → Prop} (K : KdlSrc prog w T r d n P OK) (hh : A.handled = none) (hok : OK s.heap) (hn : n ≤ sizeLine)
    (hQ : ∀ (h' : Heap) (tk : Nat) (acc : Array Value), (∀ b o, s.heap.get? b = some o → h'.get? b = some o) → ItemsOf P acc n → Q acc.toList { s with heap := h', toks := tk }) :
    wpAny (model prog w) A (collect (.ref r)) Q E s := by
  have hlt := K.there _ hok
  unfold collect
  refine wpAny_bind (wpAny_runValue (codeAny_builtin F.entry_proto_collect ?_))
  rw [Around.under_plainId F.plain_proto_collect _]
  show wpAny _ A.in1 (newList [] >>= fun l =>
    again (.builtin "list.__iadd__" ⟨[l, .ref r], []⟩)) _ _ s
  refine wpAny_bind (wpAny_newObj_type ?_)
  refine wpAny_pure ⟨plainId_quiet F.plain_list_iadd _, codeAny_builtin F.entry_list_iadd ?_⟩
  rw [Around.under_plainId F.plain_list_iadd _]
  let s1 : Shared := { s with heap := s.heap.push { cls := .type "list", data := .seq ([] : List Value).toArray } }
  show wpAny _ A.in1 (Builtin.List.listExtendWith (.ref s.heap.objs.size) (.ref r) (.ref s.heap.objs.size)) _ _ s1
  have hS : s1.heap.get? s.heap.objs.size = some { cls := .type "list", data := .seq #[] 0 } := Heap.get?_push_size _ rfl
  refine wpAny_mono (kdl_extend (A := A) (s := s1) (R := fun rr s' => rr = .ok (.ret (.ref s.heap.objs.size)) ∧
      ∃ (h' : Heap) (tk : Nat) (acc : Array Value) (c' : Nat), s' = { s with heap := h', toks := tk } ∧ (∀ b o, s.heap.get? b = some o → h'.get? b = some o) ∧
        h'.get? s.heap.objs.size = some { cls := .type "list", data := .seq acc c' } ∧ ItemsOf P acc n)
    K hh (K.keep _ _ hok fun b _ o e => Heap.get?_push_of_some _ e) _ (Nat.ne_of_gt hlt.1) (Nat.ne_of_gt hlt.2) _ 0 hS
    (fun h' tk acc c' hk e hi => ⟨rfl, h', tk, acc, c', rfl, fun b o q => hk b o (Nat.ne_of_lt (Heap.lt_size q)) (Heap.get?_push_of_some _ q), e, hi⟩) hn) (fun fin s' h => ?_) (fun e s' h => ?_)
  · cases fin with
    | done f =>
      obtain ⟨e, h', tk, acc, c', rfl, hk, hS', hi⟩ := h
      cases e
      show wpAny _ A (load s.heap.objs.size >>= _) _ _ _
      exact wpAny_bind (wpAny_load hS' (wpAny_pure (hQ h' tk acc hk hi)))
    | again c' =>
      refine ⟨h.1, codeAny_mono h.2 fun rr s'' hr' => ?_⟩
      obtain ⟨rfl, h', tk, acc, c', rfl, hk, hS', hi⟩ := hr'
      show wpAny _ A (load s.heap.objs.size >>= _) _ _ _
      exact wpAny_bind (wpAny_load hS' (wpAny_pure (hQ h' tk acc hk hi)))
  · exact absurd h.1 (by simp)
theorem tuple_newK {Q₁ : Value → Shared → Prop} (K : KdlSrc prog w "dict" r d n P OK) (hh : A.handled = none) (hok : OK s.heap) (hn : n ≤ sizeLine)
    (h : ∀ (h' : Heap) (tk : Nat) (acc : Array Value), (∀ b o, s.heap.get? b = some o → h'.get? b = some o) → ItemsOf P acc n →
      Q₁ (.ref h'.objs.size) { s with heap := h'.push { cls := .type "tuple", data := .seq acc }, toks := tk }) :
    codeAny (model prog w) A (.call (.builtin "tuple.__new__") ⟨[.type "tuple", .ref r], []⟩) (wants Q₁ E) s := by
  refine codeAny_of_tree ?_
  show wpAny _ A.in1 (do
    checkBuiltinCall "tuple.__new__" ⟨[.type "tuple", .ref r], []⟩
    again (.builtin "tuple.__new__" ⟨[.type "tuple", .ref r], []⟩)) _ _ s
  refine wpAny_bind (wpAny_of_eq (F.newCall_tuple_1 _) (wpAny_pure ⟨plainId_quiet F.plain_tuple_new _, codeAny_builtin F.entry_tuple_new ?_⟩))
  rw [Around.under_plainId F.plain_tuple_new _]
  have hsub := sub_tuple_self
  have hinit := init_tuple_lookup
  have hmh := madeHere_tuple
  have hTI : s.TypeIs (.ref r) "dict" := K.type s hok
  have hh1 : A.in1.handled = none := hh
  wp_walk using wpAny_typeOf hTI, collectK (A := A.in1) K hh1 hok hn
  intro h' tk acc hk hacc
  show wpAny _ _ (Builtin.Tuple.tupleExact acc.toList.toArray >>= fun v => ret v) _ _ _
  unfold Builtin.Tuple.tupleExact
  refine wpAny_bind (wpAny_newObj_type ?_ (by
    show acc.toList.toArray.size ≤ sizeLine
    simp only [Array.toArray_toList]
    rw [hacc.1]
    exact hn))
  refine wpAny_pure ?_
  have e : acc.toList.toArray = acc := by simp
  rw [e]
  exact h h' tk acc hk hacc
theorem tuple_callK {Q : Value → Shared → Prop} (K : KdlSrc prog w "dict" r d n P OK) (hh : A.handled = none) (hok : OK s.heap) (hn : n ≤ sizeLine)
    (hQ : ∀ (h' : Heap) (tk : Nat) (acc : Array Value), (∀ b o, s.heap.get? b = some o → h'.get? b = some o) → ItemsOf P acc n →
      Q (.ref h'.objs.size) { s with heap := h'.push { cls := .type "tuple", data := .seq acc }, toks := tk }) :
    wpAny (model prog w) A (call (.type "tuple") [.ref r]) Q E s := by
  refine callType_codes (Q₁ := fun obj s₁ => s₁.TypeIs obj "tuple" ∧ Q obj s₁) F.called_tuple (F.typeCall_tuple_1 _) F.entry_object_init
    (tuple_newK (A := A.in1) K hh hok hn fun h' tk acc hk hacc => ⟨⟨_, Heap.get?_push_size _ rfl, rfl⟩, hQ h' tk acc hk hacc⟩) fun obj s₁ h₁ => ?_
  exact ⟨h₁.1, F.args_object_init_2 obj _, object_init_meets F.called_tuple.init.lookup F.called_tuple.made (by decide) prog w A.in1 _ s₁ ⟨h₁.1, rfl, h₁.2⟩⟩
end
/-- tuple(d): the keys -/
def rTupD : List V → Hp → VK → Prop := fun xs H Q => ∃ p kvs, xs = [.ref p] ∧ H p = some (.dK kvs) ∧ ∀ q, H q = none → Q (.ref q) (upd H q (.tup (kvs.map fun kv => kV kv.1)))
theorem tuple_dK {X : Cx} (hc : X.calm = true) : CallR X (.type "tuple") rTupD := by
  intro pins s σ H xs us Q I r h
  obtain ⟨p, kvs, e, hk, q⟩ := h
  subst e
  obtain ⟨u, eu, rx⟩ := vals1 r
  subst eu
  obtain rfl : u = Value.ref p := rx
  obtain ⟨z, lo, vs, rk, hd⟩ := (show ObjOk X.prog X.w H s.heap p (.dK kvs) from I.hok p _ hk)
  obtain ⟨ep, hat⟩ := hd.dictAt
  have hl : kvs.length = vs.length := Paired.length rk
  refine tuple_callK (PySem.W.kdl_dict (knd := mixKind X.prog X.w) (kvs := vs) (ep := ep) lo) (I.ok.hd hc) hat (by rw [← hl]; exact z) fun h' tk acc' hkeep hacc => ?_
  have I2 : Inv X pins σ H { s with heap := h', toks := tk } := I.kept hkeep
  refine ⟨.ref h'.objs.size, upd H h'.objs.size (.tup (kvs.map fun kv => kV kv.1)),
    I2.laid (t' := tk) (fun c o e => Heap.get?_push_of_some _ e) (Nat.le_refl _) (show ObjOk X.prog X.w _ _ _ (.tup (kvs.map fun kv => kV kv.1)) from ⟨?_, acc'.toList, ?_, ?_⟩), rfl, q _ (I2.hok.fresh (Nat.le_refl _))⟩
  · rw [List.length_map]
    exact z
  · have el : acc'.toList.length = acc'.size := by simp
    refine vals_of_at (by rw [List.length_map, el, hacc.1, hl]) fun j x w h1 h2 => ?_
    obtain ⟨k, y, hky, hi⟩ := hacc.2 j w (by rw [← Array.getElem?_toList]; exact h2)
    have e1 : (kvs.map (·.1))[j]? = some k := by
      rw [KV.keys rk, List.getElem?_map, hky] <;> rfl
    have e2 : (kvs.map fun kv => kV kv.1)[j]? = some (kV k) := by
      have e3 : (kvs.map fun kv => kV kv.1) = (kvs.map (·.1)).map kV := by rw [List.map_map] <;> rfl
      rw [e3, List.getElem?_map, e1] <;> rfl
    rw [e2] at h1
    cases h1
    exact keyIs_rel hi
  · rw [Array.toArray_toList]
    exact IsTup.new _ _
end Lq
namespace Lq
open PySem PySem.Spec PyProof.Rows L2
section
variable {X : Cx}
/-- y = {k: v for target in iter ..} -/
theorem ps_setDc {i : Nat} {y : Str} {py : Pos} {kx vx tg iter : Expr} {ifs : List Expr} {scope : Scope} {own : List (Str × Nat)} {pos spos : Pos} {wi : TI} {g : TG} {tt : TT} {tk tv : TE}
    (hc : X.calm = true) (hN : X.N.Nodup) (hy : X.N[i]? = some y) (hyl : X.env.scope.names.lookup y = some .local)
    (hsw : swapsWith (.DictComp kx vx [⟨tg, iter, ifs, 0⟩] scope pos) (some (.Name y py)) spos.line X.env = pure true) (hi : PI X tg iter wi) (ok : BlkOk X.N X.env.scope scope own)
    (hg : ∀ (s : Shared) (H : Hp) (C : Addr) (cl : List (Str × Addr)) (fp : List Addr), PG (X.blk s H scope (compEnvC scope cl C X.env) fp) tg g)
    (ht : ∀ (s : Shared) (H : Hp) (C : Addr) (cl : List (Str × Addr)) (fp : List Addr), PTs (X.blk s H scope (compEnvC scope cl C X.env) fp) ifs tt)
    (hk : ∀ (s : Shared) (H : Hp) (C : Addr) (cl : List (Str × Addr)) (fp : List Addr), PE (X.blk s H scope (compEnvC scope cl C X.env) fp) kx tk)
    (he : ∀ (s : Shared) (H : Hp) (C : Addr) (cl : List (Str × Addr)) (fp : List Addr), PE (X.blk s H scope (compEnvC scope cl C X.env) fp) vx tv)
    (hs : ∀ x, foldedSetIterable iter X.env x = pure x := by intro _; rfl) :
    PS X (.Assign [.Name y py] (.DictComp kx vx [⟨tg, iter, ifs, 0⟩] scope pos) spos) (tAsg (tDc wi g tt tk tv (own.map (·.2))) (gName i)) := by
  refine ⟨fun pins s σ H D I h => ?_⟩
  rw [exec_Assign_Name_used _ _ _ _ hsw]
  refine wpAny_bind (wpAny_standAt (wpAny_bind ?_))
  show wpAny _ X.A (do
    let _ ← comprehension (.DictComp kx vx [⟨tg, iter, ifs, 0⟩] scope pos) scope X.env (firstIterPos [⟨tg, iter, ifs, 0⟩] pos) newDict false (eval iter X.env) (some (assign (.Name y py) X.env))) _ _ s
  have h : tDc wi g tt tk tv (own.map (·.2)) σ H (fun x H1 => gName i x σ H1 D.nx) := h
  refine wpAny_bind (thn (dc_core (Qf := fun _ s' => SP X pins D .next s') hc hN I hi ok hg ht hk he hs h fun L C s' m H' I' q hn f => ?_) fun _ s' hq => wpAny_pure (wpAny_pure hq))
  show wpAny _ _ (assign (.Name y py) X.env (.ref L)) _ _ _
  refine wpAny_assign_Name (store_ok2 (v := V.ref L) I' hN hy (.inl hyl) rfl (fun s2 I2 ⟨a, sb, ha⟩ => ?_) (.inr hyl))
  obtain ⟨f0, f1, f2, f3, f4, f5⟩ := f
  have haC : C ≠ a := by
    rcases ha with z | z
    · rw [z]
      exact f1
    · exact fun e => f4 y a z e.symm
  refine ⟨m, hn.sameBut sb haC, fun h3 sb3 => ?_⟩
  exact ⟨_, H', I2.turned (t' := s2.toks) (fun b o hb e => (sb3.2 b hb).trans e) f0 f1 f3 f4 f5, q⟩
theorem sw_dict {kx vx : Expr} {gs : List Comprehension} {scope : Scope} {pos py : Pos} {y : Str} {l : Nat} {env : Env} (hk : env.scope.kind = .function) (hy : env.scope.names.lookup y = some .local) (hl : (py.line == pos.line) = true)
    (ha : (scope.names.any fun (n, k) => n == y && (k == .local || k == .cell)) = false) : swapsWith (.DictComp kx vx gs scope pos) (some (.Name y py)) l env = pure true := by
  have ky : env.kindOf y = some .local := hy
  have hb : env.blockKind = .function := by
    unfold Env.blockKind
    rw [hk]
    rfl
  unfold swapsWith
  simp only [hb, ky, ha, Expr.pos, hl]
  rfl
/-- the turns of a dict comprehension over a list that stays -/
theorem dc_list {K : PySem.W.Frag} {a : Addr} {xs : List V} {g : TG} {tt : TT} {tk tv : TE} {vs : List Nat} {σ : L2.St} {H1 : Hp} {D : Addr} {Qd : Hp → Prop} (Pv : Nat → Hp → Prop) (h0 : Pv 0 (upd H1 D (.dK [])))
    (hl : ∀ i H, i ≤ xs.length → Pv i H → SqL K H a xs)
    (hs : ∀ i x H, xs[i]? = some x → Pv i H → g x (wipe σ vs) H fun σ2 H2 => wipe σ2 vs = wipe σ vs ∧ tt σ2 H2 fun b H3 =>
      if b = true then tk σ2 H3 fun y H4 => tv σ2 H4 fun z H5 => ∃ kvs k, y = kV k ∧ H5 D = some (.dK kvs) ∧ kvs.length < sizeLine ∧ Pv (i + 1) (upd H5 D (.dK (putK kvs k z))) else Pv (i + 1) H3)
    (hd : ∀ H, Pv xs.length H → Qd H) :
    ∃ W : Nat → Nat → Hp → Prop, (∃ m, W 0 m (upd H1 D (.dK []))) ∧ ∀ i m H, W i m H →
      ((Itl K a).stop i H ∧ Qd H) ∨ ((Itl K a).go i H ∧ ∃ Nx : Hp → Prop, (∀ H', Nx H' → ∃ m', m' < m ∧ W (i + 1) m' H') ∧ ∀ x H', (Itl K a).yld i H x H' → g x (wipe σ vs) H' fun σ2 H2 => wipe σ2 vs = wipe σ vs ∧ tt σ2 H2 fun b H3 =>
        if b = true then tk σ2 H3 fun y H4 => tv σ2 H4 fun z H5 => ∃ kvs k, y = kV k ∧ H5 D = some (.dK kvs) ∧ kvs.length < sizeLine ∧ Nx (upd H5 D (.dK (putK kvs k z))) else Nx H3) := by
  refine ⟨fun i m H => m = xs.length - i ∧ i ≤ xs.length ∧ Pv i H, ⟨xs.length, by simp, Nat.zero_le _, h0⟩, ?_⟩
  rintro i m H ⟨rfl, hi, p⟩
  have q := hl i H hi p
  by_cases hlt : i < xs.length
  · refine .inr ⟨⟨xs, xs[i], q, by simp [hlt]⟩, Pv (i + 1), fun H' p' => ⟨xs.length - (i + 1), by omega, rfl, hlt, p'⟩, fun x H' y => ?_⟩
    obtain ⟨e, y⟩ := y
    subst e
    exact hs i x _ (y xs q) p
  · have e : i = xs.length := by omega
    subst e
    exact .inl ⟨⟨xs, q, Nat.le_refl _⟩, hd H p⟩
end
end Lq
namespace Lq
open PySem L2
def top (i : Nat) : Stmt := PySem.Challenge.pw_letquay_k10_whole_equality_admitted.main.body.getD i (.Pass ⟨0, 0, 0, 0⟩)
/-! ### types as trees -/
inductive Lab where
  | var (n : Nat) | fn | tup | made (s : Nat)
inductive Ty where
  | node (l : Lab) (ts : List Ty)
def Lab.word : Lab → Str
  | .var _ => "var" | .fn => "fn" | .tup => "tuple" | .made _ => "made"
def Lab.isVar : Lab → Bool
  | .var _ => true | _ => false
def Ty.lab : Ty → Lab
  | .node l _ => l
def Ty.kids : Ty → List Ty
  | .node _ ts => ts
theorem Ty.eta (T : Ty) : T = .node T.lab T.kids := by cases T; rfl
mutual
def Ty.sz : Ty → Nat
  | .node _ ts => Ty.szs ts + 1
def Ty.szs : List Ty → Nat
  | [] => 0
  | t :: r => Ty.sz t + Ty.szs r
end
theorem Ty.sz_eq (T : Ty) : T.sz = Ty.szs T.kids + 1 := by cases T; rw [Ty.sz]; rfl
theorem szs_nil : Ty.szs [] = 0 := by rw [Ty.szs]
theorem szs_cons (t : Ty) (r : List Ty) : Ty.szs (t :: r) = t.sz + Ty.szs r := by rw [Ty.szs]
theorem szs_app : ∀ (a b : List Ty), Ty.szs (a ++ b) = Ty.szs a + Ty.szs b
  | [], b => by rw [szs_nil, List.nil_append]; omega
  | t :: a, b => by rw [List.cons_append, szs_cons, szs_cons, szs_app a b]; omega
theorem szs_rev : ∀ (a : List Ty), Ty.szs a.reverse = Ty.szs a
  | [] => rfl
  | t :: a => by rw [List.reverse_cons, szs_app, szs_rev a, szs_cons, szs_cons, szs_nil]; omega
theorem sz_pos (T : Ty) : 0 < T.sz := by rw [T.sz_eq]; omega
/-- what stands in a type's tuple behind its word -/
def Rest (K : PySem.W.Frag) (H : Hp) (xs r : List V) : Lab → Prop
  | .var n => xs = [] ∧ r = [.int (n : Int)]
  | .fn => xs = r ∧ r.length = 2
  | .tup => ∃ b, r = [.ref b] ∧ SqT K H b xs
  | .made s => ∃ b, r = [.int (s : Int), .ref b] ∧ SqT K H b xs
def HeadH (K : PySem.W.Frag) (H : Hp) (a : Addr) (l : Lab) (xs : List V) : Prop := ∃ r, SqT K H a (.str l.word :: r) ∧ Rest K H xs r l
mutual
def TyH (K : PySem.W.Frag) (H : Hp) : Ty → V → Prop
  | .node l ts, v => ∃ (a : Addr) (xs : List V), v = .ref a ∧ HeadH K H a l xs ∧ TysH K H ts xs
def TysH (K : PySem.W.Frag) (H : Hp) : List Ty → List V → Prop
  | [], xs => xs = []
  | t :: r, xs => ∃ x ys, xs = x :: ys ∧ TyH K H t x ∧ TysH K H r ys
end
theorem TyH.out {K : PySem.W.Frag} {H : Hp} {T : Ty} {v : V} (h : TyH K H T v) : ∃ (a : Addr) (xs : List V), v = .ref a ∧ HeadH K H a T.lab xs ∧ TysH K H T.kids xs := by
  cases T
  unfold TyH at h
  exact h
theorem TyH.mk {K : PySem.W.Frag} {H : Hp} {l : Lab} {ts : List Ty} {a : Addr} {xs : List V} (h : HeadH K H a l xs) (hs : TysH K H ts xs) : TyH K H (.node l ts) (.ref a) := by
  unfold TyH
  exact ⟨a, xs, rfl, h, hs⟩
theorem TysH.nil {K : PySem.W.Frag} {H : Hp} : TysH K H [] [] := by unfold TysH; rfl
theorem TysH.cons {K : PySem.W.Frag} {H : Hp} {t : Ty} {ts : List Ty} {x : V} {xs : List V} (h : TyH K H t x) (hs : TysH K H ts xs) : TysH K H (t :: ts) (x :: xs) := by
  unfold TysH
  exact ⟨x, xs, rfl, h, hs⟩
theorem TysH.nil_inv {K : PySem.W.Frag} {H : Hp} {xs : List V} (h : TysH K H [] xs) : xs = [] := by
  unfold TysH at h
  exact h
theorem TysH.cons_inv {K : PySem.W.Frag} {H : Hp} {t : Ty} {ts : List Ty} {xs : List V} (h : TysH K H (t :: ts) xs) : ∃ x ys, xs = x :: ys ∧ TyH K H t x ∧ TysH K H ts ys := by
  unfold TysH at h
  exact h
theorem TysH.len {K : PySem.W.Frag} {H : Hp} : ∀ {ts : List Ty} {xs : List V}, TysH K H ts xs → xs.length = ts.length
  | [], xs, h => by rw [h.nil_inv]; rfl
  | t :: r, xs, h => by
    obtain ⟨x, ys, rfl, _, h2⟩ := h.cons_inv
    rw [List.length_cons, List.length_cons, TysH.len h2]
theorem TysH.app {K : PySem.W.Frag} {H : Hp} : ∀ {ts us : List Ty} {xs ys : List V}, TysH K H ts xs → TysH K H us ys → TysH K H (ts ++ us) (xs ++ ys)
  | [], us, xs, ys, h, h' => by rw [h.nil_inv]; exact h'
  | t :: r, us, xs, ys, h, h' => by
    obtain ⟨x, zs, rfl, h1, h2⟩ := h.cons_inv
    exact .cons h1 (TysH.app h2 h')
theorem TysH.rev {K : PySem.W.Frag} {H : Hp} : ∀ {ts : List Ty} {xs : List V}, TysH K H ts xs → TysH K H ts.reverse xs.reverse
  | [], xs, h => by rw [h.nil_inv]; exact .nil
  | t :: r, xs, h => by
    obtain ⟨x, ys, rfl, h1, h2⟩ := h.cons_inv
    rw [List.reverse_cons, List.reverse_cons]
    exact (TysH.rev h2).app (.cons h1 .nil)
/-- the last of a list that is not empty -/
theorem TysH.last {K : PySem.W.Frag} {H : Hp} {ts : List Ty} {xs : List V} (h : TysH K H ts xs) (hne : xs ≠ []) : ∃ us t ys y, ts = us ++ [t] ∧ xs = ys ++ [y] ∧ TysH K H us ys ∧ TyH K H t y := by
  have r := h.rev
  cases e : ts.reverse with
  | nil =>
    rw [e] at r
    exact absurd (by rw [← List.reverse_reverse xs, r.nil_inv]; rfl) hne
  | cons t us =>
    rw [e] at r
    obtain ⟨y, ys, e2, h1, h2⟩ := r.cons_inv
    refine ⟨us.reverse, t, ys.reverse, y, ?_, ?_, h2.rev, h1⟩
    · rw [← List.reverse_reverse ts, e, List.reverse_cons]
    · rw [← List.reverse_reverse xs, e2, List.reverse_cons]
theorem TysH.get {K : PySem.W.Frag} {H : Hp} : ∀ {ts : List Ty} {xs : List V}, TysH K H ts xs → ∀ {i : Nat} {x : V}, xs[i]? = some x → ∃ t, ts[i]? = some t ∧ TyH K H t x
  | [], xs, h, i, x, e => by rw [h.nil_inv] at e; cases e
  | t :: r, xs, h, 0, x, e => by
    obtain ⟨y, ys, rfl, h1, h2⟩ := h.cons_inv
    cases e
    exact ⟨t, rfl, h1⟩
  | t :: r, xs, h, i + 1, x, e => by
    obtain ⟨y, ys, rfl, h1, h2⟩ := h.cons_inv
    exact TysH.get h2 e
theorem TysH.get' {K : PySem.W.Frag} {H : Hp} : ∀ {ts : List Ty} {xs : List V}, TysH K H ts xs → ∀ {i : Nat} {t : Ty}, ts[i]? = some t → ∃ x, xs[i]? = some x ∧ TyH K H t x
  | [], xs, h, i, t, e => by cases e
  | t :: r, xs, h, 0, u, e => by
    obtain ⟨y, ys, rfl, h1, h2⟩ := h.cons_inv
    cases e
    exact ⟨y, rfl, h1⟩
  | t :: r, xs, h, i + 1, u, e => by
    obtain ⟨y, ys, rfl, h1, h2⟩ := h.cons_inv
    exact TysH.get' h2 e
/-- tuples stay -/
def Tups (K : PySem.W.Frag) (H H' : Hp) : Prop := ∀ a xs, SqT K H a xs → SqT K H' a xs
theorem tups_of {K : PySem.W.Frag} {H H' : Hp} (e : Same H H') : Tups K H H' := by
  intro a xs h
  rcases h with (h | ⟨o, h⟩) | h
  · exact .inl (.inl (e _ _ h))
  · exact .inl (.inr ⟨o, e _ _ h⟩)
  · exact .inr h
theorem Rest.mono {K : PySem.W.Frag} {H H' : Hp} (e : Tups K H H') {xs r : List V} {l : Lab} (h : Rest K H xs r l) : Rest K H' xs r l := by
  cases l with
  | var n => exact h
  | fn => exact h
  | tup => obtain ⟨b, h1, h2⟩ := h; exact ⟨b, h1, e _ _ h2⟩
  | made s => obtain ⟨b, h1, h2⟩ := h; exact ⟨b, h1, e _ _ h2⟩
theorem HeadH.mono {K : PySem.W.Frag} {H H' : Hp} (e : Tups K H H') {a : Addr} {l : Lab} {xs : List V} (h : HeadH K H a l xs) : HeadH K H' a l xs := by
  obtain ⟨r, h1, h2⟩ := h
  exact ⟨r, e _ _ h1, h2.mono e⟩
mutual
theorem TyH.mono {K : PySem.W.Frag} {H H' : Hp} (e : Tups K H H') : ∀ {T : Ty} {v : V}, TyH K H T v → TyH K H' T v
  | .node l ts, v, h => by
    unfold TyH at h ⊢
    obtain ⟨a, xs, h1, h2, h3⟩ := h
    exact ⟨a, xs, h1, h2.mono e, TysH.mono e h3⟩
theorem TysH.mono {K : PySem.W.Frag} {H H' : Hp} (e : Tups K H H') : ∀ {ts : List Ty} {xs : List V}, TysH K H ts xs → TysH K H' ts xs
  | [], xs, h => by unfold TysH at h ⊢; exact h
  | t :: r, xs, h => by
    unfold TysH at h ⊢
    obtain ⟨x, ys, h1, h2, h3⟩ := h
    exact ⟨x, ys, h1, TyH.mono e h2, TysH.mono e h3⟩
end
theorem same_upd {H : Hp} {p : Addr} (h : H p = none) (o : HO) : Same H (upd H p o) := fun b u q => by rw [upd_ne (ne_of_none q h)]; exact q
/-! ### defs -/
def At (K : PySem.W.Frag) (mg : Str → Option Value) (x : Str) (st : Stmt) (ps : List Str) : Prop := ∃ f fd, Fun K x x st f fd ∧ mg x = some (.ref f) ∧ Binds K fd ps []
def Has (P : Program) (w : World) (K : PySem.W.Frag) (mg : Str → Option Value) (base : Heap) (x : Str) (ps : List Str) (k : Nat) (sp : Sp) : Prop :=
  ∃ f fd, FnOk P w K mg base CX0 k f fd ps sp ∧ Binds K fd ps [] ∧ PySem.W.keepIn K (.ref f) = true ∧ mg x = some (.ref f)
structure Bi (mg : Str → Option Value) : Prop where
  len : mg "len" = none
  isinstance : mg "isinstance" = none
  all : mg "all" = none
  sum : mg "sum" = none
  int : mg "int" = none
  bool : mg "bool" = none
  str : mg "str" = none
  tuple : mg "tuple" = none
  list : mg "list" = none
  set : mg "set" = none
  sorted : mg "sorted" = none
  range : mg "range" = none
  zip : mg "zip" = none
  abs : mg "abs" = none
  max : mg "max" = none
  min : mg "min" = none
  enumerate : mg "enumerate" = none
section
variable {P : Program} {w : World} {K : PySem.W.Frag} {mg : Str → Option Value} {base : Heap}
theorem Has.mk {x : Str} {st : Stmt} {ps : List Str} {k : Nat} {sp : Sp} (A : At K mg x st ps) (h : ∀ f fd, Fun K x x st f fd → FnOk P w K mg base CX0 k f fd ps sp) : Has P w K mg base x ps k sp := by
  obtain ⟨f, fd, F, m, b⟩ := A
  exact ⟨f, fd, h f fd F, b, F.kp, m⟩
/-! ### words of types -/
theorem w_var : ∀ (l : Lab), decide (V.str l.word = V.str "var") = l.isVar
  | .var _ => (by decide +kernel : decide (V.str (Str.ofString "var") = V.str (Str.ofString "var")) = true)
  | .fn => (by decide +kernel : decide (V.str (Str.ofString "fn") = V.str (Str.ofString "var")) = false)
  | .tup => (by decide +kernel : decide (V.str (Str.ofString "tuple") = V.str (Str.ofString "var")) = false)
  | .made _ => (by decide +kernel : decide (V.str (Str.ofString "made") = V.str (Str.ofString "var")) = false)
def Lab.isFn : Lab → Bool
  | .fn => true | _ => false
def Lab.isTup : Lab → Bool
  | .tup => true | _ => false
def Lab.isMade : Lab → Bool
  | .made _ => true | _ => false
theorem w_fn : ∀ (l : Lab), decide (V.str l.word = V.str "fn") = l.isFn
  | .var _ => (by decide +kernel : decide (V.str (Str.ofString "var") = V.str (Str.ofString "fn")) = false)
  | .fn => (by decide +kernel : decide (V.str (Str.ofString "fn") = V.str (Str.ofString "fn")) = true)
  | .tup => (by decide +kernel : decide (V.str (Str.ofString "tuple") = V.str (Str.ofString "fn")) = false)
  | .made _ => (by decide +kernel : decide (V.str (Str.ofString "made") = V.str (Str.ofString "fn")) = false)
theorem w_tup : ∀ (l : Lab), decide (V.str l.word = V.str "tuple") = l.isTup
  | .var _ => (by decide +kernel : decide (V.str (Str.ofString "var") = V.str (Str.ofString "tuple")) = false)
  | .fn => (by decide +kernel : decide (V.str (Str.ofString "fn") = V.str (Str.ofString "tuple")) = false)
  | .tup => (by decide +kernel : decide (V.str (Str.ofString "tuple") = V.str (Str.ofString "tuple")) = true)
  | .made _ => (by decide +kernel : decide (V.str (Str.ofString "made") = V.str (Str.ofString "tuple")) = false)
theorem w_made : ∀ (l : Lab), decide (V.str l.word = V.str "made") = l.isMade
  | .var _ => (by decide +kernel : decide (V.str (Str.ofString "var") = V.str (Str.ofString "made")) = false)
  | .fn => (by decide +kernel : decide (V.str (Str.ofString "fn") = V.str (Str.ofString "made")) = false)
  | .tup => (by decide +kernel : decide (V.str (Str.ofString "tuple") = V.str (Str.ofString "made")) = false)
  | .made _ => (by decide +kernel : decide (V.str (Str.ofString "made") = V.str (Str.ofString "made")) = true)
/-! ### children -/
abbrev sChildren : Stmt := top 23
theorem sc23 : FnScope ["T"] ["T"] (defScope sChildren) := ⟨rfl, rfl, rfl, by decide +kernel, rfl, by decide +kernel, by decide +kernel⟩
def spChildren (K : PySem.W.Frag) : Sp := fun vs H Q _ => ∃ (T : Ty) (v : V), vs = [v] ∧ TyH K H T v ∧
  ∀ (H' : Hp) (c : Addr) (xs : List V), Same H H' → SqT K H' c xs → TysH K H' T.kids xs → Q (.ref c) H'
theorem ok_children (A : At K mg "children" sChildren ["T"]) : Has P w K mg base "children" ["T"] 1 (spChildren K) := by
  refine .mk A fun f fd F => ?_
  refine F.ok sc23 (fun vs H Q E h => ?_) (fun cdv A outer s H vs Q E hr h => ?_)
  · obtain ⟨T, v, rfl, _⟩ := h
    rfl
  obtain ⟨T, v, rfl, hT, q⟩ := h
  refine ⟨_, pss_cons (ps_if (pt_cmpR op_eq (pe_ix ix_tup (pv 0) pe_int (fun _ _ => rfl)) pe_str (nomark _)) (pss_one (ps_ret (pe_tup pa_nil))) pss_nil)
    (pss_cons (ps_if (pt_cmpR op_eq (pe_ix ix_tup (pv 0) pe_int (fun _ _ => rfl)) pe_str (nomark _)) (pss_one (ps_ret (pe_slice sl_tup (pv 0) (po_some pe_int) po_none))) pss_nil)
    (pss_one (ps_ret (pe_ifExp (pt_cmpR op_eq (pe_ix ix_tup (pv 0) pe_int (fun _ _ => rfl)) pe_str (nomark _)) (pe_ix ix_tup (pv 0) pe_int (fun _ _ => rfl)) (pe_ix ix_tup (pv 0) pe_int (fun _ _ => rfl)))))), ?_⟩
  obtain ⟨a, xs, rfl, ⟨r, hS, hR⟩, hK⟩ := hT.out
  have i0 : atI (V.str T.lab.word :: r) 0 = some (V.str T.lab.word) := atI_nat (j := 0) rfl
  refine ⟨_, rfl, a, _, _, _, rfl, rfl, hS, i0, rfl, _, rfl, ?_⟩
  rw [w_var]
  obtain ⟨l, ts⟩ := T
  have e0 : (Ty.node l ts).kids = ts := rfl
  cases l with
  | var n =>
    refine iteT ⟨by show 0 ≤ sizeLine; decide, fun t ht => ?_⟩
    obtain ⟨rfl, rfl⟩ := hR
    exact q _ t [] (same_upd ht _) (.inl (.inl upd_same)) (hK.mono (tups_of (same_upd ht _)))
  | fn =>
    refine iteF ?_
    refine ⟨_, rfl, a, _, _, _, rfl, rfl, hS, i0, rfl, _, rfl, iteT ?_⟩
    obtain ⟨rfl, hl⟩ := hR
    match xs, hl with
    | [x, y], _ =>
      refine ⟨_, rfl, _, rfl, a, _, rfl, hS, (show ¬ (HT.sIx 3 0 (some 1) = 0 ∧ HT.sIx 3 3 none = 3) by decide), fun t ht => ?_⟩
      exact q _ t [x, y] (same_upd ht _) (.inl (.inl upd_same)) (hK.mono (tups_of (same_upd ht _)))
  | tup =>
    refine iteF ⟨_, rfl, a, _, _, _, rfl, rfl, hS, i0, rfl, _, rfl, iteF ⟨_, rfl, a, _, _, _, rfl, rfl, hS, i0, rfl, _, rfl, iteT ?_⟩⟩
    obtain ⟨b, rfl, hb⟩ := hR
    exact ⟨_, rfl, a, _, _, _, rfl, rfl, hS, atI_nat (j := 1) rfl, q _ b xs (Same.refl _) hb hK⟩
  | made n =>
    refine iteF ⟨_, rfl, a, _, _, _, rfl, rfl, hS, i0, rfl, _, rfl, iteF ⟨_, rfl, a, _, _, _, rfl, rfl, hS, i0, rfl, _, rfl, iteF ?_⟩⟩
    obtain ⟨b, rfl, hb⟩ := hR
    exact ⟨_, rfl, a, _, _, _, rfl, rfl, hS, atI_nat (j := 2) rfl, q _ b xs (Same.refl _) hb hK⟩
end
end Lq
namespace Lq
open PySem L2
/-! ### heaps and lists -/
theorem same_set {H H' : Hp} {t : Addr} (e : Same H H') (h : H t = none) (o : HO) : Same H (upd H' t o) := fun b u q => by
  rw [upd_ne (ne_of_none q h)]
  exact e b u q
theorem tups_set {K : PySem.W.Frag} {H : Hp} {t : Addr} {xs : List V} (h : H t = some (.lst xs)) (o : HO) : Tups K H (upd H t o) := by
  intro a ys q
  rcases q with (q | ⟨u, q⟩) | q
  · exact .inl (.inl (by rw [upd_ne (ne_of q h (by intro z; cases z))]; exact q))
  · exact .inl (.inr ⟨u, by rw [upd_ne (ne_of q h (by intro z; cases z))]; exact q⟩)
  · exact .inr q
theorem Tups.trans {K : PySem.W.Frag} {H H1 H2 : Hp} (a : Tups K H H1) (b : Tups K H1 H2) : Tups K H H2 := fun c xs h => b c xs (a c xs h)
theorem Tups.refl {K : PySem.W.Frag} {H : Hp} : Tups K H H := fun _ _ h => h
theorem sq_new {K : PySem.W.Frag} {H : Hp} {p : Addr} {xs : List V} : SqT K (upd H p (.tup xs)) p xs := .inl (.inl upd_same)
theorem while_m {c : TT} {tb : TS} {D : Ends} {σ : St} {H : Hp} (Pv : Nat → St → Hp → Prop) {m : Nat} (h0 : Pv m σ H)
    (hs : ∀ m σ H, Pv m σ H → c σ H fun b H1 => if b = true then
      tb { D with nx := fun σ' H' => ∃ m', m' < m ∧ Pv m' σ' H', ct := fun σ' H' => ∃ m', m' < m ∧ Pv m' σ' H', bk := D.nx } σ H1 else D.nx σ H1)
    (mono : ∀ σ H Q Q', (∀ b H1, Q b H1 → Q' b H1) → c σ H Q → c σ H Q') :
    tWhile c tb D σ H := by
  refine ⟨Pv, ⟨m, h0⟩, fun m σ H p => ?_⟩
  refine mono σ H _ _ (fun b H1 q => ?_) (hs m σ H p)
  cases b with
  | true => exact ⟨_, fun σ' H' h => h, q⟩
  | false => exact q
theorem last_of {xs : List V} (h : xs ≠ []) : ∃ ys y, xs = ys ++ [y] := ⟨xs.dropLast, xs.getLast h, (List.dropLast_concat_getLast h).symm⟩
theorem last_at (ys : List V) (y : V) : (ys ++ [y])[(ys ++ [y]).length - 1]? = some y := by
  rw [List.length_append, List.length_singleton, Nat.add_sub_cancel]
  simp
theorem drop_at (ys : List V) (y : V) : (ys ++ [y]).dropLast = ys := by simp
theorem tyx_tup {K : PySem.W.Frag} {H : Hp} {a : Addr} {xs : List V} (h : SqT K H a xs) : TyX K H (.ref a) (.type "tuple") := by
  rcases h with (h | ⟨o, h⟩) | ⟨o, its, n, h1, h2, _⟩
  · exact .base (.tup h)
  · exact .fTuple h
  · exact .kTuple h1 h2
theorem small300 {n : Nat} (h : n ≤ 2000) : n ≤ sizeLine := Nat.le_trans h (by decide)
theorem r_int {i : Int} {t : Tok} : RelV (.int i) (.int i t) := ⟨t, rfl⟩
theorem r_str {x : Str} {t : Tok} : RelV (.str x) (.str x t) := ⟨t, rfl⟩
theorem r_ref {a : Addr} : RelV (.ref a) (.ref a) := rfl
structure Ct (K : PySem.W.Frag) (mg : Str → Option Value) : Prop where
  BEYOND : ∃ t, mg "BEYOND" = some (.int (10 ^ 60) t)
  MAX_SIZE : ∃ t, mg "MAX_SIZE" = some (.int 300 t)
  MAX_ARITY : ∃ t, mg "MAX_ARITY" = some (.int 4 t)
  LONGEST : ∃ t, mg "LONGEST_NAME" = some (.int 8 t)
  LOW : ∃ t, mg "LOW_LETTERS" = some (.str "abcdefghijklmnopqrstuvwxyz" t)
  HIGH : ∃ t, mg "HIGH_LETTERS" = some (.str "ABCDEFGHIJKLMNOPQRSTUVWXYZ" t)
section
variable {P : Program} {w : World} {K : PySem.W.Frag} {mg : Str → Option Value} {base : Heap}
/-! ### with_children -/
abbrev s_with_children : Stmt := top 24
theorem sc_with_children : FnScope ["T", "parts"] ["T", "parts"] (defScope s_with_children) := ⟨rfl, rfl, rfl, by decide +kernel, rfl, by decide +kernel, by decide +kernel⟩
def spWith (K : PySem.W.Frag) : Sp := fun vs H Q _ => ∃ (T : Ty) (v : V) (b : Addr) (us : List Ty) (ys : List V), vs = [v, .ref b] ∧ TyH K H T v ∧ SqT K H b ys ∧ TysH K H us ys ∧
  T.lab.isVar = false ∧ (T.lab.isFn = true → us.length = 2) ∧ us.length ≤ 1000 ∧ ∀ (H' : Hp) (c : Addr), Same H H' → TyH K H' (.node T.lab us) (.ref c) → Q (.ref c) H'
theorem ok_with (A : At K mg "with_children" s_with_children ["T", "parts"]) : Has P w K mg base "with_children" ["T", "parts"] 1 (spWith K) := by
  refine .mk A fun f fd F => ?_
  refine F.ok sc_with_children (fun vs H Q E h => ?_) (fun cdv A outer s H vs Q E hr h => ?_)
  · obtain ⟨T, v, b, us, ys, rfl, _⟩ := h
    rfl
  obtain ⟨T, v, b, us, ys, rfl, hT, hb, hU, nv, f2, u1, q⟩ := h
  refine ⟨_, (pss_cons (ps_if (pt_cmpR op_eq (pe_ix (ixT K) (pv 0) pe_int (fun _ _ => rfl)) pe_str (nomark _)) (pss_one (ps_ret (pe_tup (pa_cons pe_str (StX.pa_star (pv 1) pa_nil))))) pss_nil)
  (pss_one (ps_ret (pe_ifExp (pt_cmpR op_eq (pe_ix (ixT K) (pv 0) pe_int (fun _ _ => rfl)) pe_str (nomark _)) (pe_tup (pa_cons pe_str (pa_cons (pv 1) pa_nil))) (pe_tup (pa_cons pe_str (pa_cons (pe_ix (ixT K) (pv 0) pe_int (fun _ _ => rfl)) (pa_cons (pv 1) pa_nil)))))))), ?_⟩
  obtain ⟨a, xs, rfl, ⟨r, hS, hR⟩, hK⟩ := hT.out
  have i0 : atI (V.str T.lab.word :: r) 0 = some (V.str T.lab.word) := atI_nat (j := 0) rfl
  have hz : (ys.length : Nat) ≤ 1000 := by rw [hU.len]; exact u1
  refine ⟨_, rfl, a, _, _, _, rfl, rfl, hS, i0, rfl, _, rfl, ?_⟩
  rw [w_fn]
  obtain ⟨l, ts⟩ := T
  have two : ∀ (l : Lab) (r' : List V) (t : Addr) (H1 : Hp), Same H H1 → H1 t = none → TysH K (upd H1 t (.tup (V.str l.word :: r'))) us ys := fun l r' t H1 g ht =>
    hU.mono ((tups_of g).trans (tups_of (same_upd ht _)))
  cases l with
  | var n => cases nv
  | fn =>
    refine iteT ⟨_, rfl, b, ys, rfl, .inl hb, ?_, fun t ht => ?_⟩
    · show (V.str _ :: (ys ++ [])).length ≤ sizeLine
      rw [List.length_cons, List.append_nil]
      exact small300 (by omega)
    · have ha : ys ++ [] = ys := List.append_nil ys
      exact q _ t (same_upd ht _) (.mk (xs := ys ++ []) ⟨ys ++ [], sq_new, rfl, by rw [ha, hU.len]; exact f2 rfl⟩ (by rw [ha]; exact two .fn ys t H (Same.refl _) ht))
  | tup =>
    refine iteF ⟨_, rfl, a, _, _, _, rfl, rfl, hS, i0, rfl, _, rfl, ?_⟩
    refine iteT ⟨_, rfl, by show 2 ≤ sizeLine; decide, fun t ht => ?_⟩
    exact q _ t (same_upd ht _) (.mk ⟨[.ref b], sq_new, b, rfl, tups_of (same_upd ht _) _ _ hb⟩ (two .tup _ t H (Same.refl _) ht))
  | made n =>
    obtain ⟨c, rfl, hc⟩ := hR
    refine iteF ⟨_, rfl, a, _, _, _, rfl, rfl, hS, i0, rfl, _, rfl, ?_⟩
    refine iteF ⟨_, rfl, a, _, _, _, rfl, rfl, hS, atI_nat (j := 1) rfl, _, rfl, by show 3 ≤ sizeLine; decide, fun t ht => ?_⟩
    exact q _ t (same_upd ht _) (.mk ⟨[.int n, .ref b], sq_new, b, rfl, tups_of (same_upd ht _) _ _ hb⟩ (two (.made n) _ t H (Same.refl _) ht))
/-! ### is_integer, is_whole -/
abbrev s_is_integer : Stmt := top 2
theorem sc_is_integer : FnScope ["value"] ["value"] (defScope s_is_integer) := ⟨rfl, rfl, rfl, by decide +kernel, rfl, by decide +kernel, by decide +kernel⟩
def spInt : Sp := fun vs H Q _ => ∃ i : Int, vs = [.int i] ∧ -(10 ^ 60) < i ∧ i < 10 ^ 60 ∧ Q (.bl true) H
theorem ok_is_integer (A : At K mg "is_integer" s_is_integer ["value"]) (B : Bi mg) (C : Ct K mg) : Has P w K mg base "is_integer" ["value"] 1 spInt := by
  refine .mk A fun f fd F => ?_
  refine F.ok sc_is_integer (fun vs H Q E h => ?_) (fun cdv A outer s H vs Q E hr h => ?_)
  · obtain ⟨i, rfl, _⟩ := h
    rfl
  obtain ⟨i, rfl, h1, h2, q⟩ := h
  obtain ⟨tB, T_BEYOND⟩ := C.BEYOND
  refine ⟨_, (pss_one (ps_ret (pe_and (pe_callB (isiK K) (by rfl) B.isinstance (by decide +kernel) (pa_cons (pv 0) (pa_cons (pe_bltn (v := .ty "int") rfl B.int (by decide +kernel) rfl) pa_nil))) (pe_and (pe_not (pe_callB (isiK K) (by rfl) B.isinstance (by decide +kernel) (pa_cons (pv 0) (pa_cons (pe_bltn (v := .ty "bool") rfl B.bool (by decide +kernel) rfl) pa_nil)))) (pe_one (pe_chain op_lt op_lt (pe_un un_neg (pe_glob rfl T_BEYOND r_int)) (pv 0) (pe_glob rfl T_BEYOND r_int))))))), ?_⟩
  refine ⟨_, rfl, _, _, _, _, true, rfl, .ty _, .base (.int i), kit_ty (by decide +kernel), _, rfl, iteT ?_⟩
  refine ⟨_, rfl, _, _, _, _, false, rfl, .ty _, .base (.int i), kit_ty (by decide +kernel), _, rfl, _, rfl, iteT ?_⟩
  refine ⟨_, rfl, _, rfl, _, _, rfl, rfl, _, rfl, ?_⟩
  rw [decide_eq_true h1]
  refine iteT ⟨_, _, rfl, rfl, ?_⟩
  have d : Q (.bl (decide (i < 10 ^ 60))) H := by
    rw [decide_eq_true h2]
    exact q
  exact d
abbrev s_is_whole : Stmt := top 3
theorem sc_is_whole : FnScope ["value"] ["value"] (defScope s_is_whole) := ⟨rfl, rfl, rfl, by decide +kernel, rfl, by decide +kernel, by decide +kernel⟩
def spWhole : Sp := fun vs H Q _ => ∃ i : Int, vs = [.int i] ∧ 0 ≤ i ∧ i < 10 ^ 60 ∧ Q (.bl true) H
theorem ok_is_whole (A : At K mg "is_whole" s_is_whole ["value"]) (D_is_integer : Has P w K mg base "is_integer" ["value"] 1 spInt) : Has P w K mg base "is_whole" ["value"] 2 spWhole := by
  refine .mk A fun f fd F => ?_
  refine F.ok sc_is_whole (fun vs H Q E h => ?_) (fun cdv A outer s H vs Q E hr h => ?_)
  · obtain ⟨i, rfl, _⟩ := h
    rfl
  obtain ⟨i, rfl, h1, h2, q⟩ := h
  obtain ⟨f_is_integer, fd_is_integer, G_is_integer, b_is_integer, k_is_integer, m_is_integer⟩ := D_is_integer
  refine ⟨_, (pss_one (ps_ret (pe_and (pe_call G_is_integer (hr.mono (by decide)) rfl m_is_integer k_is_integer b_is_integer .nil pass0 (pa_cons (pv 0) pa_nil)) (pe_one (pe_cmpR op_ge (pv 0) pe_int (nomark _)))))), ?_⟩
  refine ⟨_, rfl, i, rfl, by omega, h2, _, rfl, iteT ⟨_, rfl, _, _, rfl, rfl, ?_⟩⟩
  have d : Q (.bl (decide (i ≥ 0))) H := by
    rw [decide_eq_true (show i ≥ 0 from h1)]
    exact q
  exact d
end
end Lq
namespace Lq
open PySem L2
mutual
def Ty.pre : Ty → List Ty
  | .node l ts => .node l ts :: Ty.pres ts
def Ty.pres : List Ty → List Ty
  | [] => []
  | t :: r => Ty.pre t ++ Ty.pres r
end
theorem pre_eq (T : Ty) : T.pre = T :: Ty.pres T.kids := by cases T; rw [Ty.pre]; rfl
theorem pres_nil : Ty.pres [] = [] := by rw [Ty.pres]
theorem pres_cons (t : Ty) (r : List Ty) : Ty.pres (t :: r) = t.pre ++ Ty.pres r := by rw [Ty.pres]
theorem pres_app : ∀ (a b : List Ty), Ty.pres (a ++ b) = Ty.pres a ++ Ty.pres b
  | [], b => by rw [pres_nil, List.nil_append, List.nil_append]
  | t :: a, b => by rw [List.cons_append, pres_cons, pres_cons, pres_app a b, List.append_assoc]
mutual
theorem pre_len : ∀ (T : Ty), T.pre.length = T.sz
  | .node l ts => by rw [Ty.pre, Ty.sz, List.length_cons, pres_len ts]
theorem pres_len : ∀ (ts : List Ty), (Ty.pres ts).length = Ty.szs ts
  | [] => by rw [pres_nil, szs_nil]; rfl
  | t :: r => by rw [pres_cons, szs_cons, List.length_append, pre_len t, pres_len r]
end
theorem len_szs : ∀ (ts : List Ty), ts.length ≤ Ty.szs ts
  | [] => Nat.zero_le _
  | t :: r => by
    have h1 := len_szs r
    have h2 := sz_pos t
    rw [szs_cons, List.length_cons]
    omega
theorem kids_len (T : Ty) : T.kids.length < T.sz := by
  have h := len_szs T.kids
  rw [T.sz_eq]
  omega
section
variable {P : Program} {w : World} {K : PySem.W.Frag} {mg : Str → Option Value} {base : Heap}
abbrev s_nodes_of : Stmt := top 28
theorem sc_nodes_of : FnScope ["T", "found", "todo", "part"] ["T"] (defScope s_nodes_of) := ⟨rfl, rfl, rfl, by decide +kernel, rfl, by decide +kernel, by decide +kernel⟩
def spNodes (K : PySem.W.Frag) : Sp := fun vs H Q _ => ∃ (T : Ty) (v : V), vs = [v] ∧ TyH K H T v ∧ T.sz ≤ 1000 ∧
  ∀ (H' : Hp) (p : Addr) (xs : List V), Same H H' → H p = none → H' p = some (.lst xs) → TysH K H' T.pre xs → Q (.ref p) H'
theorem ok_nodes_of (A : At K mg "nodes_of" s_nodes_of ["T"]) (B : Bi mg) (D_children : Has P w K mg base "children" ["T"] 1 (spChildren K)) : Has P w K mg base "nodes_of" ["T"] 2 (spNodes K) := by
  refine .mk A fun f fd F => ?_
  refine F.ok sc_nodes_of (fun vs H Q E h => ?_) (fun cdv A outer s H vs Q E hr h => ?_)
  · obtain ⟨T, v, rfl, _⟩ := h
    rfl
  obtain ⟨T, v, rfl, hT, hsz, q⟩ := h
  obtain ⟨f_children, fd_children, G_children, b_children, k_children, m_children⟩ := D_children
  refine ⟨_, (pss_cons (ps_set (i := 1) sc_nodes_of.nd rfl (Or.inl rfl) (pe_lst pa_nil))
  (pss_cons (ps_set (i := 2) sc_nodes_of.nd rfl (Or.inl rfl) (pe_lst (pa_cons (pv 0) pa_nil)))
  (pss_cons (ps_while PassesOwn.never (pt_truth (pv 2) (by intro _; rfl)) (pss_cons (ps_set (i := 3) sc_nodes_of.nd rfl (Or.inl rfl) (pe_bm0 PySem.F.plainAttrs_list PySem.F.slot_list_pop PySem.F.type_list_pop mt_pop (pv 2)))
  (pss_cons (ps_expr (pe_bm PySem.F.plainAttrs_list PySem.F.slot_list_append PySem.F.type_list_append mt_append (pv 1) (pa_cons (pv 3) pa_nil)))
  (pss_one (ps_expr (pe_bm PySem.F.plainAttrs_list PySem.F.slot_list_extend PySem.F.type_list_extend mt_extT (pv 2) (pa_cons (pe_backT (pe_call G_children (hr.mono (by decide)) rfl m_children k_children b_children .nil pass0 (pa_cons (pv 3) pa_nil))) pa_nil)))))))
  (pss_one (ps_ret (pv 1)))))), ?_⟩
  refine ⟨Nat.zero_le _, fun fa ha => ?_⟩
  refine ⟨_, rfl, by show 1 ≤ sizeLine; decide, fun ta hb => ?_⟩
  have hfa : H fa = none := ha
  have hta : H ta = none := (same_upd ha _).free hb
  have nft : fa ≠ ta := by
    intro e
    rw [e, upd_same] at hb
    cases hb
  dsimp only [gName, tSeq]
  refine while_m (fun m σ H1 => ∃ (fts tts : List Ty) (xs ys : List V) (x3 : Option V), σ = [some v, some (.ref fa), some (.ref ta), x3] ∧ Same H H1 ∧ H1 fa = some (.lst xs) ∧ TysH K H1 fts xs ∧
    H1 ta = some (.lst ys) ∧ TysH K H1 tts ys ∧ fts ++ Ty.pres tts.reverse = T.pre ∧ m = Ty.szs tts) (m := T.sz) ?_ ?_ (fun σ H1 Q1 Q2 mo ⟨z, e, k, tk, qq⟩ => ⟨z, e, k, tk, mo _ _ qq⟩)
  · refine ⟨[], [T], [], [v], none, rfl, same_set (same_upd ha _) hta _, by rw [upd_ne nft, upd_same], .nil, upd_same, .cons (hT.mono (tups_of (same_set (same_upd ha _) hta _))) .nil, ?_, ?_⟩
    · rw [List.nil_append, List.reverse_singleton, pres_cons, pres_nil, List.append_nil]
    · rw [szs_cons, szs_nil]
      omega
  rintro m σ H1 ⟨fts, tts, xs, ys, x3, rfl, g, h1, k1, h2, k2, e, rfl⟩
  refine ⟨_, rfl, _, .inl ⟨ys, SqL.of h2, rfl⟩, ?_⟩
  have el := congrArg List.length e
  rw [List.length_append, pres_len, pre_len, szs_rev] at el
  by_cases hne : ys = []
  · subst hne
    refine iteF ?_
    have et : tts = [] := by
      have := k2.len
      exact List.eq_nil_of_length_eq_zero this.symm
    subst et
    rw [List.reverse_nil, pres_nil, List.append_nil] at e
    subst e
    exact ⟨_, rfl, q H1 fa xs g hfa h1 k1⟩
  · have ee : (!ys.isEmpty) = true := by
      cases ys with
      | nil => exact absurd rfl hne
      | cons _ _ => rfl
    rw [ee]
    refine iteT ?_
    obtain ⟨us, t, zs, y, rfl, rfl, ku, kt⟩ := k2.last hne
    rw [szs_app, szs_cons, szs_nil] at el
    have hk := kids_len t
    have hus := len_szs us
    have hlu := ku.len
    have hlx := k1.len
    have hsk := t.sz_eq
    have hkl := len_szs t.kids
    refine ⟨_, rfl, .inl ⟨rfl, _, SqL.of h2⟩, ta, _, y, rfl, rfl, h2, last_at zs y, ?_⟩
    rw [drop_at]
    have t2 : Tups K H1 (upd H1 ta (.lst zs)) := tups_set h2 _
    have h1' : upd H1 ta (.lst zs) fa = some (.lst xs) := by rw [upd_ne nft]; exact h1
    refine ⟨_, rfl, .inl ⟨rfl, _, SqL.of h1'⟩, _, rfl, fa, xs, y, rfl, rfl, h1', small1000 (by omega), ?_⟩
    have t3 := t2.trans (tups_set h1' (.lst (xs ++ [y])))
    refine ⟨_, rfl, .inl ⟨rfl, _, SqL.of (by rw [upd_ne nft.symm]; exact upd_same)⟩, _, rfl, t, y, rfl, kt.mono t3, fun H4 c cs g4 hc hk4 => ?_⟩
    refine ⟨c, cs, rfl, hc, fun p hp => ?_⟩
    have t4 := t3.trans (tups_of g4)
    have h4t : H4 ta = some (.lst zs) := g4 _ _ (by rw [upd_ne nft.symm]; exact upd_same)
    have h4f : H4 fa = some (.lst (xs ++ [y])) := g4 _ _ upd_same
    have h5t : upd H4 p (.tup cs.reverse) ta = some (.lst zs) := same_upd hp _ _ _ h4t
    have h5f : upd H4 p (.tup cs.reverse) fa = some (.lst (xs ++ [y])) := same_upd hp _ _ _ h4f
    have hcl := hk4.len
    refine ⟨ta, p, zs, cs.reverse, rfl, rfl, h5t, sq_new, ?_, ?_⟩
    · rw [List.length_reverse]
      exact small300 (by omega)
    have t5 := t4.trans ((tups_of (same_upd hp (.tup cs.reverse))).trans (tups_set h5t (.lst (zs ++ cs.reverse))))
    refine ⟨Ty.szs us + Ty.szs t.kids, ?_, fts ++ [t], us ++ t.kids.reverse, xs ++ [y], zs ++ cs.reverse, some y, rfl, ?_, ?_, ?_, upd_same, ?_, ?_, ?_⟩
    · rw [szs_app, szs_cons, szs_nil]
      omega
    · refine same_set ?_ hta _
      refine Same.trans ?_ (same_upd hp _)
      refine Same.trans ?_ g4
      exact same_set (same_set g hta _) hfa _
    · rw [upd_ne nft]
      exact h5f
    · exact (k1.mono t5).app (.cons (kt.mono t5) .nil)
    · exact (ku.mono t5).app (hk4.mono ((tups_of (same_upd hp (.tup cs.reverse))).trans (tups_set h5t _))).rev
    · rw [← e, List.reverse_append, List.reverse_reverse, List.reverse_append, List.reverse_singleton, List.singleton_append, pres_cons, pre_eq, pres_app]
      simp only [List.append_assoc, List.cons_append, List.nil_append]
    · rw [szs_app, szs_rev]
end
end Lq
namespace Lq
open PySem L2
/-- how many parts a type of this form has in a book with these arities -/
def LocOk (ar : List Nat) (l : Lab) (n : Nat) : Prop := match l with
  | .var m => n = 0 ∧ (m : Int) < 10 ^ 60
  | .fn => n = 2
  | .tup => n ≠ 1
  | .made s => 0 < s ∧ (s : Int) < 10 ^ 60 ∧ ar[s - 1]? = some n
def Ty.Ok (ar : List Nat) (T : Ty) : Prop := ∀ t ∈ T.pre, LocOk ar t.lab t.kids.length
theorem Ty.Ok.loc {ar : List Nat} {T : Ty} (h : T.Ok ar) : LocOk ar T.lab T.kids.length := h T (by rw [pre_eq]; exact List.mem_cons_self)
theorem mem_pres {t : Ty} : ∀ {ts : List Ty}, t ∈ ts → ∀ {u : Ty}, u ∈ t.pre → u ∈ Ty.pres ts
  | [], h, _, _ => nomatch h
  | x :: r, h, u, hu => by
    rw [pres_cons]
    rcases List.mem_cons.mp h with e | h'
    · subst e
      exact List.mem_append_left _ hu
    · exact List.mem_append_right _ (mem_pres h' hu)
theorem Ty.Ok.kid {ar : List Nat} {T t : Ty} (h : T.Ok ar) (m : t ∈ T.kids) : t.Ok ar := fun u hu => h u (by rw [pre_eq]; exact List.mem_cons_of_mem _ (mem_pres m hu))
theorem Rest.len1 {K : PySem.W.Frag} {H : Hp} {xs r : List V} {l : Lab} (h : Rest K H xs r l) : 1 ≤ r.length := by
  cases l with
  | var n => rw [h.2]; exact Nat.le_refl _
  | fn => rw [h.2]; decide
  | tup => obtain ⟨b, h1, _⟩ := h; rw [h1]; exact Nat.le_refl _
  | made s => obtain ⟨b, h1, _⟩ := h; rw [h1]; exact (by decide : 1 ≤ 2)
section
variable {P : Program} {w : World} {K : PySem.W.Frag} {mg : Str → Option Value} {base : Heap}
abbrev s__parts_of : Stmt := top 25
theorem sc__parts_of : FnScope ["value", "word"] ["value"] (defScope s__parts_of) := ⟨rfl, rfl, rfl, by decide +kernel, rfl, by decide +kernel, by decide +kernel⟩
def spParts (K : PySem.W.Frag) : Sp := fun vs H Q _ => ∃ (T : Ty) (v : V) (ar : List Nat), vs = [v] ∧ TyH K H T v ∧ LocOk ar T.lab T.kids.length ∧
  ∀ (H' : Hp) (c : Addr) (xs : List V), Same H H' → SqT K H' c xs → TysH K H' T.kids xs → Q (.ref c) H'
theorem ok_parts_of (A : At K mg "_parts_of" s__parts_of ["value"]) (B : Bi mg) (D_is_integer : Has P w K mg base "is_integer" ["value"] 1 spInt) (D_is_whole : Has P w K mg base "is_whole" ["value"] 2 spWhole) : Has P w K mg base "_parts_of" ["value"] 3 (spParts K) := by
  refine .mk A fun f fd F => ?_
  refine F.ok sc__parts_of (fun vs H Q E h => ?_) (fun cdv A outer s H vs Q E hr h => ?_)
  · obtain ⟨T, v, ar, rfl, _⟩ := h
    rfl
  obtain ⟨T, v, ar, rfl, hT, hL, q⟩ := h
  obtain ⟨f_is_integer, fd_is_integer, G_is_integer, b_is_integer, k_is_integer, m_is_integer⟩ := D_is_integer
  obtain ⟨f_is_whole, fd_is_whole, G_is_whole, b_is_whole, k_is_whole, m_is_whole⟩ := D_is_whole
  refine ⟨_, (pss_cons (ps_if (PW.pt (pw_or (pt_not (pt_val (pe_callB (isiK K) (by rfl) B.isinstance (by decide +kernel) (pa_cons (pv 0) (pa_cons (pe_bltn (v := .ty "tuple") rfl B.tuple (by decide +kernel) rfl) pa_nil))))) (pw_or (pt_cmpR op_lt (pe_callB (lenS K) (by rfl) B.len (by decide +kernel) (pa_cons (pv 0) pa_nil)) pe_int (nomark _)) (pw_or1 (pt_not (pt_val (pe_callB (isiK K) (by rfl) B.isinstance (by decide +kernel) (pa_cons (pe_ix (ixT K) (pv 0) pe_int (fun _ _ => rfl)) (pa_cons (pe_bltn (v := .ty "str") rfl B.str (by decide +kernel) rfl) pa_nil))))))))) (pss_one (ps_ret pe_non)) pss_nil)
  (pss_cons (ps_set (i := 1) sc__parts_of.nd rfl (Or.inl rfl) (pe_ix (ixT K) (pv 0) pe_int (fun _ _ => rfl)))
  (pss_cons (ps_if (pt_cmpR op_eq (pv 1) pe_str (nomark _)) (pss_one (ps_ret (pe_ifExp (PW.pt (pw_and (pt_cmpR op_eq (pe_callB (lenS K) (by rfl) B.len (by decide +kernel) (pa_cons (pv 0) pa_nil)) pe_int (nomark _)) (pw_and1 (pt_val (pe_call G_is_whole (hr.mono (by decide)) rfl m_is_whole k_is_whole b_is_whole .nil pass0 (pa_cons (pe_ix (ixT K) (pv 0) pe_int (fun _ _ => rfl)) pa_nil)))))) (pe_tup pa_nil) pe_non))) pss_nil)
  (pss_cons (ps_if (pt_cmpR op_eq (pv 1) pe_str (nomark _)) (pss_one (ps_ret (pe_ifExp (pt_cmpR op_eq (pe_callB (lenS K) (by rfl) B.len (by decide +kernel) (pa_cons (pv 0) pa_nil)) pe_int (nomark _)) (pe_slice sl_tup (pv 0) (po_some pe_int) po_none) pe_non))) pss_nil)
  (pss_cons (ps_if (pt_not (pt_val (pe_callB (isiK K) (by rfl) B.isinstance (by decide +kernel) (pa_cons (pe_ix (ixT K) (pv 0) (pe_un un_neg pe_int) (fun _ _ => rfl)) (pa_cons (pe_bltn (v := .ty "tuple") rfl B.tuple (by decide +kernel) rfl) pa_nil))))) (pss_one (ps_ret pe_non)) pss_nil)
  (pss_cons (ps_if (pt_cmpR op_eq (pv 1) pe_str (nomark _)) (pss_one (ps_ret (pe_ifExp (PW.pt (pw_and (pt_cmpR op_eq (pe_callB (lenS K) (by rfl) B.len (by decide +kernel) (pa_cons (pv 0) pa_nil)) pe_int (nomark _)) (pw_and1 (pt_cmpR op_ne (pe_callB (lenS K) (by rfl) B.len (by decide +kernel) (pa_cons (pe_ix (ixT K) (pv 0) pe_int (fun _ _ => rfl)) pa_nil)) pe_int (nomark _))))) (pe_ix (ixT K) (pv 0) pe_int (fun _ _ => rfl)) pe_non))) pss_nil)
  (pss_cons (ps_if (PW.pt (pw_and (pt_cmpR op_eq (pv 1) pe_str (nomark _)) (pw_and (pt_cmpR op_eq (pe_callB (lenS K) (by rfl) B.len (by decide +kernel) (pa_cons (pv 0) pa_nil)) pe_int (nomark _)) (pw_and (pt_val (pe_call G_is_integer (hr.mono (by decide)) rfl m_is_integer k_is_integer b_is_integer .nil pass0 (pa_cons (pe_ix (ixT K) (pv 0) pe_int (fun _ _ => rfl)) pa_nil))) (pw_and1 (pt_cmpR op_gt (pe_ix (ixT K) (pv 0) pe_int (fun _ _ => rfl)) pe_int (nomark _))))))) (pss_one (ps_ret (pe_ix (ixT K) (pv 0) pe_int (fun _ _ => rfl)))) pss_nil)
  (pss_one (ps_ret pe_non))))))))), ?_⟩
  obtain ⟨a, xs, rfl, ⟨r, hS, hR⟩, hK⟩ := hT.out
  have i0 : atI (V.str T.lab.word :: r) 0 = some (V.str T.lab.word) := atI_nat (j := 0) rfl
  have hl := hR.len1
  have hlt : decide ((((V.str T.lab.word :: r).length : Nat) : Int) < 2) = false := by
    rw [List.length_cons]
    exact decide_eq_false (by omega)
  refine ⟨_, rfl, _, _, _, _, true, rfl, .ty _, tyx_tup hS, kit_ty (by decide +kernel), _, rfl, iteF ?_⟩
  refine ⟨_, rfl, a, _, rfl, .inr hS, _, _, rfl, rfl, _, rfl, ?_⟩
  rw [hlt]
  refine iteF ⟨_, rfl, a, _, _, _, rfl, rfl, hS, i0, _, _, _, _, true, rfl, .ty _, .base (.str _), kit_ty (by decide +kernel), _, rfl, iteF ?_⟩
  refine ⟨_, rfl, a, _, _, _, rfl, rfl, hS, i0, ?_⟩
  refine ⟨_, rfl, rfl, _, rfl, ?_⟩
  rw [w_var]
  obtain ⟨l, ts⟩ := T
  cases l with
  | var n =>
    obtain ⟨rfl, rfl⟩ := hR
    obtain ⟨h0, hn⟩ := hL
    refine iteT ⟨_, rfl, a, _, rfl, .inr hS, rfl, _, rfl, iteT ⟨_, rfl, a, _, _, _, rfl, rfl, hS, atI_nat (j := 1) rfl, ?_⟩⟩
    refine ⟨(n : Int), rfl, by omega, hn, _, rfl, iteT ⟨by show 0 ≤ sizeLine; decide, fun t ht => ?_⟩⟩
    exact q _ t [] (same_upd ht _) sq_new (hK.mono (tups_of (same_upd ht _)))
  | fn =>
    obtain ⟨rfl, h2⟩ := hR
    refine iteF ⟨_, rfl, rfl, _, rfl, iteT ?_⟩
    match xs, h2 with
    | [x, y], _ =>
      refine ⟨_, rfl, a, _, rfl, .inr hS, rfl, _, rfl, iteT ?_⟩
      refine ⟨_, rfl, _, rfl, a, _, rfl, hS, (show ¬ (HT.sIx 3 0 (some 1) = 0 ∧ HT.sIx 3 3 none = 3) by decide), fun t ht => ?_⟩
      exact q _ t [x, y] (same_upd ht _) sq_new (hK.mono (tups_of (same_upd ht _)))
  | tup =>
    obtain ⟨b, rfl, hb⟩ := hR
    refine iteF ⟨_, rfl, rfl, _, rfl, iteF ?_⟩
    refine ⟨_, rfl, _, rfl, a, _, _, _, rfl, rfl, hS, rfl, _, _, _, _, true, rfl, .ty _, tyx_tup hb, kit_ty (by decide +kernel), _, rfl, iteF ?_⟩
    refine ⟨_, rfl, rfl, _, rfl, iteT ?_⟩
    have e1 : (!decide (V.int ((xs.length : Nat) : Int) = V.int 1)) = true := by
      have hne : ¬ V.int ((xs.length : Nat) : Int) = V.int 1 := by
        intro e
        injection e with e
        have := hK.len
        exact hL (by show ts.length = 1; have : xs.length = ts.length := this; omega)
      rw [decide_eq_false hne]
      rfl
    refine ⟨_, rfl, a, _, rfl, .inr hS, rfl, _, rfl, iteT ⟨_, rfl, a, _, _, _, rfl, rfl, hS, atI_nat (j := 1) rfl, b, _, rfl, .inr hb, rfl, _, rfl, ?_⟩⟩
    rw [e1]
    refine iteT ⟨_, rfl, a, _, _, _, rfl, rfl, hS, atI_nat (j := 1) rfl, ?_⟩
    exact q _ b xs (Same.refl _) hb hK
  | made n =>
    obtain ⟨b, rfl, hb⟩ := hR
    obtain ⟨hn0, hn1, _⟩ := hL
    refine iteF ⟨_, rfl, rfl, _, rfl, iteF ?_⟩
    refine ⟨_, rfl, _, rfl, a, _, _, _, rfl, rfl, hS, rfl, _, _, _, _, true, rfl, .ty _, tyx_tup hb, kit_ty (by decide +kernel), _, rfl, iteF ?_⟩
    refine ⟨_, rfl, rfl, _, rfl, iteF ?_⟩
    refine ⟨_, rfl, rfl, _, rfl, iteT ⟨_, rfl, a, _, rfl, .inr hS, rfl, _, rfl, iteT ?_⟩⟩
    refine ⟨_, rfl, a, _, _, _, rfl, rfl, hS, atI_nat (j := 1) rfl, ?_⟩
    refine ⟨(n : Int), rfl, by omega, hn1, _, rfl, iteT ?_⟩
    refine ⟨_, rfl, a, _, _, _, rfl, rfl, hS, atI_nat (j := 1) rfl, _, _, rfl, rfl, _, rfl, ?_⟩
    rw [decide_eq_true (show (n : Int) > 0 by omega)]
    refine iteT ⟨_, rfl, a, _, _, _, rfl, rfl, hS, atI_nat (j := 2) rfl, ?_⟩
    exact q _ b xs (Same.refl _) hb hK
end
end Lq
namespace Lq
open PySem L2
def PairOk (K : PySem.W.Frag) (H : Hp) (ar : List Nat) (v : V) : Prop := ∃ (p : Addr) (s n : Nat), v = .ref p ∧ SqT K H p [.int (s : Int), .int (n : Int)] ∧ 0 < s ∧ ar[s - 1]? = some n
theorem PairOk.mono {K : PySem.W.Frag} {H H' : Hp} {ar : List Nat} {v : V} (e : Tups K H H') (h : PairOk K H ar v) : PairOk K H' ar v := by
  obtain ⟨p, s, n, h1, h2, h3⟩ := h
  exact ⟨p, s, n, h1, e _ _ h2, h3⟩
section
variable {P : Program} {w : World} {K : PySem.W.Frag} {mg : Str → Option Value} {base : Heap}
abbrev s__made_in : Stmt := top 26
theorem sc__made_in : FnScope ["value", "found", "todo", "size", "part", "parts"] ["value"] (defScope s__made_in) := ⟨rfl, rfl, rfl, by decide +kernel, rfl, by decide +kernel, by decide +kernel⟩
def spMade (K : PySem.W.Frag) : Sp := fun vs H Q _ => ∃ (T : Ty) (v : V) (ar : List Nat), vs = [v] ∧ TyH K H T v ∧ T.Ok ar ∧ T.sz ≤ 300 ∧
  ∀ (H' : Hp) (p : Addr) (xs : List V), Same H H' → H' p = some (.lst xs) → (∀ x ∈ xs, PairOk K H' ar x) → xs.length ≤ 300 → Q (.ref p) H'
theorem ok_made_in (A : At K mg "_made_in" s__made_in ["value"]) (B : Bi mg) (C : Ct K mg) (D__parts_of : Has P w K mg base "_parts_of" ["value"] 3 (spParts K)) : Has P w K mg base "_made_in" ["value"] 4 (spMade K) := by
  refine .mk A fun f fd F => ?_
  refine F.ok sc__made_in (fun vs H Q E h => ?_) (fun cdv A outer s H vs Q E hr h => ?_)
  · obtain ⟨T, v, ar, rfl, _⟩ := h
    rfl
  obtain ⟨T, v, ar, rfl, hT, hok, hsz, q⟩ := h
  obtain ⟨f__parts_of, fd__parts_of, G__parts_of, b__parts_of, k__parts_of, m__parts_of⟩ := D__parts_of
  obtain ⟨tM, T_MAX_SIZE⟩ := C.MAX_SIZE
  refine ⟨_, (pss_cons (ps_set (i := 1) sc__made_in.nd rfl (Or.inl rfl) (pe_lst pa_nil))
  (pss_cons (ps_set (i := 2) sc__made_in.nd rfl (Or.inl rfl) (pe_lst (pa_cons (pv 0) pa_nil)))
  (pss_cons (ps_set (i := 3) sc__made_in.nd rfl (Or.inl rfl) pe_int)
  (pss_cons (ps_while PassesOwn.never (pt_truth (pv 2) (by intro _; rfl)) (pss_cons (ps_set (i := 4) sc__made_in.nd rfl (Or.inl rfl) (pe_bm0 PySem.F.plainAttrs_list PySem.F.slot_list_pop PySem.F.type_list_pop mt_pop (pv 2)))
  (pss_cons (ps_set (i := 5) sc__made_in.nd rfl (Or.inl rfl) (pe_call G__parts_of (hr.mono (by decide)) rfl m__parts_of k__parts_of b__parts_of .nil pass0 (pa_cons (pv 4) pa_nil)))
  (pss_cons (ps_aug (i := 3) sc__made_in.nd rfl (.inl rfl) pe_int ip_add)
  (pss_cons (ps_if (PW.pt (pw_or (pt_cmpR op_isN (pv 5) pe_non (nomark _)) (pw_or1 (pt_cmpR op_gt (pv 3) (pe_glob rfl T_MAX_SIZE r_int) (nomark _))))) (pss_one (ps_ret pe_non)) pss_nil)
  (pss_cons (ps_if (pt_cmpR op_eq (pe_ix (ixT K) (pv 4) pe_int (fun _ _ => rfl)) pe_str (nomark _)) (pss_one (ps_expr (pe_bm PySem.F.plainAttrs_list PySem.F.slot_list_append PySem.F.type_list_append mt_append (pv 1) (pa_cons (pe_tup (pa_cons (pe_ix (ixT K) (pv 4) pe_int (fun _ _ => rfl)) (pa_cons (pe_callB (lenS K) (by rfl) B.len (by decide +kernel) (pa_cons (pv 5) pa_nil)) pa_nil))) pa_nil)))) pss_nil)
  (pss_one (ps_expr (pe_bm PySem.F.plainAttrs_list PySem.F.slot_list_extend PySem.F.type_list_extend mt_extT (pv 2) (pa_cons (pv 5) pa_nil))))))))))
  (pss_one (ps_ret (pv 1))))))), ?_⟩
  refine ⟨Nat.zero_le _, fun fa ha => ?_⟩
  refine ⟨_, rfl, by show 1 ≤ sizeLine; decide, fun ta hb => ?_⟩
  have hfa : H fa = none := ha
  have hta : H ta = none := (same_upd ha _).free hb
  have nft : fa ≠ ta := by
    intro e
    rw [e, upd_same] at hb
    cases hb
  dsimp only [gName, tSeq, tAsg, tC]
  refine while_m (fun m σ H1 => ∃ (xs ys : List V) (tts : List Ty) (k : Nat) (x4 x5 : Option V), σ = [some v, some (.ref fa), some (.ref ta), some (.int (k : Int)), x4, x5] ∧ Same H H1 ∧ H1 fa = some (.lst xs) ∧
    (∀ x ∈ xs, PairOk K H1 ar x) ∧ xs.length ≤ k ∧ H1 ta = some (.lst ys) ∧ TysH K H1 tts ys ∧ (∀ t ∈ tts, t.Ok ar) ∧ k + Ty.szs tts = T.sz ∧ m = Ty.szs tts) (m := T.sz) ?_ ?_
    (fun σ H1 Q1 Q2 mo ⟨z, e, k, tk, qq⟩ => ⟨z, e, k, tk, mo _ _ qq⟩)
  · refine ⟨[], [v], [T], 0, none, none, rfl, same_set (same_upd ha _) hta _, by rw [upd_ne nft, upd_same], (fun x hx => nomatch hx), Nat.le_refl _, upd_same, .cons (hT.mono (tups_of (same_set (same_upd ha _) hta _))) .nil, ?_, ?_, ?_⟩
    · intro t ht
      rw [List.mem_singleton.mp ht]
      exact hok
    · rw [szs_cons, szs_nil]
      omega
    · rw [szs_cons, szs_nil]
      omega
  rintro m σ H1 ⟨xs, ys, tts, k, x4, x5, rfl, g, h1, p1, hxk, h2, k2, okk, ek, rfl⟩
  refine ⟨_, rfl, _, .inl ⟨ys, SqL.of h2, rfl⟩, ?_⟩
  by_cases hne : ys = []
  · subst hne
    exact iteF ⟨_, rfl, q H1 fa xs g h1 p1 (by omega)⟩
  · have ee : (!ys.isEmpty) = true := by
      cases ys with
      | nil => exact absurd rfl hne
      | cons _ _ => rfl
    rw [ee]
    refine iteT ?_
    obtain ⟨us, t, zs, y, rfl, rfl, ku, kt⟩ := k2.last hne
    rw [szs_app, szs_cons, szs_nil] at ek
    have okt : t.Ok ar := okk t (List.mem_append_right _ (List.mem_singleton_self _))
    have hk := kids_len t
    have hus := len_szs us
    have hlu := ku.len
    have hsk := t.sz_eq
    have hkl := len_szs t.kids
    refine ⟨_, rfl, .inl ⟨rfl, _, SqL.of h2⟩, ta, _, y, rfl, rfl, h2, last_at zs y, ?_⟩
    rw [drop_at]
    have t2 : Tups K H1 (upd H1 ta (.lst zs)) := tups_set h2 _
    have h1' : upd H1 ta (.lst zs) fa = some (.lst xs) := by rw [upd_ne nft]; exact h1
    refine ⟨_, rfl, t, y, ar, rfl, kt.mono t2, okt.loc, fun H3 c cs g3 hc hkc => ?_⟩
    have t3 := t2.trans (tups_of g3)
    have h3f : H3 fa = some (.lst xs) := g3 _ _ h1'
    have h3t : H3 ta = some (.lst zs) := g3 _ _ upd_same
    have hcl := hkc.len
    refine ⟨_, rfl, _, _, rfl, rfl, ?_⟩
    have hno : decide ((k : Int) + 1 > 300) = false := decide_eq_false (by omega)
    refine ⟨_, rfl, rfl, _, rfl, iteF ⟨_, rfl, _, _, rfl, rfl, _, rfl, ?_⟩⟩
    rw [hno]
    refine iteF ?_
    obtain ⟨a, ws, rfl, ⟨r, hS, hR⟩, _⟩ := (kt.mono t3).out
    have i0 : atI (V.str t.lab.word :: r) 0 = some (V.str t.lab.word) := atI_nat (j := 0) rfl
    refine ⟨_, rfl, a, _, _, _, rfl, rfl, hS, i0, rfl, _, rfl, ?_⟩
    rw [w_made]
    -- the rest of the turn, from a heap H4 at which the list at fa holds xs4
    have rest : ∀ (H4 : Hp) (xs4 : List V), Same H H4 → Tups K H3 H4 → H4 fa = some (.lst xs4) → (∀ x ∈ xs4, PairOk K H4 ar x) → xs4.length ≤ k + 1 → H4 ta = some (.lst zs) →
        ∃ m', m' < Ty.szs us + t.sz ∧ ∃ (xs ys : List V) (tts : List Ty) (k' : Nat) (y4 y5 : Option V), [some v, some (V.ref fa), some (V.ref ta), some (V.int ((k : Int) + 1)), some (V.ref a), some (V.ref c)] = [some v, some (.ref fa), some (.ref ta), some (.int (k' : Int)), y4, y5] ∧
          Same H (upd H4 ta (.lst (zs ++ cs))) ∧ (upd H4 ta (.lst (zs ++ cs))) fa = some (.lst xs) ∧ (∀ x ∈ xs, PairOk K (upd H4 ta (.lst (zs ++ cs))) ar x) ∧ xs.length ≤ k' ∧ (upd H4 ta (.lst (zs ++ cs))) ta = some (.lst ys) ∧
          TysH K (upd H4 ta (.lst (zs ++ cs))) tts ys ∧ (∀ t ∈ tts, t.Ok ar) ∧ k' + Ty.szs tts = T.sz ∧ m' = Ty.szs tts := by
      intro H4 xs4 g4 t34 h4f p4 hx4 h4t
      have t5 : Tups K H4 (upd H4 ta (.lst (zs ++ cs))) := tups_set h4t _
      refine ⟨Ty.szs us + Ty.szs t.kids, by omega, xs4, zs ++ cs, us ++ t.kids, k + 1, _, _, rfl, same_set g4 hta _, by rw [upd_ne nft]; exact h4f, fun x hx => (p4 x hx).mono t5, hx4, upd_same, ?_, ?_, ?_, ?_⟩
      · exact (ku.mono (t3.trans (t34.trans t5))).app (hkc.mono (t34.trans t5))
      · intro u hu
        rcases List.mem_append.mp hu with h | h
        · exact okk u (List.mem_append_left _ h)
        · exact okt.kid h
      · rw [szs_app]
        omega
      · rw [szs_app]
    have gH3 : Same H H3 := (same_set g hta _).trans g3
    cases hm : t.lab.isMade with
    | false =>
      refine iteF ⟨_, rfl, .inl ⟨rfl, _, SqL.of h3t⟩, _, rfl, ta, c, zs, cs, rfl, rfl, h3t, hc, small300 (by omega), ?_⟩
      have := rest H3 xs gH3 .refl h3f (fun x hx => (p1 x hx).mono t3) (by omega) h3t
      rw [szs_app, szs_cons, szs_nil]
      exact this
    | true =>
      obtain ⟨l, ts⟩ := t
      cases l with
      | var n => cases hm
      | fn => cases hm
      | tup => cases hm
      | made n =>
        obtain ⟨b, rfl, hb'⟩ := hR
        obtain ⟨hn0, hn1, hn2⟩ := okt.loc
        refine iteT ⟨_, rfl, .inl ⟨rfl, _, SqL.of h3f⟩, _, rfl, a, _, _, _, rfl, rfl, hS, atI_nat (j := 1) rfl, _, rfl, c, _, rfl, .inr hc, by show 2 ≤ sizeLine; decide, fun p hp => ?_⟩
        have g4 := same_upd hp (.tup [V.int (n : Int), V.int ((cs.length : Nat) : Int)])
        refine ⟨fa, xs, _, rfl, rfl, g4 _ _ h3f, small1000 (by omega), ?_⟩
        have h4t : upd (upd H3 p (.tup [V.int (n : Int), V.int ((cs.length : Nat) : Int)])) fa (.lst (xs ++ [V.ref p])) ta = some (.lst zs) := by
          rw [upd_ne nft.symm]
          exact g4 _ _ h3t
        have t34 : Tups K H3 (upd (upd H3 p (.tup [V.int (n : Int), V.int ((cs.length : Nat) : Int)])) fa (.lst (xs ++ [V.ref p]))) := (tups_of g4).trans (tups_set (g4 _ _ h3f) _)
        refine ⟨_, rfl, .inl ⟨rfl, _, SqL.of h4t⟩, _, rfl, ta, c, zs, cs, rfl, rfl, h4t, t34 _ _ hc, small300 (by omega), ?_⟩
        have := rest _ (xs ++ [V.ref p]) (same_set (gH3.trans g4) hfa _) t34 upd_same ?_ ?_ h4t
        · rw [szs_app, szs_cons, szs_nil]
          exact this
        · intro x hx
          rcases List.mem_append.mp hx with h | h
          · exact (p1 x h).mono (t3.trans t34)
          · rw [List.mem_singleton.mp h]
            refine ⟨p, n, cs.length, rfl, tups_set (g4 _ _ h3f) _ _ _ sq_new, hn0, ?_⟩
            rw [hcl]
            exact hn2
        · rw [List.length_append, List.length_singleton]
          omega
end
end Lq
namespace Lq
open PySem L2
def natV (ns : List Nat) : List V := ns.map fun (n : Nat) => V.int (n : Int)
theorem natV_get {ns : List Nat} {i n : Nat} (h : ns[i]? = some n) : (natV ns)[i]? = some (V.int (n : Int)) := by
  unfold natV
  rw [List.getElem?_map, h]
  rfl
theorem natV_len (ns : List Nat) : (natV ns).length = ns.length := List.length_map _
/-- behind i turns of a comprehension that makes a True each turn, from the heap H1 on, D its list -/
def AllInv (H1 : Hp) (D : Addr) (i : Nat) (H : Hp) : Prop := Same H1 H ∧ H D = some (.lst ((List.replicate i true).map V.bl))
theorem AllInv.start {H1 : Hp} {D : Addr} (h : H1 D = none) : AllInv H1 D 0 (upd H1 D (.lst [])) := ⟨same_upd h _, upd_same⟩
theorem AllInv.step {H1 H4 : Hp} {D : Addr} {i : Nat} (h : H1 D = none) (hi : i < 2000) (a : AllInv H1 D i H4) :
    ∃ acc, H4 D = some (.lst acc) ∧ acc.length < sizeLine ∧ AllInv H1 D (i + 1) (upd H4 D (.lst (acc ++ [.bl true]))) := by
  refine ⟨_, a.2, ?_, same_set a.1 h _, ?_⟩
  · rw [List.length_map, List.length_replicate]
    exact Nat.lt_of_lt_of_le hi (by decide)
  · rw [upd_same, List.replicate_succ', List.map_append]
    rfl
theorem AllInv.call {H1 H4 H5 : Hp} {D : Addr} {i : Nat} (a : AllInv H1 D i H4) (g : Same H4 H5) : AllInv H1 D i H5 := ⟨a.1.trans g, g _ _ a.2⟩
theorem all_rep : ∀ (n : Nat), (List.replicate n true).all id = true
  | 0 => rfl
  | n + 1 => by rw [List.replicate_succ, List.all_cons, all_rep n]; rfl
theorem lt_of_get {α : Type} {xs : List α} {i : Nat} {x : α} (h : xs[i]? = some x) : i < xs.length := (List.getElem?_eq_some_iff.mp h).1
section
variable {P : Program} {w : World} {K : PySem.W.Frag} {mg : Str → Option Value} {base : Heap}
abbrev s_is_shape : Stmt := top 27
theorem sc_is_shape : FnScope ["value", "arities", "found", "stamp", "many"] ["value", "arities"] (defScope s_is_shape) := ⟨rfl, rfl, rfl, by decide +kernel, rfl, by decide +kernel, by decide +kernel⟩
def spShape (K : PySem.W.Frag) : Sp := fun vs H Q _ => ∃ (T : Ty) (v : V) (b : Addr) (ar : List Nat), vs = [v, .ref b] ∧ TyH K H T v ∧ T.Ok ar ∧ T.sz ≤ 300 ∧ SqT K H b (natV ar) ∧
  ∀ (H' : Hp), Same H H' → Q (.bl true) H'
theorem ok_is_shape (A : At K mg "is_shape" s_is_shape ["value", "arities"]) (B : Bi mg) (D__made_in : Has P w K mg base "_made_in" ["value"] 4 (spMade K)) : Has P w K mg base "is_shape" ["value", "arities"] 5 (spShape K) := by
  refine .mk A fun f fd F => ?_
  refine F.ok sc_is_shape (fun vs H Q E h => ?_) (fun cdv A outer s H vs Q E hr h => ?_)
  · obtain ⟨T, v, b, ar, rfl, _⟩ := h
    rfl
  obtain ⟨T, v, b, ar, rfl, hT, hok, hsz, hb, q⟩ := h
  obtain ⟨f__made_in, fd__made_in, G__made_in, b__made_in, k__made_in, m__made_in⟩ := D__made_in
  refine ⟨_, (pss_cons (ps_set (i := 2) sc_is_shape.nd rfl (Or.inl rfl) (pe_call G__made_in (hr.mono (by decide)) rfl m__made_in k__made_in b__made_in .nil pass0 (pa_cons (pv 0) pa_nil)))
  (pss_one (ps_ret (pe_and (pe_cmpR op_notN (pv 2) pe_non (nomark _)) (pe_one (pe_callB (cr_all rfl) (by rfl) B.all (by decide +kernel) (pa_cons (pe_lc (own := [("stamp", 3), ("many", 4)]) (g := gTup _ 2 (gCons (gName 3) (gCons (gName 4) gNil))) (tt := tYes) (by rfl) sc_is_shape.nd (pi_list (pv 2)) (blkOk_by (N := ["value", "arities", "found", "stamp", "many"]) (sc := defScope s_is_shape) (by decide +kernel)) (fun _ _ _ _ _ => (pg_tup rfl (pgs_cons (pg_name (i := 3) sc_is_shape.nd rfl (Or.inl rfl)) (pgs_cons (pg_name (i := 4) sc_is_shape.nd rfl (Or.inl rfl)) pgs_nil)))) (fun _ _ _ _ _ => pts_nil) (fun _ _ _ _ _ => (pe_and (pe_cmpR op_le (pv 3) (pe_callB (lenS K) (by rfl) B.len (by decide +kernel) (pa_cons (pv 1) pa_nil)) (nomark _)) (pe_one (pe_cmpR op_eq (pe_ix (ixT K) (pv 1) (pe_op op_sub (pv 3) pe_int) (fun _ _ => rfl)) (pv 4) (nomark _)))))) pa_nil))))))), ?_⟩
  refine ⟨_, rfl, T, v, ar, rfl, hT, hok, hsz, fun H2 p xs g2 hp px hl => ?_⟩
  refine ⟨_, rfl, rfl, _, rfl, iteT ?_⟩
  refine ⟨_, rfl, p, rfl, ⟨xs, SqL.of hp⟩, fun D hD => lc_list (K := K) (a := p) (xs := xs) (AllInv H2 D) (.start hD) (fun i H3 _ a => SqL.of (a.1 _ _ hp)) ?_ ?_⟩
  · intro i x H3 hx a
    obtain ⟨c, st, n, rfl, hc, h0, hn⟩ := px x (List.mem_of_getElem? hx)
    have hb3 := tups_of (g2.trans a.1) _ _ hb
    have hc3 := tups_of a.1 _ _ hc
    have hlt := lt_of_get hn
    refine ⟨c, _, rfl, hc3, rfl, _, _, rfl, _, _, rfl, rfl, rfl, _, rfl, _, rfl, b, _, rfl, .inr hb3, _, _, rfl, rfl, _, rfl, ?_⟩
    rw [show decide ((st : Int) ≤ (((natV ar).length : Nat) : Int)) = true from decide_eq_true (by rw [natV_len]; omega)]
    refine iteT ⟨_, rfl, _, rfl, _, _, rfl, rfl, b, _, _, _, rfl, rfl, hb3, at_of (j := st - 1) (by omega) (natV_get hn), _, rfl, rfl, ?_⟩
    have e : decide (V.int (n : Int) = V.int (n : Int)) = true := decide_eq_true rfl
    rw [e]
    exact a.step hD (by have := lt_of_get hx; omega)
  · intro H3 a
    refine ⟨D, List.replicate xs.length true, rfl, SqL.of a.2, ?_⟩
    rw [all_rep]
    exact q H3 (g2.trans a.1)
end
end Lq
namespace Lq
open PySem L2
def Lab.num : Lab → Option Nat
  | .var n => some n | _ => none
def Ty.vars (T : Ty) : List Nat := T.pre.filterMap fun t => t.lab.num
def keysT (ns : List Nat) : List (Key × V) := ns.map fun (n : Nat) => (Sum.inl (n : Int), V.bl true)
theorem keysT_any (ns : List Nat) (n : Nat) : ((keysT ns).any fun kv => decide (kv.1 = (Sum.inl (n : Int) : Key))) = decide (n ∈ ns) := by
  induction ns with
  | nil => rfl
  | cons m r ih =>
    show (decide ((Sum.inl (m : Int) : Key) = Sum.inl (n : Int)) || (keysT r).any _) = _
    rw [ih]
    by_cases h : m = n
    · subst h
      simp
    · have h1 : ¬ ((Sum.inl (m : Int) : Key) = Sum.inl (n : Int)) := by
        intro e
        injection e with e
        exact h (by omega)
      rw [decide_eq_false h1, Bool.false_or]
      exact decide_eq_decide.mpr ⟨fun q => List.mem_cons_of_mem _ q, fun q => by
        rcases List.mem_cons.mp q with e | q
        · exact absurd e.symm h
        · exact q⟩
theorem keysT_put (ns : List Nat) (n : Nat) : putK (keysT ns) (Sum.inl (n : Int)) (.bl true) = keysT (if n ∈ ns then ns else ns ++ [n]) := by
  unfold putK
  rw [keysT_any]
  by_cases h : n ∈ ns
  · rw [decide_eq_true h, if_pos rfl, if_pos h]
    unfold keysT
    rw [List.map_map]
    refine List.map_congr_left fun m _ => ?_
    show (if (Sum.inl (m : Int) : Key) = Sum.inl (n : Int) then ((Sum.inl (m : Int) : Key), V.bl true) else (Sum.inl (m : Int), V.bl true)) = (Sum.inl (m : Int), V.bl true)
    split <;> rfl
  · rw [decide_eq_false h, if_neg Bool.false_ne_true, if_neg h]
    unfold keysT
    rw [List.map_append]
    rfl
theorem keysT_keys (ns : List Nat) : ((keysT ns).map fun kv => kV kv.1) = natV ns := by
  unfold keysT natV
  rw [List.map_map]
  rfl
theorem keysT_len (ns : List Nat) : (keysT ns).length = ns.length := List.length_map _
theorem take_snoc {α : Type} {xs : List α} {i : Nat} {x : α} (h : xs[i]? = some x) : xs.take (i + 1) = xs.take i ++ [x] := by
  rw [List.take_add_one, h]
  rfl
section
variable {P : Program} {w : World} {K : PySem.W.Frag} {mg : Str → Option Value} {base : Heap}
abbrev s_variables_in : Stmt := top 29
theorem sc_variables_in : FnScope ["T", "found", "part"] ["T"] (defScope s_variables_in) := ⟨rfl, rfl, rfl, by decide +kernel, rfl, by decide +kernel, by decide +kernel⟩
def spVars (K : PySem.W.Frag) : Sp := fun vs H Q _ => ∃ (T : Ty) (v : V), vs = [v] ∧ TyH K H T v ∧ T.sz ≤ 1000 ∧
  ∀ (H' : Hp) (p : Addr) (ns : List Nat), Same H H' → SqT K H' p (natV ns) → (∀ n, n ∈ ns ↔ n ∈ T.vars) → ns.length ≤ 1000 → Q (.ref p) H'
theorem ok_variables_in (A : At K mg "variables_in" s_variables_in ["T"]) (B : Bi mg) (D_nodes_of : Has P w K mg base "nodes_of" ["T"] 2 (spNodes K)) : Has P w K mg base "variables_in" ["T"] 3 (spVars K) := by
  refine .mk A fun f fd F => ?_
  refine F.ok sc_variables_in (fun vs H Q E h => ?_) (fun cdv A outer s H vs Q E hr h => ?_)
  · obtain ⟨T, v, rfl, _⟩ := h
    rfl
  obtain ⟨T, v, rfl, hT, hsz, q⟩ := h
  obtain ⟨f_nodes_of, fd_nodes_of, G_nodes_of, b_nodes_of, k_nodes_of, m_nodes_of⟩ := D_nodes_of
  refine ⟨_, (pss_cons (ps_setDc (i := 1) (own := [("part", 2)]) (g := gName 2) (tt := _) (by rfl) sc_variables_in.nd rfl rfl (sw_dict rfl rfl rfl (by decide +kernel)) (pi_list (pe_call G_nodes_of (hr.mono (by decide)) rfl m_nodes_of k_nodes_of b_nodes_of .nil pass0 (pa_cons (pv 0) pa_nil))) (blkOk_by (N := ["T", "found", "part"]) (sc := defScope s_variables_in) (by decide +kernel)) (fun _ _ _ _ _ => (pg_name (i := 2) sc_variables_in.nd rfl (Or.inl rfl))) (fun _ _ _ _ _ => (pts_one (pt_cmpR op_eq (pe_ix (ixT K) (pv 2) pe_int (fun _ _ => rfl)) pe_str (nomark _)))) (fun _ _ _ _ _ => (pe_ix (ixT K) (pv 2) pe_int (fun _ _ => rfl))) (fun _ _ _ _ _ => pe_bl))
  (pss_one (ps_ret (pe_callTy (tuple_dK rfl) (by rfl) B.tuple (by decide +kernel) (pa_cons (pv 1) pa_nil))))), ?_⟩
  refine ⟨_, rfl, T, v, rfl, hT, hsz, fun H2 p xs g2 _ hp hx => ?_⟩
  have hxl := hx.len
  rw [pre_len] at hxl
  refine ⟨p, rfl, ⟨xs, SqL.of hp⟩, fun D hD => dc_list (K := K) (a := p) (xs := xs)
    (fun i H3 => Same H2 H3 ∧ ∃ ns : List Nat, H3 D = some (.dK (keysT ns)) ∧ (∀ n, n ∈ ns ↔ n ∈ (T.pre.take i).filterMap fun t => t.lab.num) ∧ ns.length ≤ i) ?_ (fun i H3 _ a => SqL.of (a.1 _ _ hp)) ?_ ?_⟩
  · exact ⟨same_upd hD _, [], upd_same, fun n => by simp, Nat.le_refl _⟩
  · rintro i x H3 hix ⟨g3, ns, hd, hm, hl⟩
    obtain ⟨t, hti, ht⟩ := hx.get hix
    have hlt := lt_of_get hix
    obtain ⟨a, ws, rfl, ⟨r, hS, hR⟩, _⟩ := (ht.mono (tups_of g3)).out
    have i0 : atI (V.str t.lab.word :: r) 0 = some (V.str t.lab.word) := atI_nat (j := 0) rfl
    have hnext : ∀ n, n ∈ (T.pre.take (i + 1)).filterMap (fun t => t.lab.num) ↔ n ∈ (T.pre.take i).filterMap (fun t => t.lab.num) ∨ t.lab.num = some n := by
      intro n
      rw [take_snoc hti, List.filterMap_append, List.mem_append]
      refine or_congr Iff.rfl ?_
      rw [List.mem_filterMap]
      exact ⟨fun ⟨u, hu, e⟩ => by rw [List.mem_singleton.mp hu] at e; exact e, fun e => ⟨t, List.mem_singleton_self t, e⟩⟩
    refine ⟨rfl, _, rfl, a, _, _, _, rfl, rfl, hS, i0, rfl, _, rfl, ?_⟩
    rw [w_var]
    obtain ⟨l, ts⟩ := t
    cases l with
    | var n =>
      obtain ⟨_, rfl⟩ := hR
      refine iteT ⟨_, rfl, a, _, _, _, rfl, rfl, hS, atI_nat (j := 1) rfl, keysT ns, Sum.inl (n : Int), rfl, hd, by rw [keysT_len]; exact small1000 (by omega), same_set g3 hD _, if n ∈ ns then ns else ns ++ [n], by rw [upd_same, keysT_put], ?_, ?_⟩
      · intro m
        rw [hnext]
        by_cases h : n ∈ ns
        · rw [if_pos h, hm]
          refine ⟨.inl, fun o => o.elim id fun e => ?_⟩
          have e : some n = some m := e
          injection e with e
          subst e
          exact (hm n).mp h
        · rw [if_neg h, List.mem_append, hm, List.mem_singleton]
          refine or_congr Iff.rfl ?_
          show m = n ↔ some n = some m
          exact ⟨fun e => by rw [e], fun e => by injection e with e; exact e.symm⟩
      · split
        · omega
        · rw [List.length_append, List.length_singleton]
          omega
    | _ =>
      refine iteF ⟨g3, ns, hd, fun m => ?_, by omega⟩
      rw [hnext, hm]
      refine ⟨.inl, fun o => o.elim id fun e => ?_⟩
      cases e
  · rintro H3 ⟨g3, ns, hd, hm, hl⟩
    refine ⟨_, rfl, D, keysT ns, rfl, hd, fun q1 hq1 => ?_⟩
    rw [keysT_keys]
    refine q _ q1 ns ((g2.trans g3).trans (same_upd hq1 _)) sq_new (fun n => ?_) (by omega)
    rw [hm, List.take_of_length_le (by rw [pre_len, hxl]; exact Nat.le_refl _)]
    exact Iff.rfl
end
end Lq
namespace Lq
open PySem L2
/-! ### putting in -/
mutual
def Ty.sub (σ : Nat → Ty) : Ty → Ty
  | .node l ts => match l.num with
    | some n => σ n
    | none => .node l (Ty.subs σ ts)
def Ty.subs (σ : Nat → Ty) : List Ty → List Ty
  | [] => []
  | t :: r => Ty.sub σ t :: Ty.subs σ r
end
theorem subs_nil (σ : Nat → Ty) : Ty.subs σ [] = [] := by rw [Ty.subs]
theorem subs_cons (σ : Nat → Ty) (t : Ty) (r : List Ty) : Ty.subs σ (t :: r) = t.sub σ :: Ty.subs σ r := by rw [Ty.subs]
theorem subs_map (σ : Nat → Ty) : ∀ (ts : List Ty), Ty.subs σ ts = ts.map (Ty.sub σ)
  | [] => subs_nil σ
  | t :: r => by rw [subs_cons, subs_map σ r]; rfl
theorem sub_var (σ : Nat → Ty) {T : Ty} {n : Nat} (h : T.lab.num = some n) : T.sub σ = σ n := by
  cases T with
  | node l ts =>
    have h : l.num = some n := h
    rw [Ty.sub, h]
theorem sub_node (σ : Nat → Ty) {T : Ty} (h : T.lab.num = none) : T.sub σ = .node T.lab (Ty.subs σ T.kids) := by
  cases T with
  | node l ts =>
    have h : l.num = none := h
    rw [Ty.sub, h]
    rfl
/-- the size that the parts of a list have together, if variables have these sizes -/
def wsum (f : Nat → Nat) (ts : List Ty) : Nat := (ts.map fun t => match t.lab.num with | some n => f n | none => 1).sum
theorem wsum_nil (f : Nat → Nat) : wsum f [] = 0 := rfl
theorem wsum_cons (f : Nat → Nat) (t : Ty) (r : List Ty) : wsum f (t :: r) = (match t.lab.num with | some n => f n | none => 1) + wsum f r := by
  unfold wsum
  rw [List.map_cons, List.sum_cons]
theorem wsum_app (f : Nat → Nat) : ∀ (a b : List Ty), wsum f (a ++ b) = wsum f a + wsum f b
  | [], b => by rw [List.nil_append, wsum_nil, Nat.zero_add]
  | t :: a, b => by rw [List.cons_append, wsum_cons, wsum_cons, wsum_app f a b, Nat.add_assoc]
/-- variables have no parts -/
def Ty.Leafy (T : Ty) : Prop := ∀ t ∈ T.pre, t.lab.num ≠ none → t.kids = []
theorem Ty.Leafy.kid {T t : Ty} (h : T.Leafy) (m : t ∈ T.kids) : t.Leafy := fun u hu => h u (by rw [pre_eq]; exact List.mem_cons_of_mem _ (mem_pres m hu))
theorem Ty.Ok.leafy {ar : List Nat} {T : Ty} (h : T.Ok ar) : T.Leafy := fun t ht hn => by
  have q := h t ht
  cases e : t.lab with
  | var m =>
    rw [e] at q
    exact List.eq_nil_of_length_eq_zero q.1
  | _ => rw [e] at hn; exact absurd rfl hn
mutual
theorem wsum_sub (σ : Nat → Ty) (f : Nat → Nat) (hf : ∀ n, f n = (σ n).sz) : ∀ (T : Ty), T.Leafy → wsum f T.pre = (T.sub σ).sz
  | .node l ts, h => by
    rw [Ty.pre, wsum_cons]
    show (match l.num with | some n => f n | none => 1) + wsum f (Ty.pres ts) = _
    cases e : l.num with
    | some n =>
      have hk : ts = [] := h (.node l ts) (by rw [pre_eq]; exact List.mem_cons_self) (by show l.num ≠ none; rw [e]; exact fun z => nomatch z)
      subst hk
      rw [sub_var σ (T := .node l []) e, pres_nil, wsum_nil]
      exact hf n
    | none =>
      rw [sub_node σ (T := .node l ts) e, Ty.sz_eq]
      show 1 + _ = Ty.szs (Ty.subs σ ts) + 1
      rw [wsums_sub σ f hf ts fun t ht => h.kid (T := .node l ts) ht, Nat.add_comm]
theorem wsums_sub (σ : Nat → Ty) (f : Nat → Nat) (hf : ∀ n, f n = (σ n).sz) : ∀ (ts : List Ty), (∀ t ∈ ts, t.Leafy) → wsum f (Ty.pres ts) = Ty.szs (Ty.subs σ ts)
  | [], _ => by rw [pres_nil, subs_nil, szs_nil, wsum_nil]
  | t :: r, h => by
    rw [pres_cons, subs_cons, szs_cons, wsum_app, wsum_sub σ f hf t (h t List.mem_cons_self), wsums_sub σ f hf r fun u hu => h u (List.mem_cons_of_mem _ hu)]
end
/-! ### dicts by numbers -/
def kvOf (g : Nat → V) (ns : List Nat) : List (Key × V) := ns.map fun (n : Nat) => (Sum.inl (n : Int), g n)
theorem kvOf_any (g : Nat → V) (ns : List Nat) (n : Nat) : ((kvOf g ns).any fun kv => decide (kv.1 = (Sum.inl (n : Int) : Key))) = decide (n ∈ ns) := by
  have h := keysT_any ns n
  unfold keysT at h
  unfold kvOf
  rw [List.any_map] at h ⊢
  exact h
theorem kvOf_put (g : Nat → V) (ns : List Nat) (n : Nat) : putK (kvOf g ns) (Sum.inl (n : Int)) (g n) = kvOf g (if n ∈ ns then ns else ns ++ [n]) := by
  unfold putK
  rw [kvOf_any]
  by_cases h : n ∈ ns
  · rw [decide_eq_true h, if_pos rfl, if_pos h]
    unfold kvOf
    rw [List.map_map]
    refine List.map_congr_left fun m _ => ?_
    show (if (Sum.inl (m : Int) : Key) = Sum.inl (n : Int) then ((Sum.inl (m : Int) : Key), g n) else (Sum.inl (m : Int), g m)) = (Sum.inl (m : Int), g m)
    by_cases e : m = n
    · subst e
      rw [if_pos rfl]
    · rw [if_neg fun z => e (by injection z with z; omega)]
  · rw [decide_eq_false h, if_neg Bool.false_ne_true, if_neg h]
    unfold kvOf
    rw [List.map_append]
    rfl
theorem kvOf_len (g : Nat → V) (ns : List Nat) : (kvOf g ns).length = ns.length := List.length_map _
theorem kvOf_get (g : Nat → V) : ∀ (ns : List Nat) (n : Nat), n ∈ ns → valV (kvOf g ns) (Sum.inl (n : Int)) = some (g n)
  | [], n, h => nomatch h
  | m :: r, n, h => by
    unfold valV
    show Option.map (·.2) (List.find? (fun kv : Key × V => decide (kv.1 = Sum.inl (n : Int))) (((Sum.inl (m : Int) : Key), g m) :: kvOf g r)) = _
    rw [List.find?_cons]
    by_cases e : m = n
    · subst e
      rw [show decide (((Sum.inl (m : Int) : Key), g m).fst = Sum.inl (m : Int)) = true from decide_eq_true rfl]
      rfl
    · rw [show decide (((Sum.inl (m : Int) : Key), g m).fst = Sum.inl (n : Int)) = false from decide_eq_false fun z => e (by
        have z : (Sum.inl (m : Int) : Key) = Sum.inl (n : Int) := z
        injection z with z
        omega)]
      exact kvOf_get g r n ((List.mem_cons.mp h).resolve_left fun z => e z.symm)
theorem kvOf_at {g : Nat → V} {ns : List Nat} {i : Nat} {k : Key} {v : V} (h : (kvOf g ns)[i]? = some (k, v)) : ∃ n, ns[i]? = some n ∧ k = Sum.inl (n : Int) ∧ v = g n := by
  unfold kvOf at h
  rw [List.getElem?_map] at h
  cases e : ns[i]? with
  | none => rw [e] at h; cases h
  | some n =>
    rw [e] at h
    cases h
    exact ⟨n, rfl, rfl, rfl⟩
theorem tups_dk {K : PySem.W.Frag} {H : Hp} {t : Addr} {kvs : List (Key × V)} (h : H t = some (.dK kvs)) (o : HO) : Tups K H (upd H t o) := by
  intro a ys q
  rcases q with (q | ⟨u, q⟩) | q
  · exact .inl (.inl (by rw [upd_ne (ne_of q h (by intro z; cases z))]; exact q))
  · exact .inl (.inr ⟨u, by rw [upd_ne (ne_of q h (by intro z; cases z))]; exact q⟩)
  · exact .inr q
section
variable {P : Program} {w : World} {K : PySem.W.Frag} {mg : Str → Option Value} {base : Heap}
abbrev s_size_with : Stmt := top 30
theorem sc_size_with : FnScope ["T", "sizes", "part"] ["T", "sizes"] (defScope s_size_with) := ⟨rfl, rfl, rfl, by decide +kernel, rfl, by decide +kernel, by decide +kernel⟩
def spSizeW (K : PySem.W.Frag) : Sp := fun vs H Q _ => ∃ (T : Ty) (v : V) (d : Addr) (kvs : List (Key × V)) (g : Nat → Nat), vs = [v, .ref d] ∧ TyH K H T v ∧ T.sz ≤ 1000 ∧ H d = some (.dK kvs) ∧
  (∀ n, n ∈ T.vars → valV kvs (Sum.inl (n : Int)) = some (.int (g n : Int))) ∧ ∀ (H' : Hp), Same H H' → Q (.int ((wsum g T.pre : Nat) : Int)) H'
theorem ok_size_with (A : At K mg "size_with" s_size_with ["T", "sizes"]) (B : Bi mg) (D_nodes_of : Has P w K mg base "nodes_of" ["T"] 2 (spNodes K)) : Has P w K mg base "size_with" ["T", "sizes"] 3 (spSizeW K) := by
  refine .mk A fun f fd F => ?_
  refine F.ok sc_size_with (fun vs H Q E h => ?_) (fun cdv A outer s H vs Q E hr h => ?_)
  · obtain ⟨T, v, d, kvs, g, rfl, _⟩ := h
    rfl
  obtain ⟨T, v, d, kvs, g, rfl, hT, hsz, hd, hv, q⟩ := h
  obtain ⟨f_nodes_of, fd_nodes_of, G_nodes_of, b_nodes_of, k_nodes_of, m_nodes_of⟩ := D_nodes_of
  refine ⟨_, (pss_one (ps_ret (pe_callB (cr_sum rfl) (by rfl) B.sum (by decide +kernel) (pa_cons (pe_lc (own := [("part", 2)]) (g := gName 2) (tt := tYes) (by rfl) sc_size_with.nd (pi_list (pe_call G_nodes_of (hr.mono (by decide)) rfl m_nodes_of k_nodes_of b_nodes_of .nil pass0 (pa_cons (pv 0) pa_nil))) (blkOk_by (N := ["T", "sizes", "part"]) (sc := defScope s_size_with) (by decide +kernel)) (fun _ _ _ _ _ => (pg_name (i := 2) sc_size_with.nd rfl (Or.inl rfl))) (fun _ _ _ _ _ => pts_nil) (fun _ _ _ _ _ => (pe_ifExp (pt_cmpR op_eq (pe_ix (ixT K) (pv 2) pe_int (fun _ _ => rfl)) pe_str (nomark _)) (pe_dget (hu_of hr) (pv 1) (pe_ix (ixT K) (pv 2) pe_int (fun _ _ => rfl)) (fun _ _ => rfl)) pe_int))) pa_nil)))), ?_⟩
  refine ⟨_, rfl, T, v, rfl, hT, hsz, fun H2 p xs g2 _ hp hx => ?_⟩
  have hxl := hx.len
  rw [pre_len] at hxl
  let L : List Int := T.pre.map fun t => match t.lab.num with | some n => (g n : Int) | none => 1
  refine ⟨p, rfl, ⟨xs, SqL.of hp⟩, fun D hD => lc_list (K := K) (a := p) (xs := xs)
    (fun i H3 => Same H2 H3 ∧ H3 D = some (.lst ((L.take i).map V.int))) ⟨same_upd hD _, upd_same⟩ (fun i H3 _ a => SqL.of (a.1 _ _ hp)) ?_ ?_⟩
  · rintro i x H3 hix ⟨g3, hd3⟩
    obtain ⟨t, hti, ht⟩ := hx.get hix
    have hlt := lt_of_get hix
    obtain ⟨a, ws, rfl, ⟨r, hS, hR⟩, _⟩ := (ht.mono (tups_of g3)).out
    have i0 : atI (V.str t.lab.word :: r) 0 = some (V.str t.lab.word) := atI_nat (j := 0) rfl
    have hLi : L[i]? = some (match t.lab.num with | some n => (g n : Int) | none => 1) := by
      show (List.map _ T.pre)[i]? = _
      rw [List.getElem?_map, hti]
      rfl
    have hnew : ∀ z : Int, z = (match t.lab.num with | some n => (g n : Int) | none => 1) →
        ∃ acc, H3 D = some (.lst acc) ∧ acc.length < sizeLine ∧ Same H2 (upd H3 D (.lst (acc ++ [.int z]))) ∧ upd H3 D (.lst (acc ++ [.int z])) D = some (.lst ((L.take (i + 1)).map V.int)) := by
      intro z hz
      refine ⟨_, hd3, ?_, same_set g3 hD _, ?_⟩
      · rw [List.length_map, List.length_take]
        exact small1000 (by omega)
      · rw [upd_same, take_snoc hLi, List.map_append, hz]
        rfl
    refine ⟨rfl, _, rfl, a, _, _, _, rfl, rfl, hS, i0, rfl, _, rfl, ?_⟩
    rw [w_var]
    have hmem : t ∈ T.pre := List.mem_of_getElem? hti
    obtain ⟨l, ts⟩ := t
    cases l with
    | var n =>
      obtain ⟨_, rfl⟩ := hR
      have hnv : n ∈ T.vars := List.mem_filterMap.mpr ⟨_, hmem, rfl⟩
      refine iteT ⟨_, rfl, _, rfl, a, _, _, _, rfl, rfl, hS, atI_nat (j := 1) rfl, d, _, rfl, ?_, hnew (g n : Int) rfl⟩
      rw [← hv n hnv]
      exact DGet.k (k := Sum.inl (n : Int)) (g3 _ _ (g2 _ _ hd))
    | _ => exact iteF (hnew 1 rfl)
  · rintro H3 ⟨g3, hd3⟩
    have hall : L.take xs.length = L := List.take_of_length_le (by show (List.map _ T.pre).length ≤ _; rw [List.length_map, pre_len, hxl]; exact Nat.le_refl _)
    rw [hall] at hd3
    refine ⟨D, L, rfl, SqL.of hd3, ?_⟩
    have e : L.sum = ((wsum g T.pre : Nat) : Int) := by
      show (List.map _ T.pre).sum = _
      clear hall hd3
      generalize T.pre = ts
      induction ts with
      | nil => rfl
      | cons t r ih =>
        rw [List.map_cons, List.sum_cons, ih, wsum_cons]
        cases t.lab.num <;> simp
    rw [e]
    exact q H3 (g2.trans g3)
end
end Lq
namespace Lq
open PySem L2
/-! ### lists of values, one by one -/
def All2 {α : Type} (R : α → V → Prop) : List α → List V → Prop
  | [], xs => xs = []
  | e :: r, xs => ∃ x ys, xs = x :: ys ∧ R e x ∧ All2 R r ys
section
variable {α : Type} {R S : α → V → Prop}
theorem All2.len : ∀ {es : List α} {xs : List V}, All2 R es xs → xs.length = es.length
  | [], _, h => by rw [show _ = [] from h]; rfl
  | e :: r, _, h => by
    obtain ⟨x, ys, rfl, _, h2⟩ := h
    rw [List.length_cons, List.length_cons, All2.len h2]
theorem All2.mono (m : ∀ e x, R e x → S e x) : ∀ {es : List α} {xs : List V}, All2 R es xs → All2 S es xs
  | [], _, h => h
  | e :: r, _, h => by
    obtain ⟨x, ys, rfl, h1, h2⟩ := h
    exact ⟨x, ys, rfl, m _ _ h1, All2.mono m h2⟩
theorem All2.app : ∀ {es fs : List α} {xs ys : List V}, All2 R es xs → All2 R fs ys → All2 R (es ++ fs) (xs ++ ys)
  | [], fs, xs, ys, h, h' => by rw [show xs = [] from h]; exact h'
  | e :: r, fs, xs, ys, h, h' => by
    obtain ⟨x, zs, rfl, h1, h2⟩ := h
    exact ⟨x, zs ++ ys, rfl, h1, All2.app h2 h'⟩
theorem All2.one {e : α} {x : V} (h : R e x) : All2 R [e] [x] := ⟨x, [], rfl, h, rfl⟩
theorem All2.rev : ∀ {es : List α} {xs : List V}, All2 R es xs → All2 R es.reverse xs.reverse
  | [], _, h => by rw [show _ = [] from h]; rfl
  | e :: r, _, h => by
    obtain ⟨x, ys, rfl, h1, h2⟩ := h
    rw [List.reverse_cons, List.reverse_cons]
    exact (All2.rev h2).app (.one h1)
theorem All2.last {es : List α} {xs : List V} (h : All2 R es xs) (hne : xs ≠ []) : ∃ us t ys y, es = us ++ [t] ∧ xs = ys ++ [y] ∧ All2 R us ys ∧ R t y := by
  have r := h.rev
  cases e : es.reverse with
  | nil =>
    rw [e] at r
    exact absurd (by rw [← List.reverse_reverse xs, show xs.reverse = [] from r]; rfl) hne
  | cons t us =>
    rw [e] at r
    obtain ⟨y, ys, e2, h1, h2⟩ := r
    refine ⟨us.reverse, t, ys.reverse, y, ?_, ?_, h2.rev, h1⟩
    · rw [← List.reverse_reverse es, e, List.reverse_cons]
    · rw [← List.reverse_reverse xs, e2, List.reverse_cons]
end
theorem TysH.take {K : PySem.W.Frag} {H : Hp} : ∀ {ts : List Ty} {xs : List V} (k : Nat), TysH K H ts xs → TysH K H (ts.take k) (xs.take k)
  | _, _, 0, _ => by rw [List.take_zero, List.take_zero]; exact .nil
  | [], xs, k + 1, h => by rw [h.nil_inv]; exact .nil
  | t :: r, xs, k + 1, h => by
    obtain ⟨x, ys, rfl, h1, h2⟩ := h.cons_inv
    exact .cons h1 (TysH.take k h2)
theorem TysH.drop {K : PySem.W.Frag} {H : Hp} : ∀ {ts : List Ty} {xs : List V} (k : Nat), TysH K H ts xs → TysH K H (ts.drop k) (xs.drop k)
  | _, _, 0, h => h
  | [], xs, k + 1, h => by rw [h.nil_inv]; exact .nil
  | t :: r, xs, k + 1, h => by
    obtain ⟨x, ys, rfl, h1, h2⟩ := h.cons_inv
    exact TysH.drop k h2
/-! ### what is still to be done -/
def ev (σ : Nat → Ty) : List (Ty × Bool) → List Ty → Option (List Ty)
  | [], d => some d
  | (T, b) :: r, d => if T.lab.num ≠ none ∨ b = false then ev σ r (d ++ [T.sub σ])
    else if T.kids.length ≤ d.length then ev σ r (d.take (d.length - T.kids.length) ++ [.node T.lab (d.drop (d.length - T.kids.length))]) else none
theorem ev_done (σ : Nat → Ty) {T : Ty} {b : Bool} {r : List (Ty × Bool)} {d : List Ty} (h : T.lab.num ≠ none ∨ b = false) : ev σ ((T, b) :: r) d = ev σ r (d ++ [T.sub σ]) := by
  rw [ev, if_pos h]
theorem ev_kids (σ : Nat → Ty) : ∀ (ts : List Ty) (r : List (Ty × Bool)) (d : List Ty), ev σ (ts.map (fun t => (t, false)) ++ r) d = ev σ r (d ++ Ty.subs σ ts)
  | [], r, d => by rw [subs_nil, List.append_nil]; rfl
  | t :: ts, r, d => by
    rw [List.map_cons, List.cons_append, ev_done σ (.inr rfl), ev_kids σ ts r, subs_cons, List.append_assoc]
    rfl
theorem ev_open (σ : Nat → Ty) {T : Ty} (h : T.lab.num = none) (r : List (Ty × Bool)) (d : List Ty) :
    ev σ (T.kids.map (fun t => (t, false)) ++ (T, true) :: r) d = ev σ ((T, false) :: r) d := by
  have hl : (Ty.subs σ T.kids).length = T.kids.length := by rw [subs_map, List.length_map]
  rw [ev_kids, ev_done σ (.inr rfl), ev, if_neg (by rw [h]; simp), if_pos (by rw [List.length_append, hl]; omega), sub_node σ h, List.length_append, hl, Nat.add_sub_cancel, List.take_left', List.drop_left'] <;> rfl
def wt : Ty × Bool → Nat
  | (T, b) => if b = true then 1 else 2 * T.sz
def wts (es : List (Ty × Bool)) : Nat := (es.map wt).sum
theorem wts_app (a b : List (Ty × Bool)) : wts (a ++ b) = wts a + wts b := by unfold wts; rw [List.map_append, List.sum_append]
theorem wts_one (e : Ty × Bool) : wts [e] = wt e := by unfold wts; simp
theorem wt_pos (e : Ty × Bool) : 1 ≤ wt e := by
  obtain ⟨T, b⟩ := e
  have := sz_pos T
  cases b with
  | true => exact Nat.le_refl _
  | false =>
    show 1 ≤ 2 * T.sz
    omega
theorem wts_len : ∀ (es : List (Ty × Bool)), es.length ≤ wts es
  | [] => Nat.zero_le _
  | e :: r => by
    have h1 := wts_len r
    have h2 := wt_pos e
    have h3 := wts_app [e] r
    rw [wts_one] at h3
    rw [List.length_cons, show e :: r = [e] ++ r from rfl, h3]
    omega
theorem wts_kids (ts : List Ty) : wts (ts.map (fun t => (t, false)) ) = 2 * Ty.szs ts := by
  induction ts with
  | nil => rw [szs_nil]; rfl
  | cons t r ih =>
    rw [List.map_cons, show (t, false) :: r.map (fun t => (t, false)) = [(t, false)] ++ r.map (fun t => (t, false)) from rfl, wts_app, wts_one, ih, szs_cons]
    show (if false = true then 1 else 2 * t.sz) + _ = _
    rw [if_neg Bool.false_ne_true]
    omega
def EntH (K : PySem.W.Frag) (H : Hp) (e : Ty × Bool) (y : V) : Prop := ∃ (a : Addr) (v : V), y = .ref a ∧ SqT K H a [v, .bl e.2] ∧ TyH K H e.1 v
theorem EntH.mono {K : PySem.W.Frag} {H H' : Hp} (t : Tups K H H') (e : Ty × Bool) (y : V) (h : EntH K H e y) : EntH K H' e y := by
  obtain ⟨a, v, h1, h2, h3⟩ := h
  exact ⟨a, v, h1, t _ _ h2, h3.mono t⟩
theorem vars_kid {T t : Ty} (m : t ∈ T.kids) {n : Nat} (h : n ∈ t.vars) : n ∈ T.vars := by
  obtain ⟨u, hu, e⟩ := List.mem_filterMap.mp h
  exact List.mem_filterMap.mpr ⟨u, by rw [pre_eq]; exact List.mem_cons_of_mem _ (mem_pres m hu), e⟩
theorem vars_self {T : Ty} {n : Nat} (h : T.lab.num = some n) : n ∈ T.vars := List.mem_filterMap.mpr ⟨T, by rw [pre_eq]; exact List.mem_cons_self, h⟩
end Lq
namespace Lq
open PySem L2
theorem cut_tail {xs : List V} {j : Nat} (h : j ≤ xs.length) : cutV xs (some (j : Int)) none = xs.drop j := by
  unfold cutV
  rw [HT.sIx_nat, HT.sIx_none, Nat.min_eq_left h]
  exact List.take_of_length_le (by rw [List.length_drop]; exact Nat.le_refl _)
section
variable {P : Program} {w : World} {K : PySem.W.Frag} {mg : Str → Option Value} {base : Heap}
abbrev s_replaced : Stmt := top 31
theorem sc_replaced : FnScope ["T", "images", "done", "todo", "part", "ready", "first", "parts", "inner"] ["T", "images"] (defScope s_replaced) := ⟨rfl, rfl, rfl, by decide +kernel, rfl, by decide +kernel, by decide +kernel⟩
def spReplaced (K : PySem.W.Frag) : Sp := fun vs H Q _ => ∃ (T : Ty) (v : V) (d : Addr) (kvs : List (Key × V)) (σ : Nat → Ty) (ar : List Nat), vs = [v, .ref d] ∧ TyH K H T v ∧ T.Ok ar ∧ T.sz ≤ 300 ∧ H d = some (.dK kvs) ∧
  (∀ n, n ∈ T.vars → ∃ x, valV kvs (Sum.inl (n : Int)) = some x ∧ TyH K H (σ n) x) ∧ ∀ (H' : Hp) (x : V), Same H H' → TyH K H' (T.sub σ) x → Q x H'
theorem ok_replaced (A : At K mg "replaced" s_replaced ["T", "images"]) (B : Bi mg) (D_children : Has P w K mg base "children" ["T"] 1 (spChildren K)) (D_with_children : Has P w K mg base "with_children" ["T", "parts"] 1 (spWith K)) : Has P w K mg base "replaced" ["T", "images"] 2 (spReplaced K) := by
  refine .mk A fun f fd F => ?_
  refine F.ok sc_replaced (fun vs H Q E h => ?_) (fun cdv A outer s H vs Q E hr h => ?_)
  · obtain ⟨T, v, d, kvs, τ, ar, rfl, _⟩ := h
    rfl
  obtain ⟨T, v, d, kvs, τ, ar, rfl, hT, hok, hsz, hd, hv, q⟩ := h
  obtain ⟨f_children, fd_children, G_children, b_children, k_children, m_children⟩ := D_children
  obtain ⟨f_with_children, fd_with_children, G_with_children, b_with_children, k_with_children, m_with_children⟩ := D_with_children
  refine ⟨_, (pss_cons (ps_set (i := 2) sc_replaced.nd rfl (Or.inl rfl) (pe_lst pa_nil))
  (pss_cons (ps_set (i := 3) sc_replaced.nd rfl (Or.inl rfl) (pe_lst (pa_cons (pe_tup (pa_cons (pv 0) (pa_cons pe_bl pa_nil))) pa_nil)))
  (pss_cons (ps_while PassesOwn.never (pt_truth (pv 3) (by intro _; rfl)) (pss_cons (ps_asg (pe_bm0 PySem.F.plainAttrs_list PySem.F.slot_list_pop PySem.F.type_list_pop mt_pop (pv 3)) (pg_tup rfl (pgs_cons (pg_name (i := 4) sc_replaced.nd rfl (Or.inl rfl)) (pgs_cons (pg_name (i := 5) sc_replaced.nd rfl (Or.inl rfl)) pgs_nil))))
  (pss_one (ps_if (pt_cmpR op_eq (pe_ix (ixT K) (pv 4) pe_int (fun _ _ => rfl)) pe_str (nomark _)) (pss_one (ps_expr (pe_bm PySem.F.plainAttrs_list PySem.F.slot_list_append PySem.F.type_list_append mt_append (pv 2) (pa_cons (pe_dget (hu_of hr) (pv 1) (pe_ix (ixT K) (pv 4) pe_int (fun _ _ => rfl)) (fun _ _ => rfl)) pa_nil)))) (pss_one (ps_if (pt_truth (pv 5) (by intro _; rfl)) (pss_cons (ps_set (i := 6) sc_replaced.nd rfl (Or.inl rfl) (pe_op op_sub (pe_callB (lenS K) (by rfl) B.len (by decide +kernel) (pa_cons (pv 2) pa_nil)) (pe_callB (lenS K) (by rfl) B.len (by decide +kernel) (pa_cons (pe_call G_children (hr.mono (by decide)) rfl m_children k_children b_children .nil pass0 (pa_cons (pv 4) pa_nil)) pa_nil))))
  (pss_cons (ps_set (i := 7) sc_replaced.nd rfl (Or.inl rfl) (pe_callTy call_tuple_of (by rfl) B.tuple (by decide +kernel) (pa_cons (pe_slice sl_list (pv 2) (po_some (pv 6)) po_none) pa_nil)))
  (pss_cons (ps_delT (pv 2) (po_some (pv 6)))
  (pss_one (ps_expr (pe_bm PySem.F.plainAttrs_list PySem.F.slot_list_append PySem.F.type_list_append mt_append (pv 2) (pa_cons (pe_call G_with_children (hr.mono (by decide)) rfl m_with_children k_with_children b_with_children .nil pass0 (pa_cons (pv 4) (pa_cons (pv 7) pa_nil))) pa_nil))))))) (pss_cons (ps_expr (pe_bm PySem.F.plainAttrs_list PySem.F.slot_list_append PySem.F.type_list_append mt_append (pv 3) (pa_cons (pe_tup (pa_cons (pv 4) (pa_cons pe_bl pa_nil))) pa_nil)))
  (pss_one (ps_expr (pe_bm PySem.F.plainAttrs_list PySem.F.slot_list_extend PySem.F.type_list_extend mt_extend (pv 3) (pa_cons (pe_lc (own := [("inner", 8)]) (g := gName 8) (tt := tYes) (by rfl) sc_replaced.nd (pi_tup (pe_backT (pe_call G_children (hr.mono (by decide)) rfl m_children k_children b_children .nil pass0 (pa_cons (pv 4) pa_nil)))) (blkOk_by (N := ["T", "images", "done", "todo", "part", "ready", "first", "parts", "inner"]) (sc := defScope s_replaced) (by decide +kernel)) (fun _ _ _ _ _ => (pg_name (i := 8) sc_replaced.nd rfl (Or.inl rfl))) (fun _ _ _ _ _ => pts_nil) (fun _ _ _ _ _ => (pe_tup (pa_cons (pv 8) (pa_cons pe_bl pa_nil))))) pa_nil)))))))))))
  (pss_one (ps_ret (pe_ix (ixL K) (pv 2) pe_int (fun _ _ => rfl))))))), ?_⟩
  refine ⟨Nat.zero_le _, fun da ha => ?_⟩
  refine ⟨_, rfl, by show 2 ≤ sizeLine; decide, fun ea he => ?_⟩
  refine ⟨by show 1 ≤ sizeLine; decide, fun ta hb => ?_⟩
  have hda : H da = none := ha
  have g0 := same_upd ha (.lst [])
  have g1 := g0.trans (same_upd he (.tup [v, V.bl false]))
  have hta : H ta = none := g1.free hb
  have ndt : da ≠ ta := by
    intro e
    rw [← e] at hb
    exact absurd ((same_upd he (.tup [v, V.bl false]) da _ upd_same).symm.trans hb) (by intro z; cases z)
  dsimp only [gName, tSeq, tAsg, tC]
  refine while_m (fun m σ H1 => ∃ (ds : List Ty) (xs ys : List V) (es : List (Ty × Bool)) (s4 s5 s6 s7 s8 : Option V), σ = [some v, some (.ref d), some (.ref da), some (.ref ta), s4, s5, s6, s7, s8] ∧ Same H H1 ∧ H1 da = some (.lst xs) ∧ TysH K H1 ds xs ∧
    H1 ta = some (.lst ys) ∧ All2 (EntH K H1) es ys ∧ (∀ e ∈ es, e.1.Ok ar ∧ ∀ n, n ∈ e.1.vars → n ∈ T.vars) ∧ ev τ es.reverse ds = some [T.sub τ] ∧ xs.length + wts es ≤ 2 * T.sz ∧ m = wts es) (m := 2 * T.sz) ?_ ?_
    (fun σ H1 Q1 Q2 mo ⟨z, e, k, tk, qq⟩ => ⟨z, e, k, tk, mo _ _ qq⟩)
  · refine ⟨[], [], [V.ref ea], [(T, false)], none, none, none, none, none, rfl, same_set g1 hta _, ?_, .nil, upd_same, .one ⟨ea, v, rfl, ?_, hT.mono (tups_of (same_set g1 hta _))⟩, ?_, ?_, ?_, ?_⟩
    · rw [upd_ne ndt]
      exact same_upd he _ _ _ upd_same
    · exact tups_of (same_upd hb _) _ _ sq_new
    · intro e h
      rw [List.mem_singleton.mp h]
      exact ⟨hok, fun n h => h⟩
    · rw [List.reverse_singleton, ev_done τ (.inr rfl)]
      rfl
    · rw [wts_one]
      exact Nat.le_of_eq (Nat.zero_add _)
    · rw [wts_one]
      rfl
  rintro m σ H1 ⟨ds, xs, ys, es, s4, s5, s6, s7, s8, rfl, g, h1, k1, h2, k2, oke, hev, hw, rfl⟩
  refine ⟨_, rfl, _, .inl ⟨ys, SqL.of h2, rfl⟩, ?_⟩
  have hlx := k1.len
  by_cases hne : ys = []
  · subst hne
    have ee : es = [] := List.eq_nil_of_length_eq_zero k2.len.symm
    subst ee
    have ed : ds = [T.sub τ] := by
      have : some ds = some [T.sub τ] := hev
      injection this
    subst ed
    obtain ⟨x, zs, rfl, hx, hz⟩ := k1.cons_inv
    exact iteF ⟨_, rfl, da, _, _, _, rfl, rfl, SqL.of h1, atI_nat (j := 0) rfl, q H1 x g hx⟩
  · have eb : (!ys.isEmpty) = true := by
      cases ys with
      | nil => exact absurd rfl hne
      | cons _ _ => rfl
    rw [eb]
    refine iteT ?_
    obtain ⟨us, ⟨t, b⟩, zs, y, rfl, rfl, ku, kt⟩ := k2.last hne
    obtain ⟨a, vt, rfl, hSe, ht⟩ := kt
    obtain ⟨okt, hvt⟩ := oke (t, b) (List.mem_append_right _ (List.mem_singleton_self _))
    have oku : ∀ e ∈ us, e.1.Ok ar ∧ ∀ n, n ∈ e.1.vars → n ∈ T.vars := fun e h => oke e (List.mem_append_left _ h)
    rw [wts_app, wts_one] at hw
    rw [List.reverse_append, List.reverse_singleton, List.singleton_append] at hev
    have hlu := ku.len
    have hwu := wts_len us
    refine ⟨_, rfl, .inl ⟨rfl, _, SqL.of h2⟩, ta, _, _, rfl, rfl, h2, last_at zs _, ?_⟩
    rw [drop_at]
    have t2 : Tups K H1 (upd H1 ta (.lst zs)) := tups_set h2 _
    have h2d : upd H1 ta (.lst zs) da = some (.lst xs) := by rw [upd_ne ndt]; exact h1
    have g2 : Same H (upd H1 ta (.lst zs)) := same_set g hta _
    refine ⟨a, _, rfl, t2 _ _ hSe, rfl, _, _, rfl, _, _, rfl, rfl, ?_⟩
    have ht2 := ht.mono t2
    obtain ⟨c, ws, rfl, ⟨r, hS, hR⟩, hK⟩ := ht2.out
    have i0 : atI (V.str t.lab.word :: r) 0 = some (V.str t.lab.word) := atI_nat (j := 0) rfl
    refine ⟨_, rfl, c, _, _, _, rfl, rfl, hS, i0, rfl, _, rfl, ?_⟩
    rw [w_var]
    by_cases hvar : t.lab.isVar = true
    · rw [hvar]
      obtain ⟨n, hn⟩ : ∃ n, t.lab = .var n := by
        cases e : t.lab with
        | var n => exact ⟨n, rfl⟩
        | _ => rw [e] at hvar; cases hvar
      rw [hn] at hR hS
      obtain ⟨_, rfl⟩ := hR
      have hnum : t.lab.num = some n := by rw [hn]; rfl
      obtain ⟨x, hx, hxT⟩ := hv n (hvt n (vars_self hnum))
      refine iteT ⟨_, rfl, .inl ⟨rfl, _, SqL.of h2d⟩, _, rfl, _, rfl, c, _, _, _, rfl, rfl, hS, atI_nat (j := 1) rfl, d, _, rfl, hx ▸ DGet.k (k := Sum.inl (n : Int)) (g2 _ _ hd), da, xs, x, rfl, rfl, h2d, small1000 (by omega), ?_⟩
      have t3 := tups_set (K := K) h2d (.lst (xs ++ [x]))
      refine ⟨wts us, ?_, ds ++ [τ n], xs ++ [x], zs, us, _, _, _, _, _, rfl, same_set g2 hda _, upd_same, (k1.mono (t2.trans t3)).app (.cons (hxT.mono ((tups_of g2).trans t3)) .nil), by rw [upd_ne ndt.symm]; exact upd_same,
        ku.mono (EntH.mono (t2.trans t3)), oku, ?_, ?_, rfl⟩
      · have := wt_pos (t, b)
        rw [wts_app, wts_one]
        omega
      · rw [ev_done τ (.inl (by rw [hnum]; exact fun z => nomatch z)), sub_var τ hnum] at hev
        exact hev
      · have := wt_pos (t, b)
        rw [List.length_append, List.length_singleton]
        omega
    · have hvf : t.lab.isVar = false := by
        cases e : t.lab.isVar with
        | true => exact absurd e hvar
        | false => rfl
      rw [hvf]
      have hnum : t.lab.num = none := by
        cases e : t.lab with
        | var n => rw [e] at hvf; cases hvf
        | _ => rfl
      cases b with
      | true =>
        refine iteF ⟨_, rfl, true, rfl, iteT ?_⟩
        have hq : t.kids.length ≤ ds.length ∧ ev τ us.reverse (ds.take (ds.length - t.kids.length) ++ [.node t.lab (ds.drop (ds.length - t.kids.length))]) = some [T.sub τ] := by
          rw [ev, if_neg (by rw [hnum]; simp)] at hev
          by_cases hle : t.kids.length ≤ ds.length
          · rw [if_pos hle] at hev
            exact ⟨hle, hev⟩
          · rw [if_neg hle] at hev
            cases hev
        obtain ⟨hle, hev'⟩ := hq
        refine ⟨_, rfl, da, _, rfl, .inl (SqL.of h2d), _, rfl, t, _, rfl, ht2, fun H3 c3 xs3 g3 hc3 hx3 => ?_⟩
        refine ⟨c3, xs3, rfl, .inr hc3, _, _, rfl, rfl, ?_⟩
        have e3 := hx3.len
        have h3d : H3 da = some (.lst xs) := g3 _ _ h2d
        have hcut : ((xs.length : Nat) : Int) - ((xs3.length : Nat) : Int) = ((xs.length - t.kids.length : Nat) : Int) := by omega
        refine ⟨_, rfl, _, rfl, _, rfl, da, xs, rfl, SqL.of h3d, fun p hp => ?_⟩
        have hcv : cutV xs (some (((xs.length : Nat) : Int) - ((xs3.length : Nat) : Int))) none = xs.drop (xs.length - t.kids.length) := by
          rw [hcut]
          exact cut_tail (by omega)
        rw [hcv] at *
        have g4 := same_upd hp (.lst (xs.drop (xs.length - t.kids.length)))
        refine ⟨p, _, rfl, .inl ⟨SqL.of upd_same, fun l hl => ?_⟩⟩
        have g5 := same_upd hl (.tup (xs.drop (xs.length - t.kids.length)))
        have h5d := g5 _ _ (g4 _ _ h3d)
        refine ⟨_, rfl, _, rfl, _, rfl, da, xs, xs.length - t.kids.length, rfl, by rw [hcut], h5d, by omega, ?_⟩
        have t6 := tups_set (K := K) h5d (.lst (xs.take (xs.length - t.kids.length)))
        have t26 := (tups_of (K := K) (g3.trans (g4.trans g5))).trans t6
        have g26 : Same H _ := same_set (g2.trans (g3.trans (g4.trans g5))) hda (.lst (xs.take (xs.length - t.kids.length)))
        have hdl : ds.length - t.kids.length = xs.length - t.kids.length := by omega
        have hkl : (ds.drop (ds.length - t.kids.length)).length = t.kids.length := by
          rw [List.length_drop]
          omega
        refine ⟨_, rfl, .inl ⟨rfl, _, SqL.of upd_same⟩, _, rfl, _, rfl, t, _, l, ds.drop (ds.length - t.kids.length), xs.drop (xs.length - t.kids.length), rfl, ht2.mono t26, t6 _ _ sq_new, ?_, hvf, ?_, ?_, fun H7 c7 g7 h7 => ?_⟩
        · rw [hdl]
          exact ((k1.mono t2).mono t26).drop _
        · intro hf
          rw [hkl]
          have := okt.loc
          cases e : t.lab with
          | fn => rw [e] at this; exact this
          | _ => rw [e] at hf; cases hf
        · rw [hkl]
          have := kids_len t
          have : T.sz ≤ 300 := hsz
          omega
        have h7d : H7 da = some (.lst (xs.take (xs.length - t.kids.length))) := g7 _ _ upd_same
        refine ⟨da, _, _, rfl, rfl, h7d, ?_, ?_⟩
        · rw [List.length_take]
          exact small1000 (by omega)
        have t7 := tups_of (K := K) g7
        have t8 := tups_set (K := K) h7d (.lst (xs.take (xs.length - t.kids.length) ++ [.ref c7]))
        have hzta : H7 ta = some (.lst zs) := g7 _ _ (by rw [upd_ne ndt.symm]; exact g5 _ _ (g4 _ _ (g3 _ _ upd_same)))
        refine ⟨wts us, ?_, ds.take (ds.length - t.kids.length) ++ [.node t.lab (ds.drop (ds.length - t.kids.length))], xs.take (xs.length - t.kids.length) ++ [.ref c7], zs, us, _, _, _, _, _, rfl, same_set (g26.trans g7) hda _, upd_same, ?_, by rw [upd_ne ndt.symm]; exact hzta,
          ku.mono (EntH.mono (t2.trans (t26.trans (t7.trans t8)))), oku, hev', ?_, rfl⟩
        · rw [wts_app, wts_one]
          show wts us < wts us + 1
          omega
        · refine TysH.app ?_ (.cons (h7.mono t8) .nil)
          rw [hdl]
          exact ((k1.mono t2).mono (t26.trans (t7.trans t8))).take _
        · have : wt (t, true) = 1 := rfl
          rw [List.length_append, List.length_singleton, List.length_take]
          omega
      | false =>
        have h2t : upd H1 ta (.lst zs) ta = some (.lst zs) := upd_same
        refine iteF ⟨_, rfl, false, rfl, iteF ⟨_, rfl, .inl ⟨rfl, _, SqL.of h2t⟩, _, rfl, by show 2 ≤ sizeLine; decide, fun p hp => ?_⟩⟩
        have g3 := same_upd hp (.tup [V.ref c, V.bl true])
        have h3t := g3 _ _ h2t
        refine ⟨ta, zs, _, rfl, rfl, h3t, small1000 (by omega), ?_⟩
        have t4 := tups_set (K := K) h3t (.lst (zs ++ [.ref p]))
        have t24 := (tups_of (K := K) g3).trans t4
        have g24 : Same H _ := same_set (g2.trans g3) hta (.lst (zs ++ [.ref p]))
        refine ⟨_, rfl, .inl ⟨rfl, _, SqL.of upd_same⟩, _, rfl, t, _, rfl, ht2.mono t24, fun H5 c5 xs5 g5 hc5 hx5 => ?_⟩
        have e5 := hx5.len
        have hkl := kids_len t
        refine ⟨c5, xs5, rfl, hc5, fun p2 hp2 => ?_⟩
        have g6 := same_upd hp2 (.tup xs5.reverse)
        have hxr := (hx5.mono (tups_of g6)).rev
        generalize hH6 : upd H5 p2 (.tup xs5.reverse) = H6 at g6 hxr
        have h6p : SqT K H6 p2 xs5.reverse := by rw [← hH6]; exact sq_new
        refine ⟨p2, rfl, ⟨_, h6p⟩, fun D hD => lc_tup (K := K) (a := p2) (xs := xs5.reverse)
          (fun i H7 => Same H6 H7 ∧ ∃ acc, H7 D = some (.lst acc) ∧ All2 (EntH K H7) ((t.kids.reverse.take i).map fun t => (t, false)) acc) ?_ (fun i H7 _ a => tups_of a.1 _ _ h6p) ?_ ?_⟩
        · exact ⟨same_upd hD _, [], upd_same, rfl⟩
        · rintro i x H7 hix ⟨g7, acc, hacc, hal⟩
          obtain ⟨u, hui, hu⟩ := hxr.get hix
          have hil := lt_of_get hix
          rw [List.length_reverse] at hil
          have hla := hal.len
          rw [List.length_map, List.length_take] at hla
          have hla2 : acc.length ≤ t.kids.length := by
            rw [hla]
            exact Nat.le_trans (Nat.min_le_right _ _) (by rw [List.length_reverse]; exact Nat.le_refl _)
          have hwt : wt (t, false) = 2 * t.sz := rfl
          refine ⟨rfl, _, rfl, by show 2 ≤ sizeLine; decide, fun p3 hp3 => ?_⟩
          have g8 := same_upd hp3 (.tup [x, V.bl false])
          have h8D := g8 _ _ hacc
          have t9 := tups_set (K := K) h8D (.lst (acc ++ [.ref p3]))
          refine ⟨acc, h8D, small1000 (by omega), same_set (g7.trans g8) hD _, acc ++ [.ref p3], upd_same, ?_⟩
          rw [take_snoc hui, List.map_append]
          refine (hal.mono (EntH.mono ((tups_of g8).trans t9))).app (.one ⟨p3, x, rfl, t9 _ _ sq_new, hu.mono ((tups_of (g7.trans g8)).trans t9)⟩)
        · rintro H7 ⟨g7, acc, hacc, hal⟩
          have hfull : t.kids.reverse.take xs5.reverse.length = t.kids.reverse := List.take_of_length_le (by rw [List.length_reverse, List.length_reverse]; omega)
          rw [hfull] at hal
          have hla := hal.len
          rw [List.length_map, List.length_reverse] at hla
          have h7t : H7 ta = some (.lst (zs ++ [.ref p])) := g7 _ _ (g6 _ _ (g5 _ _ upd_same))
          have h7d : H7 da = some (.lst xs) := g7 _ _ (g6 _ _ (g5 _ _ (by rw [upd_ne ndt]; exact g3 _ _ h2d)))
          have hsk := t.sz_eq
          have hwt : wt (t, false) = 2 * t.sz := rfl
          have hks := len_szs t.kids
          refine ⟨ta, D, _, _, rfl, rfl, h7t, hacc, ?_, ?_⟩
          · rw [List.length_append, List.length_singleton]
            exact small300 (by omega)
          have t47 := tups_of (K := K) (g5.trans (g6.trans g7))
          have t8 := tups_set (K := K) h7t (.lst (zs ++ [.ref p] ++ acc))
          have tall := t2.trans (t24.trans (t47.trans t8))
          have hwk : wts (t.kids.reverse.map fun t => (t, false)) = 2 * Ty.szs t.kids := by rw [wts_kids, szs_rev]
          refine ⟨wts us + 1 + 2 * Ty.szs t.kids, ?_, ds, xs, zs ++ [.ref p] ++ acc, us ++ [(t, true)] ++ t.kids.reverse.map (fun t => (t, false)), _, _, _, _, _, rfl, same_set (g24.trans (g5.trans (g6.trans g7))) hta _, by rw [upd_ne ndt]; exact h7d,
            k1.mono tall, upd_same, ?_, ?_, ?_, ?_, ?_⟩
          · rw [wts_app, wts_one]
            omega
          · refine ((ku.mono (EntH.mono tall)).app (All2.one (e := (t, true)) ⟨p, _, rfl, ?_, ht2.mono (t24.trans (t47.trans t8))⟩)).app (hal.mono (EntH.mono t8))
            exact t8 _ _ (t47 _ _ (t4 _ _ sq_new))
          · intro e he
            rcases List.mem_append.mp he with h | h
            · rcases List.mem_append.mp h with h | h
              · exact oku e h
              · rw [List.mem_singleton.mp h]
                exact ⟨okt, hvt⟩
            · obtain ⟨u, hu, rfl⟩ := List.mem_map.mp h
              have hu' := List.mem_reverse.mp hu
              exact ⟨okt.kid hu', fun n hn => hvt n (vars_kid hu' hn)⟩
          · rw [List.reverse_append, List.reverse_append, ← List.map_reverse, List.reverse_reverse, List.reverse_singleton, List.singleton_append, ev_open τ hnum]
            exact hev
          · rw [wts_app, wts_app, wts_one, hwk]
            show xs.length + (wts us + 1 + _) ≤ _
            omega
          · rw [wts_app, wts_app, wts_one, hwk]
            rfl
end
end Lq
namespace Lq
open PySem L2
theorem dc_items {d : Addr} {o : Obj} {kvs : List (Key × V)} {g : TG} {tt : TT} {tk tv : TE} {vs : List Nat} {σ : St} {H1 : Hp} {D : Addr} {Qd : Hp → Prop} (Pv : Nat → Hp → Prop) (h0 : Pv 0 (upd H1 D (.dK [])))
    (hl : ∀ i H, i ≤ kvs.length → Pv i H → H d = some (.frz o (.dK kvs)))
    (hs : ∀ i k v T H, kvs[i]? = some (k, v) → Pv i H → H T = none → g (.ref T) (wipe σ vs) (upd H T (.tup [kV k, v])) fun σ2 H2 => wipe σ2 vs = wipe σ vs ∧ tt σ2 H2 fun b H3 =>
      if b = true then tk σ2 H3 fun y H4 => tv σ2 H4 fun z H5 => ∃ kvs k, y = kV k ∧ H5 D = some (.dK kvs) ∧ kvs.length < sizeLine ∧ Pv (i + 1) (upd H5 D (.dK (putK kvs k z))) else Pv (i + 1) H3)
    (hd : ∀ H, Pv kvs.length H → Qd H) :
    ∃ W : Nat → Nat → Hp → Prop, (∃ m, W 0 m (upd H1 D (.dK []))) ∧ ∀ i m H, W i m H →
      ((Iti d o kvs).stop i H ∧ Qd H) ∨ ((Iti d o kvs).go i H ∧ ∃ Nx : Hp → Prop, (∀ H', Nx H' → ∃ m', m' < m ∧ W (i + 1) m' H') ∧ ∀ x H', (Iti d o kvs).yld i H x H' → g x (wipe σ vs) H' fun σ2 H2 => wipe σ2 vs = wipe σ vs ∧ tt σ2 H2 fun b H3 =>
        if b = true then tk σ2 H3 fun y H4 => tv σ2 H4 fun z H5 => ∃ kvs k, y = kV k ∧ H5 D = some (.dK kvs) ∧ kvs.length < sizeLine ∧ Nx (upd H5 D (.dK (putK kvs k z))) else Nx H3) := by
  refine ⟨fun i m H => m = kvs.length - i ∧ i ≤ kvs.length ∧ Pv i H, ⟨kvs.length, by simp, Nat.zero_le _, h0⟩, ?_⟩
  rintro i m H ⟨rfl, hi, p⟩
  have q := hl i H hi p
  by_cases hlt : i < kvs.length
  · refine .inr ⟨⟨q, hlt⟩, Pv (i + 1), fun H' p' => ⟨kvs.length - (i + 1), by omega, rfl, hlt, p'⟩, fun x H' y => ?_⟩
    obtain ⟨T, k, v, e, rfl, hT, rfl⟩ := y
    exact hs i k v T _ e p hT
  · have e : i = kvs.length := by omega
    subst e
    exact .inl ⟨⟨q, Nat.le_refl _⟩, hd H p⟩
theorem unlock_same {H H3 : Hp} {d : Addr} {u o : HO} (h : H d = some u) (e : Same (upd H d o) H3) : Same H (upd H3 d u) := by
  intro b w hb
  by_cases hbd : b = d
  · rw [hbd, upd_same]
    rw [hbd, h] at hb
    exact hb
  · rw [upd_ne hbd]
    exact e b w (by rw [upd_ne hbd]; exact hb)
section
variable {P : Program} {w : World} {K : PySem.W.Frag} {mg : Str → Option Value} {base : Heap}
abbrev s_put_in : Stmt := top 46
theorem sc_put_in : FnScope ["T", "images", "sizes", "variable", "image"] ["T", "images"] (defScope s_put_in) := ⟨rfl, rfl, rfl, by decide +kernel, rfl, by decide +kernel, by decide +kernel⟩
def spPutIn (K : PySem.W.Frag) : Sp := fun vs H Q _ => ∃ (T : Ty) (v : V) (d : Addr) (g : Nat → V) (ns : List Nat) (σ : Nat → Ty) (ar : List Nat), vs = [v, .ref d] ∧ TyH K H T v ∧ T.Ok ar ∧ T.sz ≤ 300 ∧ (T.sub σ).sz ≤ 300 ∧ H d = some (.dK (kvOf g ns)) ∧ ns.length ≤ 1000 ∧
  (∀ n, n ∈ ns → TyH K H (σ n) (g n) ∧ (σ n).sz ≤ 1000) ∧ (∀ n, n ∈ T.vars → n ∈ ns) ∧ ∀ (H' : Hp) (x : V), Same H H' → TyH K H' (T.sub σ) x → Q x H'
theorem ok_put_in (A : At K mg "put_in" s_put_in ["T", "images"]) (B : Bi mg) (C : Ct K mg) (D_nodes_of : Has P w K mg base "nodes_of" ["T"] 2 (spNodes K)) (D_size_with : Has P w K mg base "size_with" ["T", "sizes"] 3 (spSizeW K)) (D_replaced : Has P w K mg base "replaced" ["T", "images"] 2 (spReplaced K)) : Has P w K mg base "put_in" ["T", "images"] 4 (spPutIn K) := by
  refine .mk A fun f fd F => ?_
  refine F.ok sc_put_in (fun vs H Q E h => ?_) (fun cdv A outer s H vs Q E hr h => ?_)
  · obtain ⟨T, v, d, g, ns, τ, ar, rfl, _⟩ := h
    rfl
  obtain ⟨T, v, d, g, ns, τ, ar, rfl, hT, hok, hsz, hsub, hd, hnl, hg, hvn, q⟩ := h
  obtain ⟨f_nodes_of, fd_nodes_of, G_nodes_of, b_nodes_of, k_nodes_of, m_nodes_of⟩ := D_nodes_of
  obtain ⟨f_size_with, fd_size_with, G_size_with, b_size_with, k_size_with, m_size_with⟩ := D_size_with
  obtain ⟨f_replaced, fd_replaced, G_replaced, b_replaced, k_replaced, m_replaced⟩ := D_replaced
  obtain ⟨tM, T_MAX_SIZE⟩ := C.MAX_SIZE
  refine ⟨_, (pss_cons (ps_lock (ps_setDc (i := 2) (own := [("variable", 3), ("image", 4)]) (g := gTup _ 2 (gCons (gName 3) (gCons (gName 4) gNil))) (tt := tYes) (by rfl) sc_put_in.nd rfl rfl (sw_dict rfl rfl rfl (by decide +kernel)) (pi_items (pv 1)) (blkOk_by (N := ["T", "images", "sizes", "variable", "image"]) (sc := defScope s_put_in) (by decide +kernel)) (fun _ _ _ _ _ => (pg_tup rfl (pgs_cons (pg_name (i := 3) sc_put_in.nd rfl (Or.inl rfl)) (pgs_cons (pg_name (i := 4) sc_put_in.nd rfl (Or.inl rfl)) pgs_nil)))) (fun _ _ _ _ _ => pts_nil) (fun _ _ _ _ _ => (pv 3)) (fun _ _ _ _ _ => (pe_callB (lenS K) (by rfl) B.len (by decide +kernel) (pa_cons (pe_call G_nodes_of (hr.mono (by decide)) rfl m_nodes_of k_nodes_of b_nodes_of .nil pass0 (pa_cons (pv 4) pa_nil)) pa_nil)))))
  (pss_cons (ps_if (pt_cmpR op_gt (pe_call G_size_with (hr.mono (by decide)) rfl m_size_with k_size_with b_size_with .nil pass0 (pa_cons (pv 0) (pa_cons (pv 2) pa_nil))) (pe_glob rfl T_MAX_SIZE r_int) (nomark _)) (pss_one ps_never) pss_nil)
  (pss_one (ps_ret (pe_call G_replaced (hr.mono (by decide)) rfl m_replaced k_replaced b_replaced .nil pass0 (pa_cons (pv 0) (pa_cons (pv 1) pa_nil))))))), ?_⟩
  refine ⟨d, _, hd, True.intro, fun od => ?_⟩
  have tl : Tups K H (upd H d (.frz od (.dK (kvOf g ns)))) := tups_dk hd _
  generalize hHL : upd H d (.frz od (.dK (kvOf g ns))) = HL at tl
  have hLd : HL d = some (.frz od (.dK (kvOf g ns))) := by rw [← hHL]; exact upd_same
  let szV : Nat → V := fun n => .int (((τ n).sz : Nat) : Int)
  refine ⟨_, rfl, d, od, kvOf g ns, rfl, hLd, fun D hD => dc_items (Pv := fun i H3 => Same HL H3 ∧ ∃ ns2 : List Nat, H3 D = some (.dK (kvOf szV ns2)) ∧ (∀ n, n ∈ ns2 ↔ n ∈ ns.take i) ∧ ns2.length ≤ i) ?_ (fun i H3 _ a => a.1 _ _ hLd) ?_ ?_⟩
  · exact ⟨same_upd hD _, [], upd_same, fun n => by simp, Nat.le_refl _⟩
  · rintro i k x T3 H3 hix ⟨g3, ns2, hd3, hm, hl⟩ hT3
    obtain ⟨n, hni, rfl, rfl⟩ := kvOf_at hix
    have hin := List.mem_of_getElem? hni
    obtain ⟨hgt, hgs⟩ := hg n hin
    have hil := lt_of_get hni
    have g4 := same_upd hT3 (.tup [kV (Sum.inl (n : Int)), g n])
    refine ⟨T3, _, rfl, sq_new, rfl, _, _, rfl, _, _, rfl, rfl, rfl, _, rfl, _, rfl, τ n, g n, rfl, hgt.mono (tl.trans (tups_of (g3.trans g4))), hgs, fun H5 p xs g5 _ hp hx => ?_⟩
    have hxl := hx.len
    rw [pre_len] at hxl
    have h5D := g5 _ _ (g4 _ _ hd3)
    refine ⟨p, _, rfl, .inl (SqL.of hp), kvOf szV ns2, Sum.inl (n : Int), rfl, h5D, by rw [kvOf_len]; exact small1000 (by omega), same_set (g3.trans (g4.trans g5)) hD _, if n ∈ ns2 then ns2 else ns2 ++ [n], ?_, ?_, ?_⟩
    · rw [hxl, upd_same]
      exact congrArg (fun z => some (HO.dK z)) (kvOf_put szV ns2 n)
    · intro m
      rw [take_snoc hni]
      by_cases h : n ∈ ns2
      · rw [if_pos h, hm, List.mem_append]
        exact ⟨.inl, fun o => o.elim id fun e => by rw [List.mem_singleton.mp e]; exact (hm n).mp h⟩
      · rw [if_neg h, List.mem_append, List.mem_append, hm]
    · split
      · omega
      · rw [List.length_append, List.length_singleton]
        omega
  · rintro H3 ⟨g3, ns2, hd3, hm, hl⟩
    rw [kvOf_len, List.take_length] at hm
    rw [kvOf_len] at hl
    refine ⟨g3 _ _ hLd, ?_⟩
    have gF : Same H (upd H3 d (.dK (kvOf g ns))) := unlock_same hd (by rw [hHL]; exact g3)
    have hDd : D ≠ d := by
      intro e
      rw [e, hLd] at hD
      cases hD
    have hFD : upd H3 d (.dK (kvOf g ns)) D = some (.dK (kvOf szV ns2)) := by rw [upd_ne hDd]; exact hd3
    refine ⟨_, rfl, _, rfl, T, v, D, _, fun n => (τ n).sz, rfl, hT.mono (tups_of gF), by omega, hFD, fun n hn => kvOf_get szV ns2 n ((hm n).mpr (hvn n hn)), fun H5 g5 => ?_⟩
    refine ⟨_, _, rfl, rfl, _, rfl, ?_⟩
    have hws : wsum (fun n => (τ n).sz) T.pre = (T.sub τ).sz := wsum_sub τ _ (fun n => rfl) T hok.leafy
    have hno : decide (((wsum (fun n => (τ n).sz) T.pre : Nat) : Int) > 300) = false := decide_eq_false (by rw [hws]; omega)
    rw [hno]
    have gG := gF.trans g5
    refine iteF ⟨_, rfl, _, rfl, T, v, d, _, τ, ar, rfl, hT.mono (tups_of gG), hok, hsz, gG _ _ hd, fun n hn => ⟨g n, kvOf_get g ns n (hvn n hn), ((hg n (hvn n hn)).1).mono (tups_of gG)⟩, fun H6 x g6 hx => q H6 x (gG.trans g6) hx⟩
end
end Lq
namespace Lq
open PySem L2 RZ
theorem lc_zipT {K : PySem.W.Frag} {a b : Addr} {xs ys : List V} {g : TG} {tt : TT} {te : TE} {vs : List Nat} {σ : St} {H1 : Hp} {D : Addr} {Qd : Hp → Prop} (n : Nat) (hn : n = min xs.length ys.length) (Pv : Nat → Hp → Prop) (h0 : Pv 0 (upd H1 D (.lst [])))
    (hl : ∀ i H, i ≤ n → Pv i H → SqT K H a xs ∧ SqT K H b ys)
    (hs : ∀ i x y T H, xs[i]? = some x → ys[i]? = some y → Pv i H → H T = none → g (.ref T) (wipe σ vs) (upd H T (.tup [x, y])) fun σ2 H2 => wipe σ2 vs = wipe σ vs ∧ tt σ2 H2 fun b H3 =>
      if b = true then te σ2 H3 fun y H4 => ∃ acc, H4 D = some (.lst acc) ∧ acc.length < sizeLine ∧ Pv (i + 1) (upd H4 D (.lst (acc ++ [y]))) else Pv (i + 1) H3) (hd : ∀ H, Pv n H → Qd H) :
    ∃ W : Nat → Nat → Hp → Prop, (∃ m, W 0 m (upd H1 D (.lst []))) ∧ ∀ i m H, W i m H →
      ((ItzT K a b).stop i H ∧ Qd H) ∨ ((ItzT K a b).go i H ∧ ∃ Nx : Hp → Prop, (∀ H', Nx H' → ∃ m', m' < m ∧ W (i + 1) m' H') ∧ ∀ x H', (ItzT K a b).yld i H x H' → g x (wipe σ vs) H' fun σ2 H2 => wipe σ2 vs = wipe σ vs ∧ tt σ2 H2 fun b H3 =>
        if b = true then te σ2 H3 fun y H4 => ∃ acc, H4 D = some (.lst acc) ∧ acc.length < sizeLine ∧ Nx (upd H4 D (.lst (acc ++ [y]))) else Nx H3) := by
  rw [hn] at hl hd
  clear hn
  refine ⟨fun i m H => m = min xs.length ys.length - i ∧ i ≤ min xs.length ys.length ∧ Pv i H, ⟨min xs.length ys.length, by simp, Nat.zero_le _, h0⟩, ?_⟩
  rintro i m H ⟨rfl, hi, p⟩
  obtain ⟨qa, qb⟩ := hl i H hi p
  by_cases hlt : i < min xs.length ys.length
  · have hx : i < xs.length := Nat.lt_of_lt_of_le hlt (Nat.min_le_left _ _)
    have hy : i < ys.length := Nat.lt_of_lt_of_le hlt (Nat.min_le_right _ _)
    refine .inr ⟨⟨xs, ys, xs[i], ys[i], qa, qb, by simp [hx], by simp [hy]⟩, Pv (i + 1), fun H' p' => ⟨min xs.length ys.length - (i + 1), by omega, rfl, hlt, p'⟩, fun v H' y => ?_⟩
    obtain ⟨T, x, y, rfl, hT, rfl, fx, fy⟩ := y
    exact hs i x y T H (fx xs qa) (fy ys qb) p hT
  · have e : i = min xs.length ys.length := by omega
    refine .inl ⟨⟨xs, ys, qa, qb, ?_⟩, hd H (by rw [← e]; exact p)⟩
    rcases Nat.le_total xs.length ys.length with h | h
    · exact .inl (by rw [e, Nat.min_eq_left h]; exact Nat.le_refl _)
    · exact .inr (by rw [e, Nat.min_eq_right h]; exact Nat.le_refl _)
section
variable {P : Program} {w : World} {K : PySem.W.Frag} {mg : Str → Option Value} {base : Heap}
abbrev s_is_place : Stmt := top 4
theorem sc_is_place : FnScope ["value", "number"] ["value"] (defScope s_is_place) := ⟨rfl, rfl, rfl, by decide +kernel, rfl, by decide +kernel, by decide +kernel⟩
def spPlace (K : PySem.W.Frag) : Sp := fun vs H Q _ => ∃ (a : Addr) (ns : List Nat), vs = [.ref a] ∧ SqT K H a (natV ns) ∧ (∀ n, n ∈ ns → (n : Int) < 10 ^ 60) ∧ ns.length ≤ 1000 ∧ ∀ (H' : Hp), Same H H' → Q (.bl true) H'
theorem natV_at {ns : List Nat} {i : Nat} {x : V} (h : (natV ns)[i]? = some x) : ∃ n, ns[i]? = some n ∧ x = .int (n : Int) := by
  unfold natV at h
  rw [List.getElem?_map] at h
  cases e : ns[i]? with
  | none => rw [e] at h; cases h
  | some n => rw [e] at h; cases h; exact ⟨n, rfl, rfl⟩
theorem ok_is_place (A : At K mg "is_place" s_is_place ["value"]) (B : Bi mg) (D_is_whole : Has P w K mg base "is_whole" ["value"] 2 spWhole) : Has P w K mg base "is_place" ["value"] 3 (spPlace K) := by
  refine .mk A fun f fd F => ?_
  refine F.ok sc_is_place (fun vs H Q E h => ?_) (fun cdv A outer s H vs Q E hr h => ?_)
  · obtain ⟨a, ns, rfl, _⟩ := h
    rfl
  obtain ⟨a, ns, rfl, hS, hb, hl, q⟩ := h
  obtain ⟨f_is_whole, fd_is_whole, G_is_whole, b_is_whole, k_is_whole, m_is_whole⟩ := D_is_whole
  refine ⟨_, (pss_one (ps_ret (pe_and (pe_callB (isiK K) (by rfl) B.isinstance (by decide +kernel) (pa_cons (pv 0) (pa_cons (pe_bltn (v := .ty "tuple") rfl B.tuple (by decide +kernel) rfl) pa_nil))) (pe_one (pe_callB (cr_all rfl) (by rfl) B.all (by decide +kernel) (pa_cons (pe_lc (own := [("number", 1)]) (g := gName 1) (tt := tYes) (by rfl) sc_is_place.nd (pi_tup (pv 0)) (blkOk_by (N := ["value", "number"]) (sc := defScope s_is_place) (by decide +kernel)) (fun _ _ _ _ _ => (pg_name (i := 1) sc_is_place.nd rfl (Or.inl rfl))) (fun _ _ _ _ _ => pts_nil) (fun _ _ _ _ _ => (pe_call G_is_whole (hr.mono (by decide)) rfl m_is_whole k_is_whole b_is_whole .nil pass0 (pa_cons (pv 1) pa_nil)))) pa_nil)))))), ?_⟩
  refine ⟨_, rfl, _, _, _, _, true, rfl, .ty _, tyx_tup hS, kit_ty (by decide +kernel), _, rfl, iteT ?_⟩
  refine ⟨_, rfl, a, rfl, ⟨_, hS⟩, fun D hD => lc_tup (K := K) (a := a) (xs := natV ns) (AllInv H D) (.start hD) (fun i H3 _ p => tups_of p.1 _ _ hS) ?_ ?_⟩
  · intro i x H3 hx p
    obtain ⟨n, hn, rfl⟩ := natV_at hx
    refine ⟨rfl, _, rfl, (n : Int), rfl, by omega, hb n (List.mem_of_getElem? hn), ?_⟩
    exact p.step hD (by have := lt_of_get hn; omega)
  · intro H3 p
    refine ⟨D, _, rfl, SqL.of p.2, ?_⟩
    rw [all_rep]
    exact q H3 p.1
abbrev s_is_ascending : Stmt := top 5
theorem sc_is_ascending : FnScope ["value", "low", "high"] ["value"] (defScope s_is_ascending) := ⟨rfl, rfl, rfl, by decide +kernel, rfl, by decide +kernel, by decide +kernel⟩
def spAsc (K : PySem.W.Frag) : Sp := fun vs H Q _ => ∃ (a : Addr) (ns : List Nat), vs = [.ref a] ∧ SqT K H a (natV ns) ∧ (∀ n, n ∈ ns → (n : Int) < 10 ^ 60) ∧ ns.length ≤ 1000 ∧ ns.Pairwise (· < ·) ∧ ∀ (H' : Hp), Same H H' → Q (.bl true) H'
theorem asc_at : ∀ {ns : List Nat} {i x y : Nat}, ns.Pairwise (· < ·) → ns[i]? = some x → (ns.drop 1)[i]? = some y → x < y := by
  intro ns i x y hp hx hy
  rw [List.getElem?_drop] at hy
  obtain ⟨h1, e1⟩ := List.getElem?_eq_some_iff.mp hx
  obtain ⟨h2, e2⟩ := List.getElem?_eq_some_iff.mp hy
  rw [← e1, ← e2]
  exact List.pairwise_iff_getElem.mp hp i (1 + i) h1 h2 (by omega)
theorem ok_is_ascending (A : At K mg "is_ascending" s_is_ascending ["value"]) (B : Bi mg) (D_is_place : Has P w K mg base "is_place" ["value"] 3 (spPlace K)) : Has P w K mg base "is_ascending" ["value"] 4 (spAsc K) := by
  refine .mk A fun f fd F => ?_
  refine F.ok sc_is_ascending (fun vs H Q E h => ?_) (fun cdv A outer s H vs Q E hr h => ?_)
  · obtain ⟨a, ns, rfl, _⟩ := h
    rfl
  obtain ⟨a, ns, rfl, hS, hb, hl, hp, q⟩ := h
  obtain ⟨f_is_place, fd_is_place, G_is_place, b_is_place, k_is_place, m_is_place⟩ := D_is_place
  refine ⟨_, (pss_one (ps_ret (pe_and (pe_call G_is_place (hr.mono (by decide)) rfl m_is_place k_is_place b_is_place .nil pass0 (pa_cons (pv 0) pa_nil)) (pe_one (pe_callB (cr_all rfl) (by rfl) B.all (by decide +kernel) (pa_cons (pe_lc (own := [("low", 1), ("high", 2)]) (g := gTup _ 2 (gCons (gName 1) (gCons (gName 2) gNil))) (tt := tYes) (by rfl) sc_is_ascending.nd (pi_zipA (by rfl) B.zip (pa_cons (pv 0) (pa_cons (pe_slice sl_tupA (pv 0) (po_some pe_int) po_none) pa_nil))) (blkOk_by (N := ["value", "low", "high"]) (sc := defScope s_is_ascending) (by decide +kernel)) (fun _ _ _ _ _ => (pg_tup rfl (pgs_cons (pg_name (i := 1) sc_is_ascending.nd rfl (Or.inl rfl)) (pgs_cons (pg_name (i := 2) sc_is_ascending.nd rfl (Or.inl rfl)) pgs_nil)))) (fun _ _ _ _ _ => pts_nil) (fun _ _ _ _ _ => (pe_cmpR op_lt (pv 1) (pv 2) (nomark _)))) pa_nil)))))), ?_⟩
  refine ⟨_, rfl, a, ns, rfl, hS, hb, hl, fun H2 g2 => ⟨_, rfl, iteT ?_⟩⟩
  have hS2 := tups_of g2 _ _ hS
  have step : ∀ (ms : List Nat) (H3 : Hp) (D : Addr), H3 D = none → (∀ (i x y : Nat), ns[i]? = some x → ms[i]? = some y → x < y) → ∀ (i : Nat) (x y : V) (T : Addr) (H4 : Hp), (natV ns)[i]? = some x → (natV ms)[i]? = some y → AllInv H3 D i H4 → H4 T = none →
      ∃ (n m : Nat), x = V.int (n : Int) ∧ y = V.int (m : Int) ∧ ∃ acc, (upd H4 T (.tup [x, y])) D = some (.lst acc) ∧ acc.length < sizeLine ∧ AllInv H3 D (i + 1) (upd (upd H4 T (.tup [x, y])) D (.lst (acc ++ [.bl (decide ((n : Int) < (m : Int)))]))) := by
    intro ms H3 D hD hlt i x y T H4 hx hy p hT
    obtain ⟨n, hn, rfl⟩ := natV_at hx
    obtain ⟨m, hm, rfl⟩ := natV_at hy
    have := hlt i n m hn hm
    refine ⟨n, m, rfl, rfl, ?_⟩
    rw [decide_eq_true (show (n : Int) < (m : Int) by omega)]
    exact ((p.call (same_upd hT _)).step hD (by have := lt_of_get hn; omega))
  refine ⟨_, rfl, _, rfl, _, rfl, a, _, rfl, hS2, fun hw => ?_, fun hw p hp2 => ?_⟩
  · have e0 : ns = [] := by
      have h1 := hw.1
      rw [show (1 : Int) = ((1 : Nat) : Int) from rfl, HT.sIx_nat, natV_len] at h1
      cases ns with
      | nil => rfl
      | cons n r =>
        rw [List.length_cons] at h1
        omega
    have hlt : ∀ (i x y : Nat), ns[i]? = some x → ns[i]? = some y → x < y := by
      intro i x y hx
      rw [e0] at hx
      cases hx
    refine ⟨a, a, natV ns, natV ns, rfl, .inr ⟨hS2, hS2, fun D hD => lc_zipT (K := K) (a := a) (b := a) (xs := natV ns) (ys := natV ns) (min (natV ns).length (natV ns).length) rfl (AllInv H2 D) (.start hD) (fun i H3 _ z => ⟨tups_of z.1 _ _ hS2, tups_of z.1 _ _ hS2⟩) ?_ ?_⟩⟩
    · intro i x y T H4 hx hy z hT
      obtain ⟨n, m, rfl, rfl, r⟩ := step ns H2 D hD hlt i x y T H4 hx hy z hT
      refine ⟨T, _, rfl, sq_new, rfl, _, _, rfl, _, _, rfl, rfl, rfl, _, rfl, _, rfl, _, _, rfl, rfl, r⟩
    · intro H4 z
      refine ⟨D, _, rfl, SqL.of z.2, ?_⟩
      rw [all_rep]
      exact q H4 (g2.trans z.1)
  · have g3 := same_upd hp2 (.tup (cutV (natV ns) (some 1) none))
    have hc : cutV (natV ns) (some 1) none = natV (ns.drop 1) := by
      have h1 : cutV (natV ns) (some ((1 : Nat) : Int)) none = (natV ns).drop 1 := by
        cases ns with
        | nil => exact absurd ⟨rfl, rfl⟩ hw
        | cons n r => exact cut_tail (by rw [natV_len, List.length_cons]; omega)
      exact h1.trans (by unfold natV; rw [List.map_drop])
    rw [hc] at g3 ⊢
    generalize hH3 : upd H2 p (.tup (natV (ns.drop 1))) = H3 at g3
    have hb3 : SqT K H3 p (natV (ns.drop 1)) := by rw [← hH3]; exact sq_new
    have hS3 := tups_of g3 _ _ hS2
    refine ⟨a, p, natV ns, natV (ns.drop 1), rfl, .inr ⟨hS3, hb3, fun D hD => lc_zipT (K := K) (a := a) (b := p) (xs := natV ns) (ys := natV (ns.drop 1)) (min (natV ns).length (natV (ns.drop 1)).length) rfl (AllInv H3 D) (.start hD) (fun i H4 _ z => ⟨tups_of z.1 _ _ hS3, tups_of z.1 _ _ hb3⟩) ?_ ?_⟩⟩
    · intro i x y T H4 hx hy z hT
      obtain ⟨n, m, rfl, rfl, r⟩ := step (ns.drop 1) H3 D hD (fun i x y h h' => asc_at hp h h') i x y T H4 hx hy z hT
      refine ⟨T, _, rfl, sq_new, rfl, _, _, rfl, _, _, rfl, rfl, rfl, _, rfl, _, rfl, _, _, rfl, rfl, r⟩
    · intro H4 z
      refine ⟨D, _, rfl, SqL.of z.2, ?_⟩
      rw [all_rep]
      exact q H4 (g2.trans (g3.trans z.1))
abbrev s_check_marked : Stmt := top 45
theorem sc_check_marked : FnScope ["marked"] ["marked"] (defScope s_check_marked) := ⟨rfl, rfl, rfl, by decide +kernel, rfl, by decide +kernel, by decide +kernel⟩
def spMarked (K : PySem.W.Frag) : Sp := fun vs H Q _ => ∃ (a : Addr) (ns : List Nat), vs = [.ref a] ∧ SqT K H a (natV ns) ∧ (∀ n, n ∈ ns → (n : Int) < 10 ^ 60) ∧ ns.length ≤ 1000 ∧ ns.Pairwise (· < ·) ∧ ∀ (H' : Hp), Same H H' → Q .non H'
theorem ok_check_marked (A : At K mg "check_marked" s_check_marked ["marked"]) (D_is_ascending : Has P w K mg base "is_ascending" ["value"] 4 (spAsc K)) : Has P w K mg base "check_marked" ["marked"] 5 (spMarked K) := by
  refine .mk A fun f fd F => ?_
  refine F.ok sc_check_marked (fun vs H Q E h => ?_) (fun cdv A outer s H vs Q E hr h => ?_)
  · obtain ⟨a, ns, rfl, _⟩ := h
    rfl
  obtain ⟨a, ns, rfl, hS, hb, hl, hp, q⟩ := h
  obtain ⟨f_is_ascending, fd_is_ascending, G_is_ascending, b_is_ascending, k_is_ascending, m_is_ascending⟩ := D_is_ascending
  refine ⟨_, (pss_one (ps_if (pt_not (pt_val (pe_call G_is_ascending (hr.mono (by decide)) rfl m_is_ascending k_is_ascending b_is_ascending .nil pass0 (pa_cons (pv 0) pa_nil)))) (pss_one ps_never) pss_nil)), ?_⟩
  exact ⟨_, rfl, a, ns, rfl, hS, hb, hl, hp, fun H2 g2 => ⟨_, rfl, iteF (q H2 g2)⟩⟩
end
end Lq
namespace Lq
open PySem L2
/-! ### books -/
def AtM (K : PySem.W.Frag) (C : Addr) (x q : Str) (st : Stmt) (ps : List Str) : Prop := ∃ f fd, Fun K x q st f fd ∧ Meth K C x f ∧ Binds K fd ps []
def HasM (P : Program) (w : World) (K : PySem.W.Frag) (mg : Str → Option Value) (base : Heap) (C : Addr) (x : Str) (ps : List Str) (k : Nat) (sp : Sp) : Prop :=
  ∃ f fd, FnOk P w K mg base CX0 k f fd ps sp ∧ Binds K fd ps [] ∧ Meth K C x f
structure Bk (K : PySem.W.Frag) (mg : Str → Option Value) (C : Addr) : Prop where
  cl : Cls K C
  nR : NoAttr K C "_rows"
  nA : NoAttr K C "arities"
  mgC : mg "Book" = some (.ref C)
  ha : PySem.W.findIn K (.ref C) "__class__" = some (some (.builtin "object.__class__"))
  hn : PySem.W.specialIn K (.builtin "object.__class__") "__get__" = some (some (.builtin "getset_descriptor.__get__"))
  htk : PySem.W.takesIn K (.builtin "object.__class__") = some true
  hm : PySem.W.mroIn K C (.type "object") = some true
  kit : PySem.W.kitOne K (.ref C) (.ref C) = some true
theorem ar_ : ¬ (("_rows" : Str) = "arities") := by decide +kernel
theorem ra_ : ¬ (("arities" : Str) = "_rows") := by decide +kernel
def bf (r q : Addr) : List (Str × V) := putF "arities" (.ref q) (putF "_rows" (.ref r) [])
theorem bf_rows (r q : Addr) : (bf r q).lookup ("_rows" : Str) = some (.ref r) := by
  unfold bf
  rw [lookup_putF, if_neg ar_, lookup_putF, if_pos rfl]
theorem bf_ar (r q : Addr) : (bf r q).lookup ("arities" : Str) = some (.ref q) := by
  unfold bf
  rw [lookup_putF, if_pos rfl]
theorem bf_no (r q : Addr) {m : Str} (h1 : ¬ m = "arities") (h2 : ¬ m = "_rows") : (bf r q).lookup m = none := by
  unfold bf
  rw [lookup_putF, if_neg h1, lookup_putF, if_neg h2]
  rfl
structure Row where
  n : Nat
  ask : Option (List Nat)
def AskH (K : PySem.W.Frag) (H : Hp) (ask : Option (List Nat)) (v : V) : Prop := match ask with
  | none => v = .non
  | some l => ∃ a, v = .ref a ∧ SqT K H a (natV l)
def RowH (K : PySem.W.Frag) (H : Hp) (row : Row) (v : V) : Prop := ∃ (p : Addr) (z av cv : V), v = .ref p ∧ SqT K H p [z, .int (row.n : Int), av, cv] ∧ AskH K H row.ask av
theorem AskH.mono {K : PySem.W.Frag} {H H' : Hp} (e : Tups K H H') {ask : Option (List Nat)} {v : V} (h : AskH K H ask v) : AskH K H' ask v := by
  cases ask with
  | none => exact h
  | some l =>
    obtain ⟨a, h1, h2⟩ := h
    exact ⟨a, h1, e _ _ h2⟩
theorem RowH.mono {K : PySem.W.Frag} {H H' : Hp} (e : Tups K H H') (row : Row) (v : V) (h : RowH K H row v) : RowH K H' row v := by
  obtain ⟨p, z, av, cv, h1, h2, h3⟩ := h
  exact ⟨p, z, av, cv, h1, e _ _ h2, h3.mono e⟩
def arOf (rows : List Row) : List Nat := rows.map (·.n)
def BookH (K : PySem.W.Frag) (C : Addr) (H : Hp) (rows : List Row) (v : V) : Prop := ∃ (b dx r q : Addr) (rs : List V), v = .ref b ∧ H b = some (.ins C dx (bf r q)) ∧ SqT K H r rs ∧ All2 (RowH K H) rows rs ∧ SqT K H q (natV (arOf rows))
theorem BookH.mono {K : PySem.W.Frag} {C : Addr} {H H' : Hp} (e : Same H H') {rows : List Row} {v : V} (h : BookH K C H rows v) : BookH K C H' rows v := by
  obtain ⟨b, dx, r, q, rs, h1, h2, h3, h4, h5⟩ := h
  exact ⟨b, dx, r, q, rs, h1, e _ _ h2, tups_of e _ _ h3, h4.mono (RowH.mono (tups_of e)), tups_of e _ _ h5⟩
theorem All2.get {α : Type} {R : α → V → Prop} : ∀ {es : List α} {xs : List V}, All2 R es xs → ∀ {i : Nat} {e : α}, es[i]? = some e → ∃ x, xs[i]? = some x ∧ R e x
  | [], _, _, i, e, h => by cases h
  | a :: r, _, h, 0, e, he => by
    obtain ⟨x, ys, rfl, h1, _⟩ := h
    cases he
    exact ⟨x, rfl, h1⟩
  | a :: r, _, h, i + 1, e, he => by
    obtain ⟨x, ys, rfl, _, h2⟩ := h
    exact All2.get h2 he
section
variable {P : Program} {w : World} {K : PySem.W.Frag} {mg : Str → Option Value} {base : Heap} {C : Addr}
theorem HasM.mk {x q : Str} {st : Stmt} {ps : List Str} {k : Nat} {sp : Sp} (A : AtM K C x q st ps) (h : ∀ f fd, Fun K x q st f fd → FnOk P w K mg base CX0 k f fd ps sp) : HasM P w K mg base C x ps k sp := by
  obtain ⟨f, fd, F, m, b⟩ := A
  exact ⟨f, fd, h f fd F, b, m⟩
abbrev s_Book__row : Stmt := inClass (top 39) 1
theorem sc_Book__row : FnScope ["self", "stamp"] ["self", "stamp"] (defScope s_Book__row) := ⟨rfl, rfl, rfl, by decide +kernel, rfl, by decide +kernel, by decide +kernel⟩
def spRow (K : PySem.W.Frag) (C : Addr) : Sp := fun vs H Q _ => ∃ (v : V) (rows : List Row) (s : Nat) (row : Row), vs = [v, .int (s : Int)] ∧ BookH K C H rows v ∧ 0 < s ∧ (s : Int) < 10 ^ 60 ∧ rows[s - 1]? = some row ∧ ∀ x, RowH K H row x → Q x H
theorem ok_row (A : AtM K C "_row" "Book._row" s_Book__row ["self", "stamp"]) (B : Bi mg) (T : Bk K mg C) (D_is_integer : Has P w K mg base "is_integer" ["value"] 1 spInt) : HasM P w K mg base C "_row" ["self", "stamp"] 2 (spRow K C) := by
  refine .mk A fun f fd F => ?_
  refine F.ok sc_Book__row (fun vs H Q E h => ?_) (fun cdv A outer s H vs Q E hr h => ?_)
  · obtain ⟨v, rows, st, row, rfl, _⟩ := h
    rfl
  obtain ⟨v, rows, st, row, rfl, ⟨b, dx, r, q', rs, rfl, hb, hr', ha, hq⟩, h0, h1, hrow, q⟩ := h
  obtain ⟨f_is_integer, fd_is_integer, G_is_integer, b_is_integer, k_is_integer, m_is_integer⟩ := D_is_integer
  refine ⟨_, (pss_cons (ps_if (PW.pt (pw_or (pt_not (pt_val (pe_call G_is_integer (hr.mono (by decide)) rfl m_is_integer k_is_integer b_is_integer .nil pass0 (pa_cons (pv 1) pa_nil)))) (pw_or1 (pt_not (pt_chain op_le op_le pe_int (pv 1) (pe_callB (lenS K) (by rfl) B.len (by decide +kernel) (pa_cons (pe_fld (pv 0) rfl) pa_nil))))))) (pss_one ps_never) pss_nil)
  (pss_one (ps_ret (pe_ix (ixT K) (pe_fld (pv 0) rfl) (pe_op op_sub (pv 1) pe_int) (fun _ _ => rfl))))), ?_⟩
  have hlen := ha.len
  have hlt := lt_of_get hrow
  obtain ⟨x, hx, hxR⟩ := ha.get hrow
  refine ⟨_, rfl, (st : Int), rfl, by omega, h1, _, rfl, iteF ?_⟩
  refine ⟨_, rfl, _, _, rfl, rfl, _, rfl, ?_⟩
  rw [decide_eq_true (show (1 : Int) ≤ (st : Int) by omega)]
  refine iteT ⟨_, rfl, b, C, dx, _, _, rfl, hb, T.cl, T.nR, bf_rows _ _, r, rs, rfl, .inr hr', _, _, rfl, rfl, _, rfl, ?_⟩
  have e : decide ((st : Int) ≤ ((rs.length : Nat) : Int)) = true := decide_eq_true (by omega)
  rw [e]
  refine iteF ⟨_, rfl, b, C, dx, _, _, rfl, hb, T.cl, T.nR, bf_rows _ _, _, rfl, _, _, rfl, rfl, r, rs, _, x, rfl, rfl, hr', at_of (j := st - 1) (by omega) hx, ?_⟩
  exact q x hxR
abbrev s_Book_asks : Stmt := inClass (top 39) 4
theorem sc_Book_asks : FnScope ["self", "stamp"] ["self", "stamp"] (defScope s_Book_asks) := ⟨rfl, rfl, rfl, by decide +kernel, rfl, by decide +kernel, by decide +kernel⟩
def spAsks (K : PySem.W.Frag) (C : Addr) : Sp := fun vs H Q _ => ∃ (v : V) (rows : List Row) (s : Nat) (row : Row), vs = [v, .int (s : Int)] ∧ BookH K C H rows v ∧ 0 < s ∧ (s : Int) < 10 ^ 60 ∧ rows[s - 1]? = some row ∧ ∀ x, AskH K H row.ask x → Q x H
theorem ok_asks (A : AtM K C "asks" "Book.asks" s_Book_asks ["self", "stamp"]) (B : Bi mg) (T : Bk K mg C) (DM__row : HasM P w K mg base C "_row" ["self", "stamp"] 2 (spRow K C)) : HasM P w K mg base C "asks" ["self", "stamp"] 3 (spAsks K C) := by
  refine .mk A fun f fd F => ?_
  refine F.ok sc_Book_asks (fun vs H Q E h => ?_) (fun cdv A outer s H vs Q E hr h => ?_)
  · obtain ⟨v, rows, st, row, rfl, _⟩ := h
    rfl
  obtain ⟨v, rows, st, row, rfl, hB, h0, h1, hrow, q⟩ := h
  obtain ⟨fm__row, fdm__row, GM__row, bm__row, mm__row⟩ := DM__row
  refine ⟨_, (pss_one (ps_ret (pe_ix (ixT K) (pe_meth (pv 0) T.cl mm__row GM__row (hr.mono (by decide)) bm__row .nil pass0 (pa_cons (pv 1) pa_nil)) pe_int (fun _ _ => rfl)))), ?_⟩
  have hB' := hB
  obtain ⟨b, dx, r, q', rs, rfl, hb, _⟩ := hB
  refine ⟨_, rfl, b, dx, _, rfl, hb, bf_no _ _ (by decide +kernel) (by decide +kernel), _, rfl, _, rows, st, row, rfl, hB', h0, h1, hrow, fun x hx => ?_⟩
  obtain ⟨p, z, av, cv, rfl, hp, hav⟩ := hx
  exact ⟨p, _, _, av, rfl, rfl, hp, atI_nat (j := 2) rfl, q av hav⟩
abbrev s_check_book : Stmt := top 41
theorem sc_check_book : FnScope ["book"] ["book"] (defScope s_check_book) := ⟨rfl, rfl, rfl, by decide +kernel, rfl, by decide +kernel, by decide +kernel⟩
def spCheckBook (K : PySem.W.Frag) (C : Addr) : Sp := fun vs H Q _ => ∃ (v : V) (rows : List Row), vs = [v] ∧ BookH K C H rows v ∧ Q .non H
theorem ok_check_book (A : At K mg "check_book" s_check_book ["book"]) (B : Bi mg) (T : Bk K mg C) : Has P w K mg base "check_book" ["book"] 1 (spCheckBook K C) := by
  refine .mk A fun f fd F => ?_
  refine F.ok sc_check_book (fun vs H Q E h => ?_) (fun cdv A outer s H vs Q E hr h => ?_)
  · obtain ⟨v, rows, rfl, _⟩ := h
    rfl
  obtain ⟨v, rows, rfl, ⟨b, dx, r, q', rs, rfl, hb, _⟩, q⟩ := h
  have T_Book := T.mgC
  refine ⟨_, (pss_one (ps_if (pt_not (pt_val (pe_callB (isiK K) (by rfl) B.isinstance (by decide +kernel) (pa_cons (pv 0) (pa_cons (pe_glob rfl T_Book r_ref) pa_nil))))) (pss_one ps_never) pss_nil)), ?_⟩
  exact ⟨_, rfl, _, _, _, _, true, rfl, .own C, .base (.ins hb T.cl T.ha T.hn T.htk T.hm), T.kit, _, rfl, iteF q⟩
abbrev s_is_type : Stmt := top 42
theorem sc_is_type : FnScope ["book", "value"] ["book", "value"] (defScope s_is_type) := ⟨rfl, rfl, rfl, by decide +kernel, rfl, by decide +kernel, by decide +kernel⟩
def spIsType (K : PySem.W.Frag) (C : Addr) : Sp := fun vs H Q _ => ∃ (b v : V) (rows : List Row) (T : Ty), vs = [b, v] ∧ BookH K C H rows b ∧ TyH K H T v ∧ T.Ok (arOf rows) ∧ T.sz ≤ 300 ∧ ∀ H', Same H H' → Q (.bl true) H'
theorem ok_is_type (A : At K mg "is_type" s_is_type ["book", "value"]) (B : Bi mg) (T : Bk K mg C) (D_check_book : Has P w K mg base "check_book" ["book"] 1 (spCheckBook K C)) (D_is_shape : Has P w K mg base "is_shape" ["value", "arities"] 5 (spShape K)) : Has P w K mg base "is_type" ["book", "value"] 6 (spIsType K C) := by
  refine .mk A fun f fd F => ?_
  refine F.ok sc_is_type (fun vs H Q E h => ?_) (fun cdv A outer s H vs Q E hr h => ?_)
  · obtain ⟨b, v, rows, T', rfl, _⟩ := h
    rfl
  obtain ⟨b, v, rows, T', rfl, hB, hT, hok, hsz, q⟩ := h
  obtain ⟨f_check_book, fd_check_book, G_check_book, b_check_book, k_check_book, m_check_book⟩ := D_check_book
  obtain ⟨f_is_shape, fd_is_shape, G_is_shape, b_is_shape, k_is_shape, m_is_shape⟩ := D_is_shape
  refine ⟨_, (pss_cons (ps_expr (pe_call G_check_book (hr.mono (by decide)) rfl m_check_book k_check_book b_check_book .nil pass0 (pa_cons (pv 0) pa_nil)))
  (pss_one (ps_ret (pe_call G_is_shape (hr.mono (by decide)) rfl m_is_shape k_is_shape b_is_shape .nil pass0 (pa_cons (pv 1) (pa_cons (pe_fld (pv 0) rfl) pa_nil)))))), ?_⟩
  have hB' := hB
  obtain ⟨b, dx, r, q', rs, rfl, hb, _, _, hq⟩ := hB
  exact ⟨_, rfl, _, rows, rfl, hB', _, rfl, _, rfl, b, C, dx, _, _, rfl, hb, T.cl, T.nA, bf_ar _ _, T', v, q', _, rfl, hT, hok, hsz, hq, q⟩
abbrev s_check_type : Stmt := top 43
theorem sc_check_type : FnScope ["book", "T"] ["book", "T"] (defScope s_check_type) := ⟨rfl, rfl, rfl, by decide +kernel, rfl, by decide +kernel, by decide +kernel⟩
def spCheckType (K : PySem.W.Frag) (C : Addr) : Sp := fun vs H Q _ => ∃ (b v : V) (rows : List Row) (T : Ty), vs = [b, v] ∧ BookH K C H rows b ∧ TyH K H T v ∧ T.Ok (arOf rows) ∧ T.sz ≤ 300 ∧ ∀ H', Same H H' → Q .non H'
theorem ok_check_type (A : At K mg "check_type" s_check_type ["book", "T"]) (D_is_type : Has P w K mg base "is_type" ["book", "value"] 6 (spIsType K C)) : Has P w K mg base "check_type" ["book", "T"] 7 (spCheckType K C) := by
  refine .mk A fun f fd F => ?_
  refine F.ok sc_check_type (fun vs H Q E h => ?_) (fun cdv A outer s H vs Q E hr h => ?_)
  · obtain ⟨b, v, rows, T', rfl, _⟩ := h
    rfl
  obtain ⟨b, v, rows, T', rfl, hB, hT, hok, hsz, q⟩ := h
  obtain ⟨f_is_type, fd_is_type, G_is_type, b_is_type, k_is_type, m_is_type⟩ := D_is_type
  refine ⟨_, (pss_one (ps_if (pt_not (pt_val (pe_call G_is_type (hr.mono (by decide)) rfl m_is_type k_is_type b_is_type .nil pass0 (pa_cons (pv 0) (pa_cons (pv 1) pa_nil))))) (pss_one ps_never) pss_nil)), ?_⟩
  exact ⟨_, rfl, _, rfl, b, v, rows, T', rfl, hB, hT, hok, hsz, fun H' g => ⟨_, rfl, iteF (q H' g)⟩⟩
abbrev s_are_types : Stmt := top 44
theorem sc_are_types : FnScope ["book", "value", "T"] ["book", "value"] (defScope s_are_types) := ⟨rfl, rfl, rfl, by decide +kernel, rfl, by decide +kernel, by decide +kernel⟩
def spAreTypes (K : PySem.W.Frag) (C : Addr) : Sp := fun vs H Q _ => ∃ (b : V) (a : Addr) (rows : List Row) (ts : List Ty) (xs : List V), vs = [b, .ref a] ∧ BookH K C H rows b ∧ SqT K H a xs ∧ TysH K H ts xs ∧ (∀ t ∈ ts, t.Ok (arOf rows) ∧ t.sz ≤ 300) ∧ ts.length ≤ 1000 ∧ ∀ H', Same H H' → Q (.bl true) H'
theorem ok_are_types (A : At K mg "are_types" s_are_types ["book", "value"]) (B : Bi mg) (D_is_type : Has P w K mg base "is_type" ["book", "value"] 6 (spIsType K C)) : Has P w K mg base "are_types" ["book", "value"] 7 (spAreTypes K C) := by
  refine .mk A fun f fd F => ?_
  refine F.ok sc_are_types (fun vs H Q E h => ?_) (fun cdv A outer s H vs Q E hr h => ?_)
  · obtain ⟨b, a, rows, ts, xs, rfl, _⟩ := h
    rfl
  obtain ⟨b, a, rows, ts, xs, rfl, hB, hS, hT, hok, hl, q⟩ := h
  obtain ⟨f_is_type, fd_is_type, G_is_type, b_is_type, k_is_type, m_is_type⟩ := D_is_type
  refine ⟨_, (pss_one (ps_ret (pe_and (pe_callB (isiK K) (by rfl) B.isinstance (by decide +kernel) (pa_cons (pv 1) (pa_cons (pe_bltn (v := .ty "tuple") rfl B.tuple (by decide +kernel) rfl) pa_nil))) (pe_one (pe_callB (cr_all rfl) (by rfl) B.all (by decide +kernel) (pa_cons (pe_lc (own := [("T", 2)]) (g := gName 2) (tt := tYes) (by rfl) sc_are_types.nd (pi_tup (pv 1)) (blkOk_by (N := ["book", "value", "T"]) (sc := defScope s_are_types) (by decide +kernel)) (fun _ _ _ _ _ => (pg_name (i := 2) sc_are_types.nd rfl (Or.inl rfl))) (fun _ _ _ _ _ => pts_nil) (fun _ _ _ _ _ => (pe_call G_is_type (hr.mono (by decide)) rfl m_is_type k_is_type b_is_type .nil pass0 (pa_cons (pv 0) (pa_cons (pv 2) pa_nil))))) pa_nil)))))), ?_⟩
  have hxl := hT.len
  refine ⟨_, rfl, _, _, _, _, true, rfl, .ty _, tyx_tup hS, kit_ty (by decide +kernel), _, rfl, iteT ?_⟩
  refine ⟨_, rfl, a, rfl, ⟨_, hS⟩, fun D hD => lc_tup (K := K) (a := a) (xs := xs) (AllInv H D) (.start hD) (fun i H3 _ p => tups_of p.1 _ _ hS) ?_ ?_⟩
  · intro i x H3 hx p
    obtain ⟨t, ht, hxt⟩ := hT.get hx
    obtain ⟨o1, o2⟩ := hok t (List.mem_of_getElem? ht)
    refine ⟨rfl, _, rfl, _, rfl, b, x, rows, t, rfl, hB.mono p.1, hxt.mono (tups_of p.1), o1, o2, fun H4 g4 => ?_⟩
    exact (p.call g4).step hD (by have := lt_of_get hx; omega)
  · intro H3 p
    refine ⟨D, _, rfl, SqL.of p.2, ?_⟩
    rw [all_rep]
    exact q H3 p.1
end
end Lq
namespace Lq
open PySem L2
/-! ### what a type asks -/
def joinAll : List (Option (List Nat)) → Option (List Nat)
  | [] => some []
  | none :: _ => none
  | some a :: r => (joinAll r).map (a ++ ·)
theorem joinAll_none : ∀ (rs : List (Option (List Nat))), joinAll rs = none ↔ none ∈ rs
  | [] => by simp [joinAll]
  | none :: r => by simp [joinAll]
  | some a :: r => by
    rw [joinAll, Option.map_eq_none_iff, joinAll_none r]
    simp
theorem joinAll_some : ∀ (rs : List (Option (List Nat))) (L : List Nat), joinAll rs = some L → ∀ n, n ∈ L ↔ ∃ M, some M ∈ rs ∧ n ∈ M
  | [], L, h, n => by
    cases h
    simp
  | none :: r, L, h, n => by cases h
  | some a :: r, L, h, n => by
    rw [joinAll] at h
    cases e : joinAll r with
    | none => rw [e] at h; cases h
    | some b =>
      rw [e] at h
      cases h
      rw [List.mem_append, joinAll_some r b e n]
      constructor
      · rintro (h | ⟨M, h1, h2⟩)
        · exact ⟨a, List.mem_cons_self, h⟩
        · exact ⟨M, List.mem_cons_of_mem _ h1, h2⟩
      · rintro ⟨M, h1, h2⟩
        rcases List.mem_cons.mp h1 with e | h1
        · injection e with e
          subst e
          exact .inl h2
        · exact .inr ⟨M, h1, h2⟩
def comb (as : Nat → Option (List Nat)) (l : Lab) (rs : List (Option (List Nat))) : Option (List Nat) := match l with
  | .var n => some [n]
  | .fn => none
  | .tup => joinAll rs
  | .made s => (as s).bind fun q => joinAll (q.filterMap fun i => rs[i]?)
mutual
def Ty.askd (as : Nat → Option (List Nat)) : Ty → Option (List Nat)
  | .node l ts => comb as l (Ty.askds as ts)
def Ty.askds (as : Nat → Option (List Nat)) : List Ty → List (Option (List Nat))
  | [] => []
  | t :: r => Ty.askd as t :: Ty.askds as r
end
theorem askds_map (as : Nat → Option (List Nat)) : ∀ (ts : List Ty), Ty.askds as ts = ts.map (Ty.askd as)
  | [] => by rw [Ty.askds]; rfl
  | t :: r => by rw [Ty.askds, askds_map as r]; rfl
theorem askd_eq (as : Nat → Option (List Nat)) (T : Ty) : T.askd as = comb as T.lab (T.kids.map (Ty.askd as)) := by
  cases T
  rw [Ty.askd, askds_map]
  rfl
def need (as : Nat → Option (List Nat)) (T : Ty) : Option (List Ty) := match T.lab with
  | .var _ => some []
  | .fn => none
  | .tup => some T.kids
  | .made s => (as s).map fun q => q.filterMap fun i => T.kids[i]?
theorem fm_map {α β : Type} (f : α → β) (xs : List α) : ∀ (q : List Nat), q.filterMap (fun i => (xs.map f)[i]?) = (q.filterMap fun i => xs[i]?).map f
  | [] => rfl
  | i :: r => by
    rw [List.filterMap_cons, List.filterMap_cons, List.getElem?_map, fm_map f xs r]
    cases xs[i]? <;> rfl
theorem askd_need (as : Nat → Option (List Nat)) {T : Ty} (h : T.lab.num = none) : T.askd as = (need as T).bind fun us => joinAll (us.map (Ty.askd as)) := by
  rw [askd_eq]
  unfold need
  cases e : T.lab with
  | var n => rw [e] at h; cases h
  | fn => rfl
  | tup => rfl
  | made s =>
    show (as s).bind _ = ((as s).map _).bind _
    cases as s with
    | none => rfl
    | some q =>
      show joinAll (q.filterMap fun i => (T.kids.map (Ty.askd as))[i]?) = joinAll ((q.filterMap fun i => T.kids[i]?).map (Ty.askd as))
      rw [fm_map]
theorem askd_var (as : Nat → Option (List Nat)) {T : Ty} {n : Nat} (h : T.lab.num = some n) : T.askd as = some [n] := by
  rw [askd_eq]
  cases e : T.lab with
  | var m =>
    rw [e] at h
    cases h
    rfl
  | _ => rw [e] at h; cases h
def asOf (rows : List Row) (s : Nat) : Option (List Nat) := (rows[s - 1]?).bind (·.ask)
def RowsOk (rows : List Row) : Prop := ∀ row ∈ rows, ∀ l, row.ask = some l → l = [] ∨ (l = [0] ∧ 1 ≤ row.n) ∨ (l = [1] ∧ 2 ≤ row.n) ∨ (l = [0, 1] ∧ 2 ≤ row.n)
theorem pick_sz {ks : List Ty} {l : List Nat} (h : l = [] ∨ l = [0] ∨ l = [1] ∨ l = [0, 1]) : Ty.szs (l.filterMap fun i => ks[i]?) ≤ Ty.szs ks ∧ ∀ u ∈ l.filterMap (fun i => ks[i]?), u ∈ ks := by
  have hm : ∀ u ∈ l.filterMap (fun i => ks[i]?), u ∈ ks := fun u hu => by
    obtain ⟨i, _, e⟩ := List.mem_filterMap.mp hu
    exact List.mem_of_getElem? e
  refine ⟨?_, hm⟩
  match ks with
  | [] =>
    rcases h with rfl | rfl | rfl | rfl <;> simp [szs_nil]
  | [a] =>
    rcases h with rfl | rfl | rfl | rfl <;> simp [szs_nil, szs_cons]
  | a :: b :: r =>
    rcases h with rfl | rfl | rfl | rfl <;> simp [szs_nil, szs_cons] <;> omega
/-- what a type of a book asks of its parts -/
theorem need_ok {rows : List Row} (hr : RowsOk rows) {T : Ty} (hok : T.Ok (arOf rows)) {us : List Ty} (h : need (asOf rows) T = some us) : Ty.szs us ≤ Ty.szs T.kids ∧ ∀ u ∈ us, u ∈ T.kids := by
  unfold need at h
  cases e : T.lab with
  | var n =>
    rw [e] at h
    cases h
    exact ⟨by rw [szs_nil]; exact Nat.zero_le _, fun u hu => nomatch hu⟩
  | fn => rw [e] at h; cases h
  | tup =>
    rw [e] at h
    cases h
    exact ⟨Nat.le_refl _, fun u hu => hu⟩
  | made s =>
    rw [e] at h
    cases e2 : asOf rows s with
    | none =>
      have h : (asOf rows s).map (fun q => q.filterMap fun i => T.kids[i]?) = some us := h
      rw [e2] at h
      cases h
    | some q =>
      have h : (asOf rows s).map (fun q => q.filterMap fun i => T.kids[i]?) = some us := h
      rw [e2] at h
      injection h with h
      rw [← h]
      refine pick_sz ?_
      unfold asOf at e2
      cases e3 : rows[s - 1]? with
      | none => rw [e3] at e2; cases e2
      | some row =>
        rw [e3] at e2
        rcases hr row (List.mem_of_getElem? e3) q e2 with h | ⟨h, _⟩ | ⟨h, _⟩ | ⟨h, _⟩
        · exact .inl h
        · exact .inr (.inl h)
        · exact .inr (.inr (.inl h))
        · exact .inr (.inr (.inr h))
theorem row_of {rows : List Row} {s n : Nat} (h : (arOf rows)[s - 1]? = some n) : ∃ row, rows[s - 1]? = some row ∧ row.n = n := by
  unfold arOf at h
  rw [List.getElem?_map] at h
  cases e : rows[s - 1]? with
  | none => rw [e] at h; cases h
  | some row => rw [e] at h; cases h; exact ⟨row, rfl, rfl⟩
section
variable {P : Program} {w : World} {K : PySem.W.Frag} {mg : Str → Option Value} {base : Heap} {C : Addr}
abbrev s__needed_parts : Stmt := top 48
theorem sc__needed_parts : FnScope ["book", "T", "asks", "position"] ["book", "T"] (defScope s__needed_parts) := ⟨rfl, rfl, rfl, by decide +kernel, rfl, by decide +kernel, by decide +kernel⟩
def spNeeded (K : PySem.W.Frag) (C : Addr) : Sp := fun vs H Q _ => ∃ (b v : V) (rows : List Row) (T : Ty), vs = [b, v] ∧ BookH K C H rows b ∧ TyH K H T v ∧ T.Ok (arOf rows) ∧ RowsOk rows ∧ T.lab.num = none ∧
  (need (asOf rows) T = none → Q .non H) ∧ ∀ us, need (asOf rows) T = some us → ∀ (H' : Hp) (c : Addr) (xs : List V), Same H H' → SqT K H' c xs → TysH K H' us xs → Q (.ref c) H'
theorem ok_needed (A : At K mg "_needed_parts" s__needed_parts ["book", "T"]) (B : Bi mg) (T : Bk K mg C) (DM_asks : HasM P w K mg base C "asks" ["self", "stamp"] 3 (spAsks K C)) : Has P w K mg base "_needed_parts" ["book", "T"] 4 (spNeeded K C) := by
  refine .mk A fun f fd F => ?_
  refine F.ok sc__needed_parts (fun vs H Q E h => ?_) (fun cdv A outer s H vs Q E hr h => ?_)
  · obtain ⟨b, v, rows, T', rfl, _⟩ := h
    rfl
  obtain ⟨b, v, rows, ty, rfl, hB, hT, hok, hro, hnum, q0, q1⟩ := h
  obtain ⟨fm_asks, fdm_asks, GM_asks, bm_asks, mm_asks⟩ := DM_asks
  refine ⟨_, (pss_cons (ps_if (pt_cmpR op_eq (pe_ix (ixT K) (pv 1) pe_int (fun _ _ => rfl)) pe_str (nomark _)) (pss_one (ps_ret pe_non)) pss_nil)
  (pss_cons (ps_if (pt_cmpR op_eq (pe_ix (ixT K) (pv 1) pe_int (fun _ _ => rfl)) pe_str (nomark _)) (pss_one (ps_ret (pe_ix (ixT K) (pv 1) pe_int (fun _ _ => rfl)))) pss_nil)
  (pss_cons (ps_set (i := 2) sc__needed_parts.nd rfl (Or.inl rfl) (pe_meth (pv 0) T.cl mm_asks GM_asks (hr.mono (by decide)) bm_asks .nil pass0 (pa_cons (pe_ix (ixT K) (pv 1) pe_int (fun _ _ => rfl)) pa_nil)))
  (pss_one (ps_ret (pe_ifExp (pt_cmpR op_isN (pv 2) pe_non (nomark _)) pe_non (pe_callTy call_tuple_of (by rfl) B.tuple (by decide +kernel) (pa_cons (pe_lc (own := [("position", 3)]) (g := gName 3) (tt := tYes) (by rfl) sc__needed_parts.nd (pi_tup (pv 2)) (blkOk_by (N := ["book", "T", "asks", "position"]) (sc := defScope s__needed_parts) (by decide +kernel)) (fun _ _ _ _ _ => (pg_name (i := 3) sc__needed_parts.nd rfl (Or.inl rfl))) (fun _ _ _ _ _ => pts_nil) (fun _ _ _ _ _ => (pe_ix (ixT K) (pe_ix (ixT K) (pv 1) pe_int (fun _ _ => rfl)) (pv 3) (fun _ _ => rfl)))) pa_nil)))))))), ?_⟩
  obtain ⟨a, xs, rfl, ⟨r, hS, hR⟩, hK⟩ := hT.out
  have i0 : atI (V.str ty.lab.word :: r) 0 = some (V.str ty.lab.word) := atI_nat (j := 0) rfl
  refine ⟨_, rfl, a, _, _, _, rfl, rfl, hS, i0, rfl, _, rfl, ?_⟩
  rw [w_fn]
  obtain ⟨l, ts⟩ := ty
  cases l with
  | var n => cases hnum
  | fn => exact iteT (q0 rfl)
  | tup =>
    obtain ⟨c, rfl, hc⟩ := hR
    refine iteF ⟨_, rfl, a, _, _, _, rfl, rfl, hS, i0, rfl, _, rfl, iteT ⟨_, rfl, a, _, _, _, rfl, rfl, hS, atI_nat (j := 1) rfl, ?_⟩⟩
    exact q1 ts rfl H c xs (Same.refl _) hc hK
  | made st =>
    obtain ⟨c, rfl, hc⟩ := hR
    obtain ⟨h0, h1, h2⟩ := hok.loc
    obtain ⟨row, hrow, hrn⟩ := row_of h2
    have hB' := hB
    obtain ⟨b', dx, r', q', rs, rfl, hb, _⟩ := hB
    refine iteF ⟨_, rfl, a, _, _, _, rfl, rfl, hS, i0, rfl, _, rfl, iteF ⟨_, rfl, b', dx, _, rfl, hb, bf_no _ _ (by decide +kernel) (by decide +kernel), _, rfl, a, _, _, _, rfl, rfl, hS, atI_nat (j := 1) rfl, _, rows, st, row, rfl, hB', h0, h1, hrow, fun x hx => ?_⟩⟩
    have has : asOf rows st = row.ask := by unfold asOf; rw [hrow]; rfl
    cases hask : row.ask with
    | none =>
      rw [hask] at hx
      have hx : x = .non := hx
      subst hx
      refine ⟨_, rfl, rfl, _, rfl, iteT (q0 ?_)⟩
      show (asOf rows st).map _ = none
      rw [has, hask]
      rfl
    | some l =>
      rw [hask] at hx
      obtain ⟨al, rfl, hl⟩ := hx
      have hneed : need (asOf rows) (.node (.made st) ts) = some (l.filterMap fun i => ts[i]?) := by
        show (asOf rows st).map _ = _
        rw [has, hask]
        rfl
      have hkl : xs.length = ts.length := hK.len
      have hn : row.n = ts.length := hrn
      have hlt : ∀ i ∈ l, i < ts.length := by
        intro i hi
        rcases hro row (List.mem_of_getElem? hrow) l hask with h | ⟨h, _⟩ | ⟨h, _⟩ | ⟨h, _⟩ <;> rw [h] at hi <;> simp at hi <;> omega
      refine ⟨_, rfl, rfl, _, rfl, iteF ⟨_, rfl, al, rfl, ⟨_, hl⟩, fun D hD => lc_tup (K := K) (a := al) (xs := natV l)
        (fun i H3 => Same H H3 ∧ ∃ acc, H3 D = some (.lst acc) ∧ TysH K H3 ((l.take i).filterMap fun i => ts[i]?) acc ∧ acc.length ≤ i) ⟨same_upd hD _, [], upd_same, .nil, Nat.le_refl _⟩ (fun i H3 _ p => tups_of p.1 _ _ hl) ?_ ?_⟩⟩
      · rintro i x H3 hx ⟨g3, acc, hacc, hty, hal⟩
        obtain ⟨n, hn', rfl⟩ := natV_at hx
        have hnl := hlt n (List.mem_of_getElem? hn')
        obtain ⟨y, hy, hyT⟩ := hK.get' (i := n) (t := ts[n]) (show ts[n]? = some ts[n] from List.getElem?_eq_getElem hnl)
        have t3 := tups_of (K := K) g3
        have t4 := tups_set (K := K) hacc (.lst (acc ++ [y]))
        have hl4 : l.length ≤ 2 := by
          rcases hro row (List.mem_of_getElem? hrow) l hask with h | ⟨h, _⟩ | ⟨h, _⟩ | ⟨h, _⟩ <;> rw [h] <;> simp
        have hin := lt_of_get hn'
        refine ⟨rfl, _, rfl, a, _, _, _, rfl, rfl, t3 _ _ hS, atI_nat (j := 2) rfl, _, rfl, c, xs, _, y, rfl, rfl, t3 _ _ hc, at_of (j := n) rfl hy, acc, hacc, small1000 (by omega), same_set g3 hD _, acc ++ [y], upd_same, ?_, ?_⟩
        · rw [take_snoc hn', List.filterMap_append]
          refine (hty.mono t4).app ?_
          have e : [n].filterMap (fun i => ts[i]?) = [ts[n]] := by simp [hnl]
          rw [e]
          exact .cons (hyT.mono (t3.trans t4)) .nil
        · rw [List.length_append, List.length_singleton]
          omega
      · rintro H3 ⟨g3, acc, hacc, hty, hal⟩
        rw [natV_len, List.take_length] at hty
        refine ⟨D, acc, rfl, .inl ⟨SqL.of hacc, fun q2 hq2 => ?_⟩⟩
        exact q1 _ hneed _ q2 acc (g3.trans (same_upd hq2 _)) sq_new (hty.mono (tups_of (same_upd hq2 _)))
end
end Lq
namespace Lq
open PySem L2
theorem len_below : ∀ (k : Nat) (ns : List Nat), ns.Nodup → (∀ n ∈ ns, n < k) → ns.length ≤ k
  | 0, ns, _, h => by
    cases ns with
    | nil => exact Nat.le_refl _
    | cons n r => exact absurd (h n List.mem_cons_self) (Nat.not_lt_zero _)
  | k + 1, ns, hd, h => by
    have h1 := len_below k (ns.filter (· ≠ k)) (hd.filter _) fun n hn => by
      have q := List.mem_filter.mp hn
      have := h n q.1
      have : n ≠ k := by simpa using q.2
      omega
    have h2 : ns.length ≤ (ns.filter (· ≠ k)).length + 1 := by
      clear h1 h
      induction ns with
      | nil => exact Nat.zero_le _
      | cons n r ih =>
        have hd2 := List.nodup_cons.mp hd
        by_cases e : n = k
        · subst e
          have e2 : r.filter (· ≠ n) = r := List.filter_eq_self.mpr fun m hm => by
            have : m ≠ n := fun z => hd2.1 (z ▸ hm)
            simpa using this
          rw [List.filter_cons, if_neg (by simp), e2, List.length_cons]
          exact Nat.le_refl _
        · have := ih hd2.2
          rw [List.filter_cons, if_pos (by simpa using e), List.length_cons, List.length_cons]
          omega
    omega
theorem mem_cast (ns : List Nat) (n : Nat) : n ∈ ns ↔ (n : Int) ∈ ns.map fun (k : Nat) => (k : Int) := by
  rw [List.mem_map]
  exact ⟨fun h => ⟨n, h, rfl⟩, fun ⟨k, h, e⟩ => by
    have : k = n := by omega
    rw [← this]
    exact h⟩
theorem sorted_nat {js : List Int} {F : List Nat} (hperm : js.Perm (F.map fun (n : Nat) => (n : Int))) (hs : js.Pairwise (· ≤ ·)) (hd : F.Nodup) :
    ∃ ns : List Nat, js = ns.map (fun (n : Nat) => (n : Int)) ∧ ns.Pairwise (· < ·) ∧ (∀ n, n ∈ ns ↔ n ∈ F) ∧ ns.length = F.length := by
  have e : js = (js.map Int.toNat).map fun (n : Nat) => (n : Int) := by
    rw [List.map_map]
    refine (List.map_id js).symm.trans (List.map_congr_left fun z hz => ?_)
    obtain ⟨n, _, e⟩ := List.mem_map.mp (hperm.mem_iff.mp hz)
    show z = ((z.toNat : Nat) : Int)
    rw [← e]
    rfl
  refine ⟨js.map Int.toNat, e, ?_, fun n => ?_, ?_⟩
  · have hn : (F.map fun (n : Nat) => (n : Int)).Nodup := List.pairwise_map.mpr (hd.imp fun {a b} h => by
      intro z
      exact h (by omega))
    have hj : js.Nodup := hperm.nodup_iff.mpr hn
    have h2 : js.Pairwise (· < ·) := (hs.and hj).imp fun {a b} h => by
      obtain ⟨h1, h2⟩ := h
      have h2 : a ≠ b := h2
      omega
    rw [e] at h2
    exact (List.pairwise_map.mp h2).imp fun {a b} h => by omega
  · rw [mem_cast, ← e, hperm.mem_iff, ← mem_cast]
  · rw [List.length_map, hperm.length_eq, List.length_map]
section
variable {P : Program} {w : World} {K : PySem.W.Frag} {mg : Str → Option Value} {base : Heap} {C : Addr}
abbrev s_asked_variables : Stmt := top 49
theorem sc_asked_variables : FnScope ["book", "types", "found", "todo", "part", "needed"] ["book", "types"] (defScope s_asked_variables) := ⟨rfl, rfl, rfl, by decide +kernel, rfl, by decide +kernel, by decide +kernel⟩
def spAsked (K : PySem.W.Frag) (C : Addr) : Sp := fun vs H Q _ => ∃ (b : V) (a : Addr) (v : V) (rows : List Row) (T : Ty), vs = [b, .ref a] ∧ BookH K C H rows b ∧ SqT K H a [v] ∧ TyH K H T v ∧ T.Ok (arOf rows) ∧ RowsOk rows ∧ T.sz ≤ 1000 ∧ (∀ n, n ∈ T.vars → n < 60) ∧
  (T.askd (asOf rows) = none → ∀ H', Same H H' → Q .non H') ∧ ∀ M, T.askd (asOf rows) = some M → ∀ (H' : Hp) (p : Addr) (ns : List Nat), Same H H' → SqT K H' p (natV ns) → ns.Pairwise (· < ·) → (∀ n, n ∈ ns ↔ n ∈ M) → ns.length ≤ 60 → Q (.ref p) H'
theorem ok_asked_variables (A : At K mg "asked_variables" s_asked_variables ["book", "types"]) (B : Bi mg) (D__needed_parts : Has P w K mg base "_needed_parts" ["book", "T"] 4 (spNeeded K C)) : Has P w K mg base "asked_variables" ["book", "types"] 5 (spAsked K C) := by
  refine .mk A fun f fd F => ?_
  refine F.ok sc_asked_variables (fun vs H Q E h => ?_) (fun cdv A outer s H vs Q E hr h => ?_)
  · obtain ⟨b, a, v, rows, T, rfl, _⟩ := h
    rfl
  obtain ⟨b, a, v, rows, T, rfl, hB, hS, hT, hok, hro, hsz, hvs, q0, q1⟩ := h
  obtain ⟨f__needed_parts, fd__needed_parts, G__needed_parts, b__needed_parts, k__needed_parts, m__needed_parts⟩ := D__needed_parts
  refine ⟨_, (pss_cons (ps_set (i := 2) sc_asked_variables.nd rfl (Or.inl rfl) pe_dnewK)
  (pss_cons (ps_set (i := 3) sc_asked_variables.nd rfl (Or.inl rfl) (pe_callTy call_list_of (by rfl) B.list (by decide +kernel) (pa_cons (pv 1) pa_nil)))
  (pss_cons (ps_while PassesOwn.never (pt_truth (pv 3) (by intro _; rfl)) (pss_cons (ps_set (i := 4) sc_asked_variables.nd rfl (Or.inl rfl) (pe_bm0 PySem.F.plainAttrs_list PySem.F.slot_list_pop PySem.F.type_list_pop mt_pop (pv 3)))
  (pss_cons (ps_if (pt_cmpR op_eq (pe_ix (ixT K) (pv 4) pe_int (fun _ _ => rfl)) pe_str (nomark _)) (pss_cons (ps_dput (hu_of hr) (pv 2) (pe_ix (ixT K) (pv 4) pe_int (fun _ _ => rfl)) pe_bl rfl)
  (pss_one ps_continue)) pss_nil)
  (pss_cons (ps_set (i := 5) sc_asked_variables.nd rfl (Or.inl rfl) (pe_call G__needed_parts (hr.mono (by decide)) rfl m__needed_parts k__needed_parts b__needed_parts .nil pass0 (pa_cons (pv 0) (pa_cons (pv 4) pa_nil))))
  (pss_cons (ps_if (pt_cmpR op_isN (pv 5) pe_non (nomark _)) (pss_one (ps_ret pe_non)) pss_nil)
  (pss_one (ps_expr (pe_bm PySem.F.plainAttrs_list PySem.F.slot_list_extend PySem.F.type_list_extend mt_extT (pv 3) (pa_cons (pv 5) pa_nil)))))))))
  (pss_one (ps_ret (pe_callTy call_tuple_of (by rfl) B.tuple (by decide +kernel) (pa_cons (pe_callB (call_sortedDI rfl) (by rfl) B.sorted (by decide +kernel) (pa_cons (pv 2) pa_nil)) pa_nil))))))), ?_⟩
  refine fun da ha => ?_
  have g0 := same_upd ha (.dK [])
  refine ⟨_, rfl, a, [v], rfl, .inr (tups_of g0 _ _ hS), fun ta hb => ?_⟩
  have hda : H da = none := ha
  have hta : H ta = none := g0.free hb
  have ndt : da ≠ ta := by
    intro e
    rw [e, upd_same] at hb
    cases hb
  have g1 : Same H _ := same_set g0 hta (.lst [v])
  dsimp only [gName, tSeq, tAsg, tC]
  refine while_m (fun m σ H1 => ∃ (F : List Nat) (ys : List V) (ts : List Ty) (s4 s5 : Option V), σ = [some b, some (.ref a), some (.ref da), some (.ref ta), s4, s5] ∧ Same H H1 ∧ H1 da = some (.dK (keysT F)) ∧ F.Nodup ∧ (∀ n ∈ F, n < 60) ∧
    H1 ta = some (.lst ys) ∧ TysH K H1 ts ys ∧ (∀ t ∈ ts, t.Ok (arOf rows) ∧ ∀ n, n ∈ t.vars → n < 60) ∧ Ty.szs ts ≤ 1000 ∧
    (T.askd (asOf rows) = none ↔ ∃ t ∈ ts, t.askd (asOf rows) = none) ∧ (∀ M, T.askd (asOf rows) = some M → ∀ n, n ∈ M ↔ n ∈ F ∨ ∃ t ∈ ts, ∃ L, t.askd (asOf rows) = some L ∧ n ∈ L) ∧ m = Ty.szs ts) (m := T.sz) ?_ ?_
    (fun σ H1 Q1 Q2 mo ⟨z, e, k, tk, qq⟩ => ⟨z, e, k, tk, mo _ _ qq⟩)
  · refine ⟨[], [v], [T], none, none, rfl, g1, by rw [upd_ne ndt, upd_same]; rfl, List.nodup_nil, (fun n h => nomatch h), upd_same, .cons (hT.mono (tups_of g1)) .nil, ?_, ?_, ?_, ?_, ?_⟩
    · intro t ht
      rw [List.mem_singleton.mp ht]
      exact ⟨hok, hvs⟩
    · rw [szs_cons, szs_nil]
      omega
    · exact ⟨fun h => ⟨T, List.mem_singleton_self _, h⟩, fun ⟨t, ht, h⟩ => by rw [List.mem_singleton.mp ht] at h; exact h⟩
    · intro M hM n
      constructor
      · exact fun h => .inr ⟨T, List.mem_singleton_self _, M, hM, h⟩
      · rintro (h | ⟨t, ht, L, hL, h⟩)
        · cases h
        · rw [List.mem_singleton.mp ht, hM] at hL
          cases hL
          exact h
    · rw [szs_cons, szs_nil]
      rfl
  rintro m σ H1 ⟨F, ys, ts, s4, s5, rfl, g, h1, hnd, hF, h2, k2, okk, hms, i1, i2, rfl⟩
  refine ⟨_, rfl, _, .inl ⟨ys, SqL.of h2, rfl⟩, ?_⟩
  by_cases hne : ys = []
  · subst hne
    have et : ts = [] := List.eq_nil_of_length_eq_zero k2.len.symm
    subst et
    cases hM : T.askd (asOf rows) with
    | none =>
      obtain ⟨t, ht, _⟩ := i1.mp hM
      cases ht
    | some M =>
      have hlen := len_below 60 F hnd hF
      refine iteF ⟨_, rfl, da, keysT F, F.map fun (n : Nat) => (n : Int), rfl, .inl h1, ?_, by rw [List.length_map]; omega, fun js p hperm hsort hp => ?_⟩
      · unfold keysT
        rw [List.map_map, List.map_map]
        rfl
      refine ⟨p, _, rfl, .inl ⟨SqL.of upd_same, fun p2 hp2 => ?_⟩⟩
      obtain ⟨ns, rfl, hlt, hmem, hl⟩ := sorted_nat hperm hsort hnd
      have hnv : (ns.map fun (n : Nat) => (n : Int)).map V.int = natV ns := by
        rw [List.map_map]
        rfl
      rw [hnv] at hp2 ⊢
      refine q1 M hM _ p2 ns (g.trans ((same_upd hp _).trans (same_upd hp2 _))) sq_new hlt (fun n => ?_) (by omega)
      rw [hmem, i2 M hM n]
      exact ⟨.inl, fun o => o.elim id fun ⟨t, ht, _⟩ => nomatch ht⟩
  · have eb : (!ys.isEmpty) = true := by
      cases ys with
      | nil => exact absurd rfl hne
      | cons _ _ => rfl
    rw [eb]
    refine iteT ?_
    obtain ⟨us, t, zs, y, rfl, rfl, ku, kt⟩ := k2.last hne
    obtain ⟨okt, hvt⟩ := okk t (List.mem_append_right _ (List.mem_singleton_self _))
    have oku : ∀ t ∈ us, t.Ok (arOf rows) ∧ ∀ n, n ∈ t.vars → n < 60 := fun e h => okk e (List.mem_append_left _ h)
    rw [szs_app, szs_cons, szs_nil] at hms
    have hlu := ku.len
    have hsu := len_szs us
    refine ⟨_, rfl, .inl ⟨rfl, _, SqL.of h2⟩, ta, _, _, rfl, rfl, h2, last_at zs _, ?_⟩
    rw [drop_at]
    have t2 : Tups K H1 (upd H1 ta (.lst zs)) := tups_set h2 _
    have h2d : upd H1 ta (.lst zs) da = some (.dK (keysT F)) := by rw [upd_ne ndt]; exact h1
    have g2 : Same H (upd H1 ta (.lst zs)) := same_set g hta _
    have ht2 := kt.mono t2
    obtain ⟨c, ws, rfl, ⟨r, hSt, hR⟩, hK⟩ := ht2.out
    have i0 : atI (V.str t.lab.word :: r) 0 = some (V.str t.lab.word) := atI_nat (j := 0) rfl
    refine ⟨_, rfl, c, _, _, _, rfl, rfl, hSt, i0, rfl, _, rfl, ?_⟩
    rw [w_var]
    by_cases hvar : t.lab.isVar = true
    · rw [hvar]
      obtain ⟨n, hn⟩ : ∃ n, t.lab = .var n := by
        cases e : t.lab with
        | var n => exact ⟨n, rfl⟩
        | _ => rw [e] at hvar; cases hvar
      rw [hn] at hR hSt
      obtain ⟨_, rfl⟩ := hR
      have hnum : t.lab.num = some n := by rw [hn]; rfl
      have hn60 := hvt n (vars_self hnum)
      have hFl := len_below 60 F hnd hF
      have hta' := askd_var (asOf rows) hnum
      refine iteT ⟨_, rfl, _, rfl, c, _, _, _, rfl, rfl, hSt, atI_nat (j := 1) rfl, da, _, rfl, DPut.k (k := Sum.inl (n : Int)) h2d (by rw [keysT_len]; exact small1000 (by omega)), ?_⟩
      rw [keysT_put]
      have t3 : Tups K (upd H1 ta (.lst zs)) (upd (upd H1 ta (.lst zs)) da (.dK (keysT (if n ∈ F then F else F ++ [n])))) := tups_dk h2d _
      refine ⟨Ty.szs us, ?_, if n ∈ F then F else F ++ [n], zs, us, _, _, rfl, same_set g2 hda _, upd_same, ?_, ?_, by rw [upd_ne ndt.symm]; exact upd_same, ku.mono (t2.trans t3), oku, by omega, ?_, ?_, rfl⟩
      · have := sz_pos t
        rw [szs_app, szs_cons, szs_nil]
        omega
      · split
        · exact hnd
        · rename_i h
          exact List.nodup_append.mpr ⟨hnd, by simp, fun x hx y hy => by
            rw [List.mem_singleton.mp hy]
            intro e
            exact h (e ▸ hx)⟩
      · intro m hm
        split at hm
        · exact hF m hm
        · rcases List.mem_append.mp hm with h | h
          · exact hF m h
          · rw [List.mem_singleton.mp h]
            exact hn60
      · rw [i1]
        constructor
        · rintro ⟨u, hu, e⟩
          rcases List.mem_append.mp hu with h | h
          · exact ⟨u, h, e⟩
          · rw [List.mem_singleton.mp h, hta'] at e
            cases e
        · rintro ⟨u, hu, e⟩
          exact ⟨u, List.mem_append_left _ hu, e⟩
      · intro M hM m
        rw [i2 M hM m]
        have hmF : m ∈ (if n ∈ F then F else F ++ [n]) ↔ m ∈ F ∨ m = n := by
          split
          · rename_i h
            exact ⟨.inl, fun o => o.elim id fun e => e ▸ h⟩
          · rw [List.mem_append, List.mem_singleton]
        rw [hmF]
        constructor
        · rintro (h | ⟨u, hu, L, hL, h⟩)
          · exact .inl (.inl h)
          · rcases List.mem_append.mp hu with h' | h'
            · exact .inr ⟨u, h', L, hL, h⟩
            · rw [List.mem_singleton.mp h', hta'] at hL
              cases hL
              exact .inl (.inr (List.mem_singleton.mp h))
        · rintro ((h | h) | ⟨u, hu, L, hL, h⟩)
          · exact .inl h
          · exact .inr ⟨t, List.mem_append_right _ (List.mem_singleton_self _), [n], hta', by rw [h]; exact List.mem_singleton_self _⟩
          · exact .inr ⟨u, List.mem_append_left _ hu, L, hL, h⟩
    · have hvf : t.lab.isVar = false := by
        cases e : t.lab.isVar with
        | true => exact absurd e hvar
        | false => rfl
      rw [hvf]
      have hnum : t.lab.num = none := by
        cases e : t.lab with
        | var n => rw [e] at hvf; cases hvf
        | _ => rfl
      have hta' := askd_need (asOf rows) hnum
      refine iteF ⟨_, rfl, _, rfl, b, _, rows, t, rfl, hB.mono g2, ht2, okt, hro, hnum, fun hnone => ?_, fun vs hsome H4 c4 xs4 g4 hc4 hx4 => ?_⟩
      · have : T.askd (asOf rows) = none := i1.mpr ⟨t, List.mem_append_right _ (List.mem_singleton_self _), by rw [hta', hnone]; rfl⟩
        exact ⟨_, rfl, rfl, _, rfl, iteT (q0 this _ g2)⟩
      · obtain ⟨hvsz, hvk⟩ := need_ok hro okt hsome
        rw [hsome] at hta'
        have hta' : t.askd (asOf rows) = joinAll (vs.map (Ty.askd (asOf rows))) := hta'
        have h4t : H4 ta = some (.lst zs) := g4 _ _ upd_same
        have hxl := hx4.len
        have hvl := len_szs vs
        have hts := t.sz_eq
        refine ⟨_, rfl, rfl, _, rfl, iteF ⟨_, rfl, .inl ⟨rfl, _, SqL.of h4t⟩, _, rfl, ta, c4, zs, xs4, rfl, rfl, h4t, hc4, small300 (by omega), ?_⟩⟩
        have t4 := tups_set (K := K) h4t (.lst (zs ++ xs4))
        have t24 := tups_of (K := K) g4
        refine ⟨Ty.szs us + Ty.szs vs, ?_, F, zs ++ xs4, us ++ vs, _, _, rfl, same_set (g2.trans g4) hta _, by rw [upd_ne ndt]; exact g4 _ _ h2d, hnd, hF, upd_same, (ku.mono (t2.trans (t24.trans t4))).app (hx4.mono t4), ?_, by rw [szs_app]; omega, ?_, ?_, by rw [szs_app]⟩
        · rw [szs_app, szs_cons, szs_nil]
          omega
        · intro u hu
          rcases List.mem_append.mp hu with h | h
          · exact oku u h
          · exact ⟨okt.kid (hvk u h), fun n hn => hvt n (vars_kid (hvk u h) hn)⟩
        · rw [i1]
          constructor
          · rintro ⟨u, hu, e⟩
            rcases List.mem_append.mp hu with h | h
            · exact ⟨u, List.mem_append_left _ h, e⟩
            · rw [List.mem_singleton.mp h, hta', joinAll_none] at e
              obtain ⟨u', hu', e'⟩ := List.mem_map.mp e
              exact ⟨u', List.mem_append_right _ hu', e'⟩
          · rintro ⟨u, hu, e⟩
            rcases List.mem_append.mp hu with h | h
            · exact ⟨u, List.mem_append_left _ h, e⟩
            · exact ⟨t, List.mem_append_right _ (List.mem_singleton_self _), by rw [hta', joinAll_none]; exact List.mem_map.mpr ⟨u, h, e⟩⟩
        · intro M hM m
          rw [i2 M hM m]
          refine or_congr Iff.rfl ?_
          constructor
          · rintro ⟨u, hu, L, hL, h⟩
            rcases List.mem_append.mp hu with h' | h'
            · exact ⟨u, List.mem_append_left _ h', L, hL, h⟩
            · rw [List.mem_singleton.mp h', hta'] at hL
              obtain ⟨M', hM', h⟩ := (joinAll_some _ L hL m).mp h
              obtain ⟨u', hu', e'⟩ := List.mem_map.mp hM'
              exact ⟨u', List.mem_append_right _ hu', M', e', h⟩
          · rintro ⟨u, hu, L, hL, h⟩
            rcases List.mem_append.mp hu with h' | h'
            · exact ⟨u, List.mem_append_left _ h', L, hL, h⟩
            · cases e : t.askd (asOf rows) with
              | none =>
                have := i1.mpr ⟨t, List.mem_append_right _ (List.mem_singleton_self _), e⟩
                rw [this] at hM
                cases hM
              | some L' =>
                refine ⟨t, List.mem_append_right _ (List.mem_singleton_self _), L', e, ?_⟩
                rw [hta'] at e
                exact (joinAll_some _ L' e m).mpr ⟨L, List.mem_map.mpr ⟨u, h', hL⟩, h⟩
end
end Lq
namespace Lq
open PySem L2
def adm (as : Nat → Option (List Nat)) (T : Ty) (ms : List Nat) : Bool := match T.askd as with
  | none => false
  | some M => M.all fun n => decide (n ∈ ms)
theorem inV_nat (n : Nat) : ∀ (ms : List Nat), inV (.int (n : Int)) (natV ms) = decide (n ∈ ms)
  | [] => rfl
  | m :: r => by
    show (eqV (.int (m : Int)) (.int (n : Int)) || inV (.int (n : Int)) (natV r)) = _
    rw [inV_nat n r]
    show (((m : Int) == (n : Int)) || decide (n ∈ r)) = decide (n ∈ m :: r)
    by_cases e : m = n
    · subst e
      simp
    · have e1 : ((m : Int) == (n : Int)) = false := by
        rw [beq_eq_false_iff_ne]
        omega
      rw [e1, Bool.false_or]
      exact decide_eq_decide.mpr ⟨fun h => List.mem_cons_of_mem _ h, fun h => (List.mem_cons.mp h).resolve_left fun z => e z.symm⟩
theorem flat_nat (ms : List Nat) : (natV ms).all flatV = true := by
  unfold natV
  rw [List.all_map]
  exact List.all_eq_true.mpr fun _ _ => rfl
theorem all_same {ns M : List Nat} (h : ∀ n, n ∈ ns ↔ n ∈ M) (f : Nat → Bool) : ns.all f = M.all f := by
  rw [Bool.eq_iff_iff, List.all_eq_true, List.all_eq_true]
  exact ⟨fun q n hn => q n ((h n).mpr hn), fun q n hn => q n ((h n).mp hn)⟩
section
variable {P : Program} {w : World} {K : PySem.W.Frag} {mg : Str → Option Value} {base : Heap} {C : Addr}
abbrev s_admits_with : Stmt := top 50
theorem sc_admits_with : FnScope ["book", "T", "marked", "asked", "variable"] ["book", "T", "marked"] (defScope s_admits_with) := ⟨rfl, rfl, rfl, by decide +kernel, rfl, by decide +kernel, by decide +kernel⟩
def spAdmW (K : PySem.W.Frag) (C : Addr) : Sp := fun vs H Q _ => ∃ (b v : V) (m : Addr) (rows : List Row) (T : Ty) (ms : List Nat), vs = [b, v, .ref m] ∧ BookH K C H rows b ∧ TyH K H T v ∧ T.Ok (arOf rows) ∧ RowsOk rows ∧ T.sz ≤ 1000 ∧ (∀ n, n ∈ T.vars → n < 60) ∧ SqT K H m (natV ms) ∧
  ∀ H', Same H H' → Q (.bl (adm (asOf rows) T ms)) H'
theorem ok_admits_with (A : At K mg "admits_with" s_admits_with ["book", "T", "marked"]) (B : Bi mg) (D_asked_variables : Has P w K mg base "asked_variables" ["book", "types"] 5 (spAsked K C)) : Has P w K mg base "admits_with" ["book", "T", "marked"] 6 (spAdmW K C) := by
  refine .mk A fun f fd F => ?_
  refine F.ok sc_admits_with (fun vs H Q E h => ?_) (fun cdv A outer s H vs Q E hr h => ?_)
  · obtain ⟨b, v, m, rows, T, ms, rfl, _⟩ := h
    rfl
  obtain ⟨b, v, m, rows, T, ms, rfl, hB, hT, hok, hro, hsz, hvs, hm, q⟩ := h
  obtain ⟨f_asked_variables, fd_asked_variables, G_asked_variables, b_asked_variables, k_asked_variables, m_asked_variables⟩ := D_asked_variables
  refine ⟨_, (pss_cons (ps_set (i := 3) sc_admits_with.nd rfl (Or.inl rfl) (pe_call G_asked_variables (hr.mono (by decide)) rfl m_asked_variables k_asked_variables b_asked_variables .nil pass0 (pa_cons (pv 0) (pa_cons (pe_tup (pa_cons (pv 1) pa_nil)) pa_nil))))
  (pss_one (ps_ret (pe_and (pe_cmpR op_notN (pv 3) pe_non (nomark _)) (pe_one (pe_callB (cr_all rfl) (by rfl) B.all (by decide +kernel) (pa_cons (pe_lc (own := [("variable", 4)]) (g := gName 4) (tt := tYes) (by rfl) sc_admits_with.nd (pi_tup (pv 3)) (blkOk_by (N := ["book", "T", "marked", "asked", "variable"]) (sc := defScope s_admits_with) (by decide +kernel)) (fun _ _ _ _ _ => (pg_name (i := 4) sc_admits_with.nd rfl (Or.inl rfl))) (fun _ _ _ _ _ => pts_nil) (fun _ _ _ _ _ => (pe_cmpR (inS K) (pv 4) (pv 2) rfl))) pa_nil))))))), ?_⟩
  refine ⟨_, rfl, _, rfl, by show 1 ≤ sizeLine; decide, fun a ha => ?_⟩
  have g1 := same_upd ha (.tup [v])
  refine ⟨b, a, v, rows, T, rfl, hB.mono g1, sq_new, hT.mono (tups_of g1), hok, hro, hsz, hvs, fun hnone H2 g2 => ?_, fun M hM H2 p ns g2 hp hlt hmem hl => ?_⟩
  · refine ⟨_, rfl, rfl, _, rfl, iteF ?_⟩
    have e : adm (asOf rows) T ms = false := by unfold adm; rw [hnone]
    rw [← e]
    exact q H2 (g1.trans g2)
  · have gg := g1.trans g2
    refine ⟨_, rfl, rfl, _, rfl, iteT ⟨_, rfl, p, rfl, ⟨_, hp⟩, fun D hD => lc_tup (K := K) (a := p) (xs := natV ns)
      (fun i H3 => Same H2 H3 ∧ H3 D = some (.lst (((ns.take i).map fun n => decide (n ∈ ms)).map V.bl))) ⟨same_upd hD _, upd_same⟩ (fun i H3 _ z => tups_of z.1 _ _ hp) ?_ ?_⟩⟩
    · rintro i x H3 hx ⟨g3, h3⟩
      obtain ⟨n, hn, rfl⟩ := natV_at hx
      have hil := lt_of_get hn
      refine ⟨rfl, _, rfl, _, rfl, m, natV ms, rfl, .inr (tups_of (gg.trans g3) _ _ hm), rfl, flat_nat ms, _, h3, by rw [List.length_map, List.length_map, List.length_take]; exact small1000 (by omega), same_set g3 hD _, ?_⟩
      rw [upd_same, take_snoc hn, List.map_append, List.map_append]
      show some (HO.lst (_ ++ [V.bl (inV (.int (n : Int)) (natV ms))])) = _
      rw [inV_nat]
      rfl
    · rintro H3 ⟨g3, h3⟩
      rw [natV_len, List.take_length] at h3
      refine ⟨D, _, rfl, SqL.of h3, ?_⟩
      have e : (ns.map fun n => decide (n ∈ ms)).all id = adm (asOf rows) T ms := by
        unfold adm
        rw [hM, List.all_map]
        exact all_same hmem _
      rw [e]
      exact q H3 (gg.trans g3)
/-! ### admits: a keyword with a default -/
def AtD (K : PySem.W.Frag) (mg : Str → Option Value) (x : Str) (st : Stmt) (kws : List (Str × V)) : Prop := ∃ f fd, FunD K x x (defArgs st) (defBody st) (defScope st) [] kws f fd ∧ mg x = some (.ref f)
abbrev s_admits : Stmt := top 51
theorem sc_admits : FnScope ["book", "T", "marked"] ["book", "T", "marked"] (defScope s_admits) := ⟨rfl, rfl, rfl, by decide +kernel, rfl, by decide +kernel, by decide +kernel⟩
def spAdm (K : PySem.W.Frag) (C : Addr) : Sp := fun vs H Q _ => ∃ (b v : V) (m : Addr) (rows : List Row) (T : Ty) (ms : List Nat), vs = [b, v, .ref m] ∧ BookH K C H rows b ∧ TyH K H T v ∧ T.Ok (arOf rows) ∧ RowsOk rows ∧ T.sz ≤ 300 ∧ (∀ n, n ∈ T.vars → n < 60) ∧ SqT K H m (natV ms) ∧
  (∀ n, n ∈ ms → (n : Int) < 10 ^ 60) ∧ ms.length ≤ 1000 ∧ ms.Pairwise (· < ·) ∧ ∀ H', Same H H' → Q (.bl (adm (asOf rows) T ms)) H'
/-- admits, its two ways to be called -/
def HasA (P : Program) (w : World) (K : PySem.W.Frag) (mg : Str → Option Value) (base : Heap) (k : Nat) (a0 : Addr) (sp : Sp) : Prop :=
  ∃ f fd, FnOk P w K mg base CX0 k f fd ["book", "T", "marked"] sp ∧ (∃ ds, Vals [.ref a0] ds ∧ Binds K fd ["book", "T", "marked"] ds) ∧ KBn K fd ["book", "T", "marked"] 2 ["marked"] (fun us ws => us ++ ws) (fun vs zs => vs ++ zs) ∧ PySem.W.keepIn K (.ref f) = true ∧ mg "admits" = some (.ref f)
theorem ok_admits {a0 : Addr} (A : AtD K mg "admits" s_admits [("marked", .ref a0)]) (D_check_type : Has P w K mg base "check_type" ["book", "T"] 7 (spCheckType K C)) (D_check_marked : Has P w K mg base "check_marked" ["marked"] 5 (spMarked K)) (D_admits_with : Has P w K mg base "admits_with" ["book", "T", "marked"] 6 (spAdmW K C)) :
    HasA P w K mg base 8 a0 (spAdm K C) := by
  obtain ⟨f, fd, F, m⟩ := A
  refine ⟨f, fd, ?_, ?_, ?_, F.kp, m⟩
  · refine F.ok sc_admits (fun vs H Q E h => ?_) (fun cdv A outer s H vs Q E hr h => ?_)
    · obtain ⟨b, v, m, rows, T, ms, rfl, _⟩ := h
      rfl
    obtain ⟨b, v, m, rows, T, ms, rfl, hB, hT, hok, hro, hsz, hvs, hm, hms, hml, hmp, q⟩ := h
    obtain ⟨f_check_type, fd_check_type, G_check_type, b_check_type, k_check_type, m_check_type⟩ := D_check_type
    obtain ⟨f_check_marked, fd_check_marked, G_check_marked, b_check_marked, k_check_marked, m_check_marked⟩ := D_check_marked
    obtain ⟨f_admits_with, fd_admits_with, G_admits_with, b_admits_with, k_admits_with, m_admits_with⟩ := D_admits_with
    suffices hh : ∃ t, PSs (cxOf CX0 P w K mg base ["book", "T", "marked"] "admits" (defScope s_admits) f cdv A outer s H E).nox (defBody s_admits) t ∧ t { nx := fun _ H' => Q .non H', rt := Q } (start ["book", "T", "marked"] [b, v, .ref m]) H by
      obtain ⟨t, h1, h2⟩ := hh
      exact ⟨t, h1.nox, h2⟩
    refine ⟨_, (pss_cons (ps_expr (pe_call G_check_type (hr.mono (by decide)) rfl m_check_type k_check_type b_check_type .nil pass0 (pa_cons (pv 0) (pa_cons (pv 1) pa_nil))))
  (pss_cons (ps_expr (pe_call G_check_marked (hr.mono (by decide)) rfl m_check_marked k_check_marked b_check_marked .nil pass0 (pa_cons (pv 2) pa_nil)))
  (pss_one (ps_ret (pe_call G_admits_with (hr.mono (by decide)) rfl m_admits_with k_admits_with b_admits_with .nil pass0 (pa_cons (pv 0) (pa_cons (pv 1) (pa_cons (pv 2) pa_nil)))))))), ?_⟩
    refine ⟨_, rfl, _, rfl, b, v, rows, T, rfl, hB, hT, hok, hsz, fun H2 g2 => ?_⟩
    refine ⟨_, rfl, m, ms, rfl, tups_of g2 _ _ hm, hms, hml, hmp, fun H3 g3 => ?_⟩
    have gg := g2.trans g3
    exact ⟨_, rfl, _, rfl, _, rfl, b, v, m, rows, T, ms, rfl, hB.mono gg, hT.mono (tups_of gg), hok, hro, by omega, hvs, tups_of gg _ _ hm, fun H4 g4 => q H4 (gg.trans g4)⟩
  · refine F.binds0 2 (by simp) rfl fun D doc pm an cdv ct us ks hu hk => ?_
    match us, hu, ks, hk with
    | [_, _], _, [_], _ => exact ⟨_, _, _, _, _, _, rfl, rfl, rfl⟩
  · obtain ⟨oc, od, dV, kV, doc, pm, an, cdv, ct, osl, rfl, lk, hcd, hD, hK⟩ := F.ex
    rcases hD with ⟨_, rfl⟩ | ⟨e, _⟩
    · refine ⟨fun s us ws _ hu hw => ?_, fun r1 r2 => r1.append r2⟩
      match us, hu, ws, hw with
      | [_, _], _, [_], _ => exact .of_eq rfl
    · exact absurd rfl e
end
end Lq
namespace Lq
open PySem L2
def sg (us : List Ty) (n : Nat) : Ty := us[n]?.getD (.node .tup [])
section
variable {P : Program} {w : World} {K : PySem.W.Frag} {mg : Str → Option Value} {base : Heap} {C : Addr}
abbrev s_put : Stmt := top 47
theorem sc_put : FnScope ["book", "T", "types", "variables", "variable"] ["book", "T", "types"] (defScope s_put) := ⟨rfl, rfl, rfl, by decide +kernel, rfl, by decide +kernel, by decide +kernel⟩
def spPut (K : PySem.W.Frag) (C : Addr) : Sp := fun vs H Q _ => ∃ (b v : V) (a : Addr) (rows : List Row) (T : Ty) (us : List Ty) (xs : List V), vs = [b, v, .ref a] ∧ BookH K C H rows b ∧ TyH K H T v ∧ T.Ok (arOf rows) ∧ T.sz ≤ 300 ∧ SqT K H a xs ∧ TysH K H us xs ∧ us.length ≤ 1000 ∧
  (∀ u ∈ us, u.Ok (arOf rows) ∧ u.sz ≤ 300) ∧ (∀ n, n ∈ T.vars → n < us.length) ∧ (T.sub (sg us)).sz ≤ 300 ∧ ∀ (H' : Hp) (x : V), Same H H' → TyH K H' (T.sub (sg us)) x → Q x H'
theorem ok_put (A : At K mg "put" s_put ["book", "T", "types"]) (B : Bi mg) (D_check_type : Has P w K mg base "check_type" ["book", "T"] 7 (spCheckType K C)) (D_are_types : Has P w K mg base "are_types" ["book", "value"] 7 (spAreTypes K C)) (D_variables_in : Has P w K mg base "variables_in" ["T"] 3 (spVars K)) (D_put_in : Has P w K mg base "put_in" ["T", "images"] 4 (spPutIn K)) : Has P w K mg base "put" ["book", "T", "types"] 8 (spPut K C) := by
  refine .mk A fun f fd F => ?_
  refine F.ok sc_put (fun vs H Q E h => ?_) (fun cdv A outer s H vs Q E hr h => ?_)
  · obtain ⟨b, v, a, rows, T, us, xs, rfl, _⟩ := h
    rfl
  obtain ⟨b, v, a, rows, T, us, xs, rfl, hB, hT, hok, hsz, hS, hU, hul, huo, hvl, hss, q⟩ := h
  obtain ⟨f_check_type, fd_check_type, G_check_type, b_check_type, k_check_type, m_check_type⟩ := D_check_type
  obtain ⟨f_are_types, fd_are_types, G_are_types, b_are_types, k_are_types, m_are_types⟩ := D_are_types
  obtain ⟨f_variables_in, fd_variables_in, G_variables_in, b_variables_in, k_variables_in, m_variables_in⟩ := D_variables_in
  obtain ⟨f_put_in, fd_put_in, G_put_in, b_put_in, k_put_in, m_put_in⟩ := D_put_in
  refine ⟨_, (pss_cons (ps_expr (pe_call G_check_type (hr.mono (by decide)) rfl m_check_type k_check_type b_check_type .nil pass0 (pa_cons (pv 0) (pa_cons (pv 1) pa_nil))))
  (pss_cons (ps_if (pt_not (pt_val (pe_call G_are_types (hr.mono (by decide)) rfl m_are_types k_are_types b_are_types .nil pass0 (pa_cons (pv 0) (pa_cons (pv 2) pa_nil))))) (pss_one ps_never) pss_nil)
  (pss_cons (ps_set (i := 3) sc_put.nd rfl (Or.inl rfl) (pe_call G_variables_in (hr.mono (by decide)) rfl m_variables_in k_variables_in b_variables_in .nil pass0 (pa_cons (pv 1) pa_nil)))
  (pss_cons (ps_if (pt_not (pt_val (pe_callB (cr_all rfl) (by rfl) B.all (by decide +kernel) (pa_cons (pe_lc (own := [("variable", 4)]) (g := gName 4) (tt := tYes) (by rfl) sc_put.nd (pi_tup (pv 3)) (blkOk_by (N := ["book", "T", "types", "variables", "variable"]) (sc := defScope s_put) (by decide +kernel)) (fun _ _ _ _ _ => (pg_name (i := 4) sc_put.nd rfl (Or.inl rfl))) (fun _ _ _ _ _ => pts_nil) (fun _ _ _ _ _ => (pe_cmpR op_lt (pv 4) (pe_callB (lenS K) (by rfl) B.len (by decide +kernel) (pa_cons (pv 2) pa_nil)) (nomark _)))) pa_nil)))) (pss_one ps_never) pss_nil)
  (pss_one (ps_ret (pe_call G_put_in (hr.mono (by decide)) rfl m_put_in k_put_in b_put_in .nil pass0 (pa_cons (pv 1) (pa_cons (pe_dc (own := [("variable", 4)]) (g := gName 4) (tt := tYes) (by rfl) sc_put.nd (pi_tup (pv 3)) (blkOk_by (N := ["book", "T", "types", "variables", "variable"]) (sc := defScope s_put) (by decide +kernel)) (fun _ _ _ _ _ => (pg_name (i := 4) sc_put.nd rfl (Or.inl rfl))) (fun _ _ _ _ _ => pts_nil) (fun _ _ _ _ _ => (pv 4)) (fun _ _ _ _ _ => (pe_ix (ixT K) (pv 2) (pv 4) (fun _ _ => rfl)))) pa_nil))))))))), ?_⟩
  have hxl := hU.len
  refine ⟨_, rfl, _, rfl, b, v, rows, T, rfl, hB, hT, hok, hsz, fun H1 g1 => ?_⟩
  refine ⟨_, rfl, _, rfl, b, a, rows, us, xs, rfl, hB.mono g1, tups_of g1 _ _ hS, hU.mono (tups_of g1), huo, hul, fun H2 g2 => ⟨_, rfl, iteF ?_⟩⟩
  have g12 := g1.trans g2
  refine ⟨_, rfl, T, v, rfl, hT.mono (tups_of g12), by omega, fun H3 p ns g3 hp hmem hl => ?_⟩
  have g13 := g12.trans g3
  refine ⟨_, rfl, p, rfl, ⟨_, hp⟩, fun D hD => lc_tup (K := K) (a := p) (xs := natV ns) (AllInv H3 D) (.start hD) (fun i H4 _ z => tups_of z.1 _ _ hp) ?_ ?_⟩
  · intro i x H4 hx z
    obtain ⟨n, hn, rfl⟩ := natV_at hx
    have hnl := hvl n ((hmem n).mp (List.mem_of_getElem? hn))
    refine ⟨rfl, _, rfl, _, rfl, a, xs, rfl, .inr (tups_of (g13.trans z.1) _ _ hS), _, _, rfl, rfl, ?_⟩
    have e : (V.bl (decide ((n : Int) < ((xs.length : Nat) : Int)))) = .bl true := by rw [decide_eq_true (by omega)]
    show ∃ acc, H4 D = some (.lst acc) ∧ acc.length < sizeLine ∧ AllInv H3 D (i + 1) (upd H4 D (.lst (acc ++ [V.bl (decide ((n : Int) < ((xs.length : Nat) : Int)))])))
    rw [e]
    exact z.step hD (by have := lt_of_get hn; omega)
  · intro H4 z
    have g14 := g13.trans z.1
    refine ⟨D, _, rfl, SqL.of z.2, ?_⟩
    rw [all_rep]
    refine ⟨_, rfl, iteF ?_⟩
    let g : Nat → V := fun n => xs[n]?.getD .non
    have hp4 := tups_of z.1 _ _ hp
    refine ⟨_, rfl, _, rfl, p, rfl, ⟨_, hp4⟩, fun D2 hD2 => dc_tup (K := K) (a := p) (xs := natV ns)
      (fun i H5 => Same H4 H5 ∧ ∃ ns2 : List Nat, H5 D2 = some (.dK (kvOf g ns2)) ∧ (∀ n, n ∈ ns2 ↔ n ∈ ns.take i) ∧ ns2.length ≤ i) ⟨same_upd hD2 _, [], upd_same, fun n => by simp, Nat.le_refl _⟩ (fun i H5 _ y => tups_of y.1 _ _ hp4) ?_ ?_⟩
    · rintro i x H5 hx ⟨g5, ns2, hd5, hm, hl5⟩
      obtain ⟨n, hn, rfl⟩ := natV_at hx
      have hil := lt_of_get hn
      have hnl := hvl n ((hmem n).mp (List.mem_of_getElem? hn))
      have hxn : xs[n]? = some (g n) := by
        show xs[n]? = some (xs[n]?.getD .non)
        rw [List.getElem?_eq_getElem (by omega : n < xs.length)]
        rfl
      refine ⟨rfl, _, rfl, _, rfl, _, rfl, a, xs, _, g n, rfl, rfl, tups_of (g14.trans g5) _ _ hS, at_of (j := n) rfl hxn, kvOf g ns2, Sum.inl (n : Int), rfl, hd5, by rw [kvOf_len]; exact small1000 (by omega), same_set g5 hD2 _, if n ∈ ns2 then ns2 else ns2 ++ [n], by rw [upd_same, kvOf_put], ?_, ?_⟩
      · intro m
        rw [take_snoc hn]
        by_cases h : n ∈ ns2
        · rw [if_pos h, hm, List.mem_append]
          exact ⟨.inl, fun o => o.elim id fun e => by rw [List.mem_singleton.mp e]; exact (hm n).mp h⟩
        · rw [if_neg h, List.mem_append, List.mem_append, hm]
      · split
        · omega
        · rw [List.length_append, List.length_singleton]
          omega
    · rintro H5 ⟨g5, ns2, hd5, hm, hl5⟩
      rw [natV_len, List.take_length] at hm
      rw [natV_len] at hl5
      have g15 := g14.trans g5
      refine ⟨T, v, D2, g, ns2, sg us, arOf rows, rfl, hT.mono (tups_of g15), hok, hsz, hss, hd5, by omega, fun n hn => ?_, fun n hn => (hm n).mpr ((hmem n).mpr hn), fun H6 x g6 hx => q H6 x (g15.trans g6) hx⟩
      have hnl := hvl n ((hmem n).mp ((hm n).mp hn))
      obtain ⟨y, hy, hyT⟩ := hU.get' (i := n) (t := us[n]) (List.getElem?_eq_getElem hnl)
      have e1 : g n = y := by
        show xs[n]?.getD .non = y
        rw [hy]
        rfl
      have e2 : sg us n = us[n] := by
        show us[n]?.getD _ = us[n]
        rw [List.getElem?_eq_getElem hnl]
        rfl
      rw [e1, e2]
      refine ⟨hyT.mono (tups_of g15), ?_⟩
      have := (huo us[n] (List.getElem_mem hnl)).2
      omega
end
end Lq
namespace Lq
open PySem PySem.Spec PyProof.Rows L2
section
variable {X : Cx}
/-- a ** b where a's bits, b times, are few enough -/
theorem op_powB : OpR X (binaryOp .Pow) (rI (fun i j => 0 ≤ j ∧ (Builtin.Int.intBits i : Int) * j ≤ 2 ^ 27) fun i j => .int (i ^ j.toNat)) :=
  opI fun _ _ _ _ _ _ _ hc q => pow_int hc.1 hc.2 q
/-- set(t), t a tuple of ints -/
def rSetT (K : PySem.W.Frag) (w : World) : List V → Hp → VK → Prop := fun xs H Q => ∃ (a : Addr) (ns : List Int), xs = [.ref a] ∧ SqT K H a (ns.map V.int) ∧ ns.length ≤ 60 ∧
  ∀ p c, H p = none → c ≤ ns.length → Q (.ref p) (upd H p (SetO w p (fun j => decide (j ∈ ns)) c))
theorem set_ofT (hc : X.calm = true) : CallR X (.type "set") (rSetT X.K X.w) := by
  intro pins s σ H xs us Q I r h
  obtain ⟨a, ns, rfl, hS, hl, q⟩ := h
  obtain ⟨u, rfl, rx⟩ := vals1 r
  obtain rfl : u = Value.ref a := rx
  obtain ⟨its, rv, ht, hz⟩ := I.tuple hS
  refine L2.call_set_tupI ns (I.ok.hd hc) ht (by simpa using RZ.intsAre_vals rv) (by unfold scanBound; omega) fun h' tk c hR hcn hk => ?_
  refine ⟨.ref s.heap.objs.size, upd H s.heap.objs.size (SetO X.w s.heap.objs.size (fun j => decide (j ∈ ns)) c), I.laid (t' := tk) hk (Nat.le_refl _) (setO_new hR), rfl, q _ c (I.hok.fresh (Nat.le_refl _)) hcn⟩
end
end Lq
/-! set(xs), xs a list of different texts -/
namespace Lq
open PySem PySem.Spec PyProof.Rows SS
section
variable {prog : Program} {w : World} {A : Around} {R : Result → Shared → Prop} {I : Addr} {fp wr : List Addr} {G : Array GenState → Array GenState → Prop} {n : Nat} {P : Nat → Value → Prop} {St : Nat → Shared → Prop}
theorem loopN (W : WalksS prog w A.in1 I fp wr G n P St) (S : Addr) (qSf : S ∉ fp) (xs : List Str) (qsz : xs.length = n) (hnd : xs.Nodup) (qn1 : n ≤ 100)
    (qval : ∀ i v, P i v → ∃ t, v = .str (xs.getD i Str.empty) t) :
    ∀ (k i : Nat) (s : Shared), n - i = k → i ≤ n → St i s →
      s.heap.SetOf (PySem.strKind prog w) S (fun k' => (xs.take i).any (· == k')) i →
      (∀ s', Moved (S :: wr) G s s' → s'.heap.SetOf (PySem.strKind prog w) S (fun k' => (xs.take n).any (· == k')) n → R (.ok (.ret .none)) s') →
      codeAny (model prog w) A (.builtin "set.update.loop" ⟨[.ref S, .ref I], []⟩) R s := by
  have qSw : S ∉ wr := fun h => qSf (W.sub _ h)
  have qsub : ∀ b ∈ wr, b ∈ S :: wr := fun b hb => List.mem_cons_of_mem _ hb
  intro k
  induction k with
  | zero =>
    intro i s qk qi qst qS qR
    have hin : i = n := by omega
    subst hin
    refine codeAny_builtin PyProof.Rows.F.entry_set_update_loop ?_
    rw [Around.under_plainId PyProof.Rows.F.plain_set_update_loop _]
    show wpAny _ A.in1 (pyNext (.ref I) >>= _) _ _ s
    refine wpAny_bind (W.done s _ _ qst fun s' qm => ?_)
    show wpAny _ A.in1 (ret Value.none) _ _ s'
    exact wpAny_pure (qR s' (qm.mono qsub) (by
      obtain ⟨o, es, ep, t, ho, rest⟩ := qS
      exact ⟨o, es, ep, t, qm.heap S _ qSw ho, rest⟩))
  | succ k ih =>
    intro i s qk qi qst qS qR
    have qlt : i < n := by omega
    refine codeAny_builtin PyProof.Rows.F.entry_set_update_loop ?_
    rw [Around.under_plainId PyProof.Rows.F.plain_set_update_loop _]
    show wpAny _ A.in1 (pyNext (.ref I) >>= _) _ _ s
    refine wpAny_bind (W.item i s _ _ qlt qst fun v s' qP qst' qm => ?_)
    obtain ⟨t, rfl⟩ := qval i v qP
    have qS' : s'.heap.SetOf (PySem.strKind prog w) S (fun k' => (xs.take i).any (· == k')) i := by
      obtain ⟨o, es, ep, tb, ho, rest⟩ := qS
      exact ⟨o, es, ep, tb, qm.heap S _ qSw ho, rest⟩
    show wpAny _ A.in1 (holding [Value.str (xs.getD i Str.empty) t] (setAdd S (.str (xs.getD i Str.empty) t)) >>= _) _ _ s'
    refine wpAny_bind (wpAny_holding ?_)
    unfold setAdd
    refine wpAny_holding ?_
    refine wpAny_bind ((PySem.strKind prog w).pyHash (k := xs.getD i Str.empty) (strKind_is _ _ _ _) ?_)
    refine wpAny_setAddHashed_of (knd := PySem.strKind prog w) (s := { s' with toks := s'.toks + 1 }) (strKind_is _ _ _ _) rfl qS' (by unfold scanBound; omega) fun h' qsb qS2 => ?_
    have qSi : h'.SetOf (PySem.strKind prog w) S (fun k' => (xs.take (i + 1)).any (· == k')) (i + 1) := by
      have hix : i < xs.length := by omega
      have ex : xs.getD i Str.empty = xs[i] := by
        rw [List.getD_eq_getElem?_getD, List.getElem?_eq_getElem hix]
        rfl
      have no : ((xs.take i).any (· == xs.getD i Str.empty)) = false := by
        rw [ex]
        cases hb : (xs.take i).any (· == xs[i]) with
        | false => rfl
        | true =>
          obtain ⟨y, hy, ey⟩ := List.any_eq_true.mp hb
          have ey2 : y = xs[i] := eq_of_beq ey
          rw [ey2] at hy
          obtain ⟨j, hj⟩ := List.mem_iff_getElem?.mp hy
          rw [List.getElem?_take] at hj
          by_cases hji : j < i
          · rw [if_pos hji] at hj
            obtain ⟨hjl, ej⟩ := List.getElem?_eq_some_iff.mp hj
            exact absurd ej (List.pairwise_iff_getElem.mp hnd j i hjl hix hji)
          · rw [if_neg hji] at hj
            cases hj
      refine SetOf_congr qS2 (fun k' => ?_) (by rw [no]; rfl)
      rw [List.take_add_one, List.getElem?_eq_getElem hix, List.any_append, ex]
      show (_ || decide (k' = xs[i])) = (_ || ([xs[i]].any (· == k')))
      congr 1
      by_cases e : k' = xs[i]
      · rw [e]
        simp
      · have e' : (xs[i] == k') = false := by simpa [beq_iff_eq] using (fun h' : xs[i] = k' => e h'.symm)
        simp [e', e]
    refine wpAny_pure ⟨plainId_quiet PyProof.Rows.F.plain_set_update_loop _, ih (i + 1) _ (by omega) qlt (W.frame _ s' _ _ qst' (Nat.le_succ _) fun b hb o e => ?_) qSi fun s'' qm'' qS'' => ?_⟩
    · rw [qsb.2 b (fun h : b = S => qSf (by rw [← h]; exact hb))]; exact e
    · refine qR s'' (Moved.trans W.gtrans ((qm.mono qsub).then_heap (Nat.le_succ _) fun b o hb e => ?_) qm'') qS''
      rw [qsb.2 b (fun h : b = S => hb (by rw [h]; exact List.mem_cons_self))]; exact e
end
section
variable {prog : Program} {w : World} {A : Around} {E : Value → Shared → Prop} {s : Shared}
set_option maxHeartbeats 3200000 in
theorem set_listN {l : Addr} {items : Array Value} {xs : List Str} {Q : Value → Shared → Prop}
    (qh : A.handled = none) (ql : s.heap.IsList l items) (qi : PyProof.Rows.StrsAre items.toList xs) (hnd : xs.Nodup) (qn1 : xs.length ≤ 100)
    (h : ∀ (h' : Heap) (tk : Nat), h'.SetOf (PySem.strKind prog w) s.heap.objs.size (fun k' => (xs.take items.size).any (· == k')) items.size →
      (∀ b o, b < s.heap.objs.size → s.heap.get? b = some o → h'.get? b = some o) → Q (.ref s.heap.objs.size) { s with heap := h', toks := tk }) :
    wpAny (model prog w) A (call (.type "set") [.ref l]) Q E s := by
  obtain ⟨c, tl, qmro⟩ := PySem.F.called_set.mro
  have qmade := PySem.F.called_set.made
  have qsub := PySem.F.called_set.sub
  refine wpAny_call (codeAny_of_tree ?_)
  show wpAny _ _ (callAny (.type "set") _) _ _ _
  refine wpAny_pure ⟨Code.quiet_builtin _ (by decide +kernel), codeAny_builtin PySem.F.entry_type_call ?_⟩
  rw [Around.under_plain (weight_type_call_type "set" [.ref l] []) rfl]
  have h1 := PySem.F.called_set.notType
  have h2 := PySem.F.called_set.canCreate
  have qct := PySem.F.typeCall_set_1 (.ref l)
  repeat (any_goals (first | assumption | wp_step))
  refine codeAny_mono (code_set_new_1 (.ref l) (E := E) (Q₁ := fun obj s₁ => ∃ lg : Bool, obj = .ref s.heap.objs.size ∧ s₁ = { s with heap := s.heap.push { cls := .type "set", dict := none, data := .set #[] 0 (.fresh 0 0 lg) } }) fun lg => ⟨lg, rfl, rfl⟩) fun r s₁ qr => ?_
  cases r with
  | error e => exact qr
  | ok fl =>
    cases fl with
    | ret obj =>
      obtain ⟨lg, rfl, rfl⟩ := qr
      have qS : (s.heap.push { cls := .type "set", dict := none, data := .set #[] 0 (.fresh 0 0 lg) }).get? s.heap.objs.size = some { cls := .type "set", dict := none, data := .set #[] 0 (.fresh 0 0 lg) } := Heap.get?_push_size _ rfl
      have qT : Shared.TypeIs { s with heap := s.heap.push { cls := .type "set", dict := none, data := .set #[] 0 (.fresh 0 0 lg) } } (.ref s.heap.objs.size) "set" := ⟨_, qS, rfl⟩
      have qli := PySem.F.called_set.init.lookup
      have qbi := PySem.F.called_set.init.bind (.ref s.heap.objs.size)
      repeat (any_goals (first | assumption | wp_step))
      refine codeAny_mono (codeAny_call_builtin (R := wants (fun r s₂ => r = .none ∧ ∃ h' tk, s₂ = { s with heap := h', toks := tk } ∧
          h'.SetOf (PySem.strKind prog w) s.heap.objs.size (fun k' => (xs.take items.size).any (· == k')) items.size ∧
          (∀ b o, b < s.heap.objs.size → s.heap.get? b = some o → h'.get? b = some o)) E) PySem.F.called_set.init.plain PySem.F.entry_set_init (check_set_init_1 qT ?_)) fun r₂ s₂ qr₂ => ?_
      · obtain ⟨ol, qol, qcl, nl, qdl⟩ := ql
        obtain ⟨oc, od, odt, osl⟩ := ol
        simp only at qcl qdl
        subst qcl; subst qdl
        have qol' : (s.heap.push { cls := .type "set", dict := none, data := .set #[] 0 (.fresh 0 0 lg) }).get? l = some { cls := .type "list", dict := od, data := .seq items nl, slots := osl } := Heap.get?_push_of_some _ qol
        have qsls := PySem.F.sub_list_set
        have qslf := PySem.F.sub_list_frozenset
        have qne : (Value.type "list" == Value.type "dict") = false := by decide
        have ql1 : (s.heap.push { cls := .type "set", dict := none, data := .set #[] 0 (.fresh 0 0 lg) }).IsList l items := ⟨_, qol', rfl, nl, rfl⟩
        unfold Builtin.«set.__init__» noKeywords Builtin.Frozenset.updateFrom
        generalize hPI : pyIter = PI
        wp_walk
        subst hPI
        refine wpAny_pyIter_list ql1 ?_
        refine wpAny_bind (wpAny_runValue ?_)
        have qlS : l < s.heap.objs.size := Heap.lt_size qol
        have qh3 : A.in1.in1.in1.handled = none := by simp [qh]
        have qneI : l ≠ (s.heap.push { cls := .type "set", dict := none, data := .set #[] 0 (.fresh 0 0 lg) }).objs.size := by
          rw [Heap.size_push]; exact Nat.ne_of_lt (Nat.lt_succ_of_lt qlS)
        have qSf : s.heap.objs.size ∉ [(s.heap.push { cls := .type "set", dict := none, data := .set #[] 0 (.fresh 0 0 lg) }).objs.size, l] := by
          rw [Heap.size_push]; simp only [List.mem_cons, List.mem_singleton, List.not_mem_nil, or_false, not_or]
          exact ⟨Nat.ne_of_lt (Nat.lt_succ_self _), Nat.ne_of_gt qlS⟩
        have qsz : xs.length = items.size := by rw [← StrsAre.len_eq qi, Array.length_toList]
        have qval : ∀ (i : Nat) (v : Value), items[i]? = some v → ∃ t, v = .str (xs.getD i Str.empty) t := fun i v qv => strs_at qi i v (by rw [Array.getElem?_toList]; exact qv)
        refine loopN ((Walks.list qh3 _ l qneI items).toS) s.heap.objs.size
          qSf xs qsz hnd (by rw [← qsz]; exact qn1) qval (items.size - 0) 0 _ (by omega) (Nat.zero_le _)
          ⟨⟨_, Heap.get?_push_size _ rfl, rfl, rfl⟩, (ql1.push _)⟩ ?hS0 ?hR
        case hS0 =>
          have qget : ((s.heap.push { cls := .type "set", dict := none, data := .set #[] 0 (.fresh 0 0 lg) }).push { cls := .type "list_iterator", data := .fields #[.ref l, .int 0 0] }).get? s.heap.objs.size
              = some { cls := .type "set", dict := none, data := .set #[] 0 (.fresh 0 0 lg) } := Heap.get?_push_of_some _ qS
          exact PyProof.Rows.SetOf_congr ((PyProof.Rows.setObjOf_fresh (knd := PySem.strKind prog w) lg).setOf qget (by unfold scanBound; omega)) (fun _ => rfl) rfl
        case hR =>
          intro s' qm qS'
          obtain ⟨h', g', d', tk', os'⟩ := s'
          have eg : g' = s.gens := qm.gens
          have ed : d' = s.drawn := qm.drawn
          have eo : os' = s.os := qm.os
          subst eg; subst ed; subst eo
          show wpAny _ _ _ _ _ _
          refine wpAny_pure ?_
          show wpAny _ _ (ret Value.none) _ _ _
          refine wpAny_pure ⟨rfl, h', tk', rfl, qS', fun b o hb e => ?_⟩
          have hb1 : b ≠ s.heap.objs.size := Nat.ne_of_lt hb
          have hb2 : b ≠ (s.heap.push { cls := .type "set", dict := none, data := .set #[] 0 (.fresh 0 0 lg) }).objs.size := by
            rw [Heap.size_push]; exact Nat.ne_of_lt (Nat.lt_succ_of_lt hb)
          exact qm.heap b o (by simp only [List.mem_cons, List.mem_singleton, List.not_mem_nil, or_false, not_or]; exact ⟨hb1, hb2⟩) (Heap.get?_push_of_some _ (Heap.get?_push_of_some _ e))
      · cases r₂ with
        | error e => exact qr₂
        | ok fl₂ =>
          cases fl₂ with
          | ret r =>
            obtain ⟨rfl, h', tk, rfl, qS', qk'⟩ := qr₂
            repeat (any_goals (first | assumption | wp_step))
            exact h _ _ qS' qk'
          | _ => exact qr₂.elim
    | _ => exact qr.elim
end
end Lq
/-! len(set(xs)), xs a list of different texts -/
namespace Lq
open PySem PySem.Spec PyProof.Rows L2
def tLenSetN (K : PySem.W.Frag) (ta : TE) : TE := fun σ H Q => ta σ H fun x H1 => ∃ (l : Addr) (zs : List Str), x = .ref l ∧ SqL K H1 l (zs.map V.str) ∧ zs.Nodup ∧ zs.length ≤ 100 ∧ Q (.int (zs.length : Nat)) H1
theorem pe_lenSetN {X : Cx} {a : Expr} {ta : TE} {p p2 q pos : Pos} (hg : Gl X "len") (hm : X.mg "len" = none) (gs : Gl X "set") (ms : X.mg "set" = none) (ha : PE X a ta) (hc : X.calm = true := by rfl)
    (na : starEach [a] X.env = (false, eval a X.env) :: starEach [] X.env := by rfl) : PE X (.Call (.Name "len" p) [.Call (.Name "set" p2) [a] [] q] [] pos) (tLenSetN X.K ta) := by
  refine ⟨fun pins s σ H Q I h => ?_⟩
  refine Call_ (ld_blt I hg hm boot_len (PyProof.Rows.callWith_builtin1 (PyProof.Rows.args_cons ?_ rfl) rfl rfl))
  refine Call_ (ld_blt I gs ms boot_set (PyProof.Rows.callWith_type1
    (PyProof.Rows.args_cons (thn (ha.run pins s σ H _ I h) fun v s1 ⟨x, H1, I1, r1, q1⟩ => PyProof.Rows.args_nil ?_) na) na rfl))
  obtain ⟨l, zs, rfl, hq, hnd, hl, q1⟩ := q1
  cases r1
  obtain ⟨its, rv, pl, hz⟩ := I1.list hq
  have hlen : its.toArray.size = zs.length := by
    rw [List.size_toArray, ← rv.length, List.length_map]
  refine set_listN (I1.ok.hd hc) pl.isList (by simpa using strsAre_of rv) hnd hl fun h' tk hS hk => PyProof.Rows.args_nil ?_
  rw [hlen] at hS
  obtain ⟨o, es, ep, t, ho, hex, hd, _, _, _, hf, hn⟩ := hS
  have I2 : Inv X pins σ H1 { s1 with heap := h', toks := tk } := I1.kept fun b o e => hk b o (Heap.lt_size e) e
  exact call_len_set ho hex hd hf (by rw [hn]; omega) ⟨.int zs.length, H1, I2.tok _, ⟨_, by rw [hn]⟩, q1⟩
end Lq
namespace Lq
open PySem L2
theorem lc_str {z : Str} {g : TG} {tt : TT} {te : TE} {vs : List Nat} {σ : St} {H1 : Hp} {D : Addr} {Qd : Hp → Prop} (Pv : Nat → Hp → Prop) (h0 : Pv 0 (upd H1 D (.lst [])))
    (hs : ∀ i c H, z.cps[i]? = some c → Pv i H → g (.str ⟨#[c]⟩) (wipe σ vs) H fun σ2 H2 => wipe σ2 vs = wipe σ vs ∧ tt σ2 H2 fun b H3 =>
      if b = true then te σ2 H3 fun y H4 => ∃ acc, H4 D = some (.lst acc) ∧ acc.length < sizeLine ∧ Pv (i + 1) (upd H4 D (.lst (acc ++ [y]))) else Pv (i + 1) H3) (hd : ∀ H, Pv z.cps.size H → Qd H) :
    ∃ W : Nat → Nat → Hp → Prop, (∃ m, W 0 m (upd H1 D (.lst []))) ∧ ∀ i m H, W i m H →
      ((Its z).stop i H ∧ Qd H) ∨ ((Its z).go i H ∧ ∃ Nx : Hp → Prop, (∀ H', Nx H' → ∃ m', m' < m ∧ W (i + 1) m' H') ∧ ∀ x H', (Its z).yld i H x H' → g x (wipe σ vs) H' fun σ2 H2 => wipe σ2 vs = wipe σ vs ∧ tt σ2 H2 fun b H3 =>
        if b = true then te σ2 H3 fun y H4 => ∃ acc, H4 D = some (.lst acc) ∧ acc.length < sizeLine ∧ Nx (upd H4 D (.lst (acc ++ [y]))) else Nx H3) := by
  refine ⟨fun i m H => m = z.cps.size - i ∧ i ≤ z.cps.size ∧ Pv i H, ⟨z.cps.size, by simp, Nat.zero_le _, h0⟩, ?_⟩
  rintro i m H ⟨rfl, hi, p⟩
  by_cases hlt : i < z.cps.size
  · refine .inr ⟨hlt, Pv (i + 1), fun H' p' => ⟨z.cps.size - (i + 1), by omega, rfl, hlt, p'⟩, fun x H' y => ?_⟩
    obtain ⟨rfl, c, e, rfl⟩ := y
    exact hs i c _ e p
  · have e : i = z.cps.size := by omega
    subst e
    exact .inl ⟨Nat.le_refl _, hd H p⟩
abbrev lowS : Str := "abcdefghijklmnopqrstuvwxyz"
abbrev highS : Str := "ABCDEFGHIJKLMNOPQRSTUVWXYZ"
structure LowOk (kw : List V) (z : Str) : Prop where
  l1 : 1 ≤ z.length
  l8 : z.length ≤ 8
  all : ∀ c ∈ z.cps.toList, c ∈ lowS.cps.toList
  kw : inV (.str z) kw = false
structure HighOk (z : Str) : Prop where
  l1 : 1 ≤ z.length
  l8 : z.length ≤ 8
  first : ∃ c, z.cps[0]? = some c ∧ c ∈ highS.cps.toList
  all : ∀ c ∈ z.cps.toList, c ∈ lowS.cps.toList ∨ c ∈ highS.cps.toList
structure Kw (K : PySem.W.Frag) (mg : Str → Option Value) (ak : Addr) (kw : List V) : Prop where
  m : mg "KEYWORDS" = some (.ref ak)
  sq : ∀ H, SqT K H ak kw
  flat : kw.all flatV = true
section
variable {P : Program} {w : World} {K : PySem.W.Frag} {mg : Str → Option Value} {base : Heap} {C : Addr}
abbrev s__is_word : Stmt := top 18
theorem sc__is_word : FnScope ["value"] ["value"] (defScope s__is_word) := ⟨rfl, rfl, rfl, by decide +kernel, rfl, by decide +kernel, by decide +kernel⟩
def spWord : Sp := fun vs H Q _ => ∃ z : Str, vs = [.str z] ∧ 1 ≤ z.length ∧ z.length ≤ 8 ∧ Q (.bl true) H
theorem ok_is_word (A : At K mg "_is_word" s__is_word ["value"]) (B : Bi mg) (Cc : Ct K mg) : Has P w K mg base "_is_word" ["value"] 1 spWord := by
  refine .mk A fun f fd F => ?_
  refine F.ok sc__is_word (fun vs H Q E h => ?_) (fun cdv A outer s H vs Q E hr h => ?_)
  · obtain ⟨z, rfl, _⟩ := h
    rfl
  obtain ⟨z, rfl, h1, h8, q⟩ := h
  obtain ⟨tL, T_LONGEST_NAME⟩ := Cc.LONGEST
  refine ⟨_, (pss_one (ps_ret (pe_and (pe_callB (isiK K) (by rfl) B.isinstance (by decide +kernel) (pa_cons (pv 0) (pa_cons (pe_bltn (v := .ty "str") rfl B.str (by decide +kernel) rfl) pa_nil))) (pe_one (pe_chain op_le op_le pe_int (pe_callB call_len (by rfl) B.len (by decide +kernel) (pa_cons (pv 0) pa_nil)) (pe_glob rfl T_LONGEST_NAME r_int)))))), ?_⟩
  refine ⟨_, rfl, _, _, _, _, true, rfl, .ty _, .base (.str z), kit_ty (by decide +kernel), _, rfl, iteT ?_⟩
  refine ⟨_, rfl, _, _, rfl, ⟨small300 (by omega), rfl⟩, _, _, rfl, rfl, _, rfl, ?_⟩
  rw [decide_eq_true (show (1 : Int) ≤ ((z.length : Nat) : Int) by omega)]
  refine iteT ⟨_, _, rfl, rfl, ?_⟩
  have d : Q (.bl (decide (((z.length : Nat) : Int) ≤ 8))) H := by
    rw [decide_eq_true (show ((z.length : Nat) : Int) ≤ 8 by omega)]
    exact q
  exact d
abbrev s_is_low : Stmt := top 19
theorem sc_is_low : FnScope ["value", "letter"] ["value"] (defScope s_is_low) := ⟨rfl, rfl, rfl, by decide +kernel, rfl, by decide +kernel, by decide +kernel⟩
def spLow (kw : List V) : Sp := fun vs H Q _ => ∃ z : Str, vs = [.str z] ∧ LowOk kw z ∧ ∀ H', Same H H' → Q (.bl true) H'
theorem ok_is_low {ak : Addr} {kw : List V} (A : At K mg "is_low" s_is_low ["value"]) (B : Bi mg) (Cc : Ct K mg) (W : Kw K mg ak kw) (D__is_word : Has P w K mg base "_is_word" ["value"] 1 spWord) : Has P w K mg base "is_low" ["value"] 2 (spLow kw) := by
  refine .mk A fun f fd F => ?_
  refine F.ok sc_is_low (fun vs H Q E h => ?_) (fun cdv A outer s H vs Q E hr h => ?_)
  · obtain ⟨z, rfl, _⟩ := h
    rfl
  obtain ⟨z, rfl, hz, q⟩ := h
  obtain ⟨f__is_word, fd__is_word, G__is_word, b__is_word, k__is_word, m__is_word⟩ := D__is_word
  obtain ⟨tL, T_LOW_LETTERS⟩ := Cc.LOW
  have T_KEYWORDS := W.m
  refine ⟨_, (pss_one (ps_ret (pe_and (pe_call G__is_word (hr.mono (by decide)) rfl m__is_word k__is_word b__is_word .nil pass0 (pa_cons (pv 0) pa_nil)) (pe_and (pe_callB (cr_all rfl) (by rfl) B.all (by decide +kernel) (pa_cons (pe_lc (own := [("letter", 1)]) (g := gName 1) (tt := tYes) (by rfl) sc_is_low.nd (pi_str (pv 0)) (blkOk_by (N := ["value", "letter"]) (sc := defScope s_is_low) (by decide +kernel)) (fun _ _ _ _ _ => (pg_name (i := 1) sc_is_low.nd rfl (Or.inl rfl))) (fun _ _ _ _ _ => pts_nil) (fun _ _ _ _ _ => (pe_cmpR op_in_sign (pv 1) (pe_glob rfl T_LOW_LETTERS r_str) rfl))) pa_nil)) (pe_one (pe_cmpR (notInS K) (pv 0) (pe_glob rfl T_KEYWORDS r_ref) rfl)))))), ?_⟩
  refine ⟨_, rfl, z, rfl, hz.l1, hz.l8, _, rfl, iteT ?_⟩
  refine ⟨_, rfl, z, rfl, fun D hD => lc_str (AllInv H D) (.start hD) ?_ ?_⟩
  · intro i c H3 hc p
    have hm : c ∈ lowS.cps.toList := hz.all c (by
      rw [← Array.getElem?_toList] at hc
      exact List.mem_of_getElem? hc)
    have hil : i < z.length := (Array.getElem?_eq_some_iff.mp hc).1
    have h8 := hz.l8
    refine ⟨rfl, _, rfl, c, _, rfl, rfl, ?_⟩
    rw [decide_eq_true hm]
    exact p.step hD (by omega)
  · intro H3 p
    refine ⟨D, _, rfl, SqL.of p.2, ?_⟩
    rw [all_rep]
    refine ⟨_, rfl, iteT ⟨_, rfl, ak, kw, rfl, .inr (W.sq _), rfl, W.flat, ?_⟩⟩
    have d : Q (.bl (!inV (.str z) kw)) H3 := by
      rw [hz.kw]
      exact q H3 p.1
    exact d
abbrev s_is_high : Stmt := top 20
theorem sc_is_high : FnScope ["value", "letter"] ["value"] (defScope s_is_high) := ⟨rfl, rfl, rfl, by decide +kernel, rfl, by decide +kernel, by decide +kernel⟩
def spHigh : Sp := fun vs H Q _ => ∃ z : Str, vs = [.str z] ∧ HighOk z ∧ ∀ H', Same H H' → Q (.bl true) H'
theorem ok_is_high (A : At K mg "is_high" s_is_high ["value"]) (B : Bi mg) (Cc : Ct K mg) (D__is_word : Has P w K mg base "_is_word" ["value"] 1 spWord) : Has P w K mg base "is_high" ["value"] 2 spHigh := by
  refine .mk A fun f fd F => ?_
  refine F.ok sc_is_high (fun vs H Q E h => ?_) (fun cdv A outer s H vs Q E hr h => ?_)
  · obtain ⟨z, rfl, _⟩ := h
    rfl
  obtain ⟨z, rfl, hz, q⟩ := h
  obtain ⟨f__is_word, fd__is_word, G__is_word, b__is_word, k__is_word, m__is_word⟩ := D__is_word
  obtain ⟨tL, T_LOW_LETTERS⟩ := Cc.LOW
  obtain ⟨tH, T_HIGH_LETTERS⟩ := Cc.HIGH
  refine ⟨_, (pss_cons (ps_if (PW.pt (pw_or (pt_not (pt_val (pe_call G__is_word (hr.mono (by decide)) rfl m__is_word k__is_word b__is_word .nil pass0 (pa_cons (pv 0) pa_nil)))) (pw_or1 (pt_cmpR op_notIn_sign (pe_ix ix_str (pv 0) pe_int (fun _ _ => rfl)) (pe_glob rfl T_HIGH_LETTERS r_str) rfl)))) (pss_one (ps_ret pe_bl)) pss_nil)
  (pss_one (ps_ret (pe_callB (cr_all rfl) (by rfl) B.all (by decide +kernel) (pa_cons (pe_lc (own := [("letter", 1)]) (g := gName 1) (tt := tYes) (by rfl) sc_is_high.nd (pi_str (pv 0)) (blkOk_by (N := ["value", "letter"]) (sc := defScope s_is_high) (by decide +kernel)) (fun _ _ _ _ _ => (pg_name (i := 1) sc_is_high.nd rfl (Or.inl rfl))) (fun _ _ _ _ _ => pts_nil) (fun _ _ _ _ _ => (pe_or (pe_cmpR op_in_sign (pv 1) (pe_glob rfl T_LOW_LETTERS r_str) rfl) (pe_one (pe_cmpR op_in_sign (pv 1) (pe_glob rfl T_HIGH_LETTERS r_str) rfl))))) pa_nil))))), ?_⟩
  obtain ⟨c0, h0, hm0⟩ := hz.first
  have h8 := hz.l8
  refine ⟨_, rfl, z, rfl, hz.l1, hz.l8, _, rfl, iteF ?_⟩
  refine ⟨_, rfl, _, _, c0, rfl, rfl, small300 (by omega), atI_nat (j := 0) (by rw [Array.getElem?_toList]; exact h0), c0, _, rfl, rfl, _, rfl, ?_⟩
  rw [decide_eq_true hm0]
  refine iteF ?_
  refine ⟨_, rfl, z, rfl, fun D hD => lc_str (AllInv H D) (.start hD) ?_ ?_⟩
  · intro i c H3 hc p
    have hm := hz.all c (by
      rw [← Array.getElem?_toList] at hc
      exact List.mem_of_getElem? hc)
    have hil : i < z.length := (Array.getElem?_eq_some_iff.mp hc).1
    have hstep := p.step hD (show i < 2000 by omega)
    refine ⟨rfl, _, rfl, c, _, rfl, rfl, _, rfl, ?_⟩
    by_cases hl : c ∈ lowS.cps.toList
    · rw [decide_eq_true hl]
      exact iteT hstep
    · rw [decide_eq_false hl]
      refine iteF ⟨_, rfl, c, _, rfl, rfl, ?_⟩
      rw [decide_eq_true (hm.resolve_left hl)]
      exact hstep
  · intro H3 p
    refine ⟨D, _, rfl, SqL.of p.2, ?_⟩
    rw [all_rep]
    exact q H3 p.1
abbrev s_is_arity : Stmt := top 35
theorem sc_is_arity : FnScope ["value"] ["value"] (defScope s_is_arity) := ⟨rfl, rfl, rfl, by decide +kernel, rfl, by decide +kernel, by decide +kernel⟩
def spArity : Sp := fun vs H Q _ => ∃ n : Nat, vs = [.int (n : Int)] ∧ n ≤ 4 ∧ Q (.bl true) H
theorem ok_is_arity (A : At K mg "is_arity" s_is_arity ["value"]) (B : Bi mg) (Cc : Ct K mg) (D_is_integer : Has P w K mg base "is_integer" ["value"] 1 spInt) : Has P w K mg base "is_arity" ["value"] 2 spArity := by
  refine .mk A fun f fd F => ?_
  refine F.ok sc_is_arity (fun vs H Q E h => ?_) (fun cdv A outer s H vs Q E hr h => ?_)
  · obtain ⟨n, rfl, _⟩ := h
    rfl
  obtain ⟨n, rfl, hn, q⟩ := h
  obtain ⟨f_is_integer, fd_is_integer, G_is_integer, b_is_integer, k_is_integer, m_is_integer⟩ := D_is_integer
  obtain ⟨tM, T_MAX_ARITY⟩ := Cc.MAX_ARITY
  refine ⟨_, (pss_one (ps_ret (pe_and (pe_call G_is_integer (hr.mono (by decide)) rfl m_is_integer k_is_integer b_is_integer .nil pass0 (pa_cons (pv 0) pa_nil)) (pe_one (pe_chain op_le op_le pe_int (pv 0) (pe_glob rfl T_MAX_ARITY r_int)))))), ?_⟩
  refine ⟨_, rfl, (n : Int), rfl, by omega, by omega, _, rfl, iteT ⟨_, rfl, _, _, rfl, rfl, _, rfl, ?_⟩⟩
  rw [decide_eq_true (show (0 : Int) ≤ (n : Int) by omega)]
  refine iteT ⟨_, _, rfl, rfl, ?_⟩
  have d : Q (.bl (decide ((n : Int) ≤ 4))) H := by
    rw [decide_eq_true (show (n : Int) ≤ 4 by omega)]
    exact q
  exact d
abbrev s_is_carried : Stmt := top 36
theorem sc_is_carried : FnScope ["value", "arity", "arities", "number"] ["value", "arity", "arities"] (defScope s_is_carried) := ⟨rfl, rfl, rfl, by decide +kernel, rfl, by decide +kernel, by decide +kernel⟩
/-- what is carried: nothing, or a type -/
def CarH (K : PySem.W.Frag) (H : Hp) (c : Option Ty) (v : V) : Prop := match c with
  | none => v = .non
  | some T => TyH K H T v
theorem CarH.mono {K : PySem.W.Frag} {H H' : Hp} (e : Tups K H H') {c : Option Ty} {v : V} (h : CarH K H c v) : CarH K H' c v := by
  cases c with
  | none => exact h
  | some T => exact TyH.mono e (show TyH K H T v from h)
def spCarried (K : PySem.W.Frag) : Sp := fun vs H Q _ => ∃ (c : Option Ty) (v : V) (n : Nat) (b : Addr) (ar : List Nat), vs = [v, .int (n : Int), .ref b] ∧ CarH K H c v ∧ SqT K H b (natV ar) ∧
  (∀ T, c = some T → T.Ok ar ∧ T.sz ≤ 300 ∧ ∀ i, i ∈ T.vars → i < n) ∧ ∀ H', Same H H' → Q (.bl true) H'
theorem ok_is_carried (A : At K mg "is_carried" s_is_carried ["value", "arity", "arities"]) (B : Bi mg) (D_is_shape : Has P w K mg base "is_shape" ["value", "arities"] 5 (spShape K)) (D_variables_in : Has P w K mg base "variables_in" ["T"] 3 (spVars K)) : Has P w K mg base "is_carried" ["value", "arity", "arities"] 6 (spCarried K) := by
  refine .mk A fun f fd F => ?_
  refine F.ok sc_is_carried (fun vs H Q E h => ?_) (fun cdv A outer s H vs Q E hr h => ?_)
  · obtain ⟨c, v, n, b, ar, rfl, _⟩ := h
    rfl
  obtain ⟨c, v, n, b, ar, rfl, hc, hb, ho, q⟩ := h
  obtain ⟨f_is_shape, fd_is_shape, G_is_shape, b_is_shape, k_is_shape, m_is_shape⟩ := D_is_shape
  obtain ⟨f_variables_in, fd_variables_in, G_variables_in, b_variables_in, k_variables_in, m_variables_in⟩ := D_variables_in
  refine ⟨_, (pss_cons (ps_if (pt_cmpR op_isN (pv 0) pe_non (nomark _)) (pss_one (ps_ret pe_bl)) pss_nil)
  (pss_one (ps_ret (pe_and (pe_call G_is_shape (hr.mono (by decide)) rfl m_is_shape k_is_shape b_is_shape .nil pass0 (pa_cons (pv 0) (pa_cons (pv 2) pa_nil))) (pe_one (pe_callB (cr_all rfl) (by rfl) B.all (by decide +kernel) (pa_cons (pe_lc (own := [("number", 3)]) (g := gName 3) (tt := tYes) (by rfl) sc_is_carried.nd (pi_tup (pe_call G_variables_in (hr.mono (by decide)) rfl m_variables_in k_variables_in b_variables_in .nil pass0 (pa_cons (pv 0) pa_nil))) (blkOk_by (N := ["value", "arity", "arities", "number"]) (sc := defScope s_is_carried) (by decide +kernel)) (fun _ _ _ _ _ => (pg_name (i := 3) sc_is_carried.nd rfl (Or.inl rfl))) (fun _ _ _ _ _ => pts_nil) (fun _ _ _ _ _ => (pe_cmpR op_lt (pv 3) (pv 1) (nomark _)))) pa_nil))))))), ?_⟩
  cases c with
  | none =>
    have hv : v = .non := hc
    subst hv
    exact ⟨_, rfl, rfl, _, rfl, iteT (q H (Same.refl _))⟩
  | some T =>
    have hT : TyH K H T v := hc
    obtain ⟨o1, o2, o3⟩ := ho T rfl
    have hT' := hT
    obtain ⟨a, xs, rfl, _⟩ := hT'.out
    refine ⟨_, rfl, rfl, _, rfl, iteF ⟨_, rfl, _, rfl, T, _, b, ar, rfl, hT, o1, o2, hb, fun H2 g2 => ⟨_, rfl, iteT ?_⟩⟩⟩
    refine ⟨_, rfl, T, _, rfl, hT.mono (tups_of g2), by omega, fun H3 p ns g3 hp hmem hl => ?_⟩
    refine ⟨p, rfl, ⟨_, hp⟩, fun D hD => lc_tup (K := K) (a := p) (xs := natV ns) (AllInv H3 D) (.start hD) (fun i H4 _ z => tups_of z.1 _ _ hp) ?_ ?_⟩
    · intro i x H4 hx z
      obtain ⟨m, hm, rfl⟩ := natV_at hx
      have hml := o3 m ((hmem m).mp (List.mem_of_getElem? hm))
      refine ⟨rfl, _, rfl, _, rfl, _, _, rfl, rfl, ?_⟩
      show ∃ acc, H4 D = some (.lst acc) ∧ acc.length < sizeLine ∧ AllInv H3 D (i + 1) (upd H4 D (.lst (acc ++ [V.bl (decide ((m : Int) < (n : Int)))])))
      rw [decide_eq_true (show (m : Int) < (n : Int) by omega)]
      exact z.step hD (by have := lt_of_get hm; omega)
    · intro H4 z
      refine ⟨D, _, rfl, SqL.of z.2, ?_⟩
      rw [all_rep]
      exact q H4 (g2.trans (g3.trans z.1))
end
end Lq
namespace Lq
open PySem L2
structure NRow where
  z : Str
  n : Nat
  ask : Option (List Nat)
  con : Option (Option Ty)
def ConH (K : PySem.W.Frag) (H : Hp) (con : Option (Option Ty)) (v : V) : Prop := match con with
  | none => v = .non
  | some c => ∃ (q b1 b2 : Addr) (cv : V), v = .ref q ∧ SqT K H q [.ref b1, .ref b2] ∧ SqT K H b1 [.str "Box", cv] ∧ SqT K H b2 [.str "No", .non] ∧ CarH K H c cv
def NRowH (K : PySem.W.Frag) (H : Hp) (r : NRow) (v : V) : Prop := ∃ (p : Addr) (av cv : V), v = .ref p ∧ SqT K H p [.str r.z, .int (r.n : Int), av, cv] ∧ AskH K H r.ask av ∧ ConH K H r.con cv
theorem ConH.mono {K : PySem.W.Frag} {H H' : Hp} (e : Tups K H H') {con : Option (Option Ty)} {v : V} (h : ConH K H con v) : ConH K H' con v := by
  cases con with
  | none => exact h
  | some c =>
    obtain ⟨q, b1, b2, cv, h0, h1, h2, h3, h4⟩ := h
    exact ⟨q, b1, b2, cv, h0, e _ _ h1, e _ _ h2, e _ _ h3, h4.mono e⟩
theorem NRowH.mono {K : PySem.W.Frag} {H H' : Hp} (e : Tups K H H') (r : NRow) (v : V) (h : NRowH K H r v) : NRowH K H' r v := by
  obtain ⟨p, av, cv, h1, h2, h3, h4⟩ := h
  exact ⟨p, av, cv, h1, e _ _ h2, h3.mono e, h4.mono e⟩
structure OutOk (kw : List V) (r : NRow) : Prop where
  low : LowOk kw r.z
  n4 : r.n ≤ 4
  asc : ∀ l, r.ask = some l → l.Pairwise (· < ·) ∧ ∀ p ∈ l, p < r.n
def NRow.row (r : NRow) : Row := ⟨r.n, r.ask⟩
theorem NRowH.row {K : PySem.W.Frag} {H : Hp} {r : NRow} {v : V} (h : NRowH K H r v) : RowH K H r.row v := by
  obtain ⟨p, av, cv, h1, h2, h3, _⟩ := h
  exact ⟨p, _, av, cv, h1, h2, h3⟩
theorem box_high : HighOk "Box" := ⟨by decide +kernel, by decide +kernel, ⟨66, by decide +kernel, by decide +kernel⟩, by decide +kernel⟩
theorem no_high : HighOk "No" := ⟨by decide +kernel, by decide +kernel, ⟨78, by decide +kernel, by decide +kernel⟩, by decide +kernel⟩
section
variable {P : Program} {w : World} {K : PySem.W.Frag} {mg : Str → Option Value} {base : Heap} {C : Addr}
abbrev s__is_outline : Stmt := top 37
theorem sc__is_outline : FnScope ["value", "asks", "number"] ["value"] (defScope s__is_outline) := ⟨rfl, rfl, rfl, by decide +kernel, rfl, by decide +kernel, by decide +kernel⟩
def spOutline (K : PySem.W.Frag) (kw : List V) : Sp := fun vs H Q _ => ∃ (v : V) (r : NRow), vs = [v] ∧ NRowH K H r v ∧ OutOk kw r ∧ ∀ H', Same H H' → Q (.bl true) H'
theorem ok_is_outline {kw : List V} (A : At K mg "_is_outline" s__is_outline ["value"]) (B : Bi mg) (D_is_low : Has P w K mg base "is_low" ["value"] 2 (spLow kw)) (D_is_arity : Has P w K mg base "is_arity" ["value"] 2 spArity) (D_is_ascending : Has P w K mg base "is_ascending" ["value"] 4 (spAsc K)) : Has P w K mg base "_is_outline" ["value"] 5 (spOutline K kw) := by
  refine .mk A fun f fd F => ?_
  refine F.ok sc__is_outline (fun vs H Q E h => ?_) (fun cdv A outer s H vs Q E hr h => ?_)
  · obtain ⟨v, r, rfl, _⟩ := h
    rfl
  obtain ⟨v, r, rfl, ⟨p, av, cv, rfl, hp, hav, hcv⟩, ho, q⟩ := h
  obtain ⟨f_is_low, fd_is_low, G_is_low, b_is_low, k_is_low, m_is_low⟩ := D_is_low
  obtain ⟨f_is_arity, fd_is_arity, G_is_arity, b_is_arity, k_is_arity, m_is_arity⟩ := D_is_arity
  obtain ⟨f_is_ascending, fd_is_ascending, G_is_ascending, b_is_ascending, k_is_ascending, m_is_ascending⟩ := D_is_ascending
  refine ⟨_, (pss_cons (ps_if (PW.pt (pw_or (pt_not (pt_val (pe_callB (isiK K) (by rfl) B.isinstance (by decide +kernel) (pa_cons (pv 0) (pa_cons (pe_bltn (v := .ty "tuple") rfl B.tuple (by decide +kernel) rfl) pa_nil))))) (pw_or (pt_cmpR op_ne (pe_callB (lenS K) (by rfl) B.len (by decide +kernel) (pa_cons (pv 0) pa_nil)) pe_int (nomark _)) (pw_or (pt_not (pt_val (pe_call G_is_low (hr.mono (by decide)) rfl m_is_low k_is_low b_is_low .nil pass0 (pa_cons (pe_ix (ixT K) (pv 0) pe_int (fun _ _ => rfl)) pa_nil)))) (pw_or1 (pt_not (pt_val (pe_call G_is_arity (hr.mono (by decide)) rfl m_is_arity k_is_arity b_is_arity .nil pass0 (pa_cons (pe_ix (ixT K) (pv 0) pe_int (fun _ _ => rfl)) pa_nil))))))))) (pss_one (ps_ret pe_bl)) pss_nil)
  (pss_cons (ps_set (i := 1) sc__is_outline.nd rfl (Or.inl rfl) (pe_ix (ixT K) (pv 0) pe_int (fun _ _ => rfl)))
  (pss_one (ps_ret (pe_or (pe_cmpR op_isN (pv 1) pe_non (nomark _)) (pe_one (pe_and (pe_call G_is_ascending (hr.mono (by decide)) rfl m_is_ascending k_is_ascending b_is_ascending .nil pass0 (pa_cons (pv 1) pa_nil)) (pe_one (pe_callB (cr_all rfl) (by rfl) B.all (by decide +kernel) (pa_cons (pe_lc (own := [("number", 2)]) (g := gName 2) (tt := tYes) (by rfl) sc__is_outline.nd (pi_tup (pv 1)) (blkOk_by (N := ["value", "asks", "number"]) (sc := defScope s__is_outline) (by decide +kernel)) (fun _ _ _ _ _ => (pg_name (i := 2) sc__is_outline.nd rfl (Or.inl rfl))) (fun _ _ _ _ _ => pts_nil) (fun _ _ _ _ _ => (pe_cmpR op_lt (pv 2) (pe_ix (ixT K) (pv 0) pe_int (fun _ _ => rfl)) (nomark _)))) pa_nil)))))))))), ?_⟩
  refine ⟨_, rfl, _, _, _, _, true, rfl, .ty _, tyx_tup hp, kit_ty (by decide +kernel), _, rfl, iteF ?_⟩
  refine ⟨_, rfl, p, _, rfl, .inr hp, rfl, _, rfl, iteF ?_⟩
  refine ⟨_, rfl, p, _, _, _, rfl, rfl, hp, atI_nat (j := 0) rfl, r.z, rfl, ho.low, fun H1 g1 => ⟨_, rfl, iteF ?_⟩⟩
  have hp1 := tups_of g1 _ _ hp
  refine ⟨_, rfl, p, _, _, _, rfl, rfl, hp1, atI_nat (j := 1) rfl, r.n, rfl, ho.n4, _, rfl, iteF ?_⟩
  refine ⟨_, rfl, p, _, _, _, rfl, rfl, hp1, atI_nat (j := 2) rfl, ?_⟩
  cases hask : r.ask with
  | none =>
    rw [hask] at hav
    have hav : av = .non := hav
    subst hav
    exact ⟨_, rfl, rfl, _, rfl, iteT (q H1 g1)⟩
  | some l =>
    rw [hask] at hav
    obtain ⟨al, rfl, hl⟩ := hav
    obtain ⟨hasc, hlt⟩ := ho.asc l hask
    have hll : l.length ≤ 4 := Nat.le_trans (len_below r.n l (hasc.imp fun h => Nat.ne_of_lt h) hlt) ho.n4
    refine ⟨_, rfl, rfl, _, rfl, iteF ⟨_, rfl, al, l, rfl, tups_of g1 _ _ hl, fun m hm => ?_, by omega, hasc, fun H2 g2 => ⟨_, rfl, iteT ?_⟩⟩⟩
    · have := hlt m hm
      have := ho.n4
      omega
    have g12 := g1.trans g2
    have hl2 := tups_of g12 _ _ hl
    refine ⟨_, rfl, al, rfl, ⟨_, hl2⟩, fun D hD => lc_tup (K := K) (a := al) (xs := natV l) (AllInv H2 D) (.start hD) (fun i H3 _ z => tups_of z.1 _ _ hl2) ?_ ?_⟩
    · intro i x H3 hx z
      obtain ⟨m, hm, rfl⟩ := natV_at hx
      have hml := hlt m (List.mem_of_getElem? hm)
      refine ⟨rfl, _, rfl, _, rfl, p, _, _, _, rfl, rfl, tups_of (g12.trans z.1) _ _ hp, atI_nat (j := 1) rfl, _, _, rfl, rfl, ?_⟩
      show ∃ acc, H3 D = some (.lst acc) ∧ acc.length < sizeLine ∧ AllInv H2 D (i + 1) (upd H3 D (.lst (acc ++ [V.bl (decide ((m : Int) < (r.n : Int)))])))
      rw [decide_eq_true (show (m : Int) < (r.n : Int) by omega)]
      exact z.step hD (by have := lt_of_get hm; omega)
    · intro H3 z
      refine ⟨D, _, rfl, SqL.of z.2, ?_⟩
      rw [all_rep]
      exact q H3 (g12.trans z.1)
abbrev s_are_constructors : Stmt := top 38
theorem sc_are_constructors : FnScope ["value", "arity", "arities", "pair", "names"] ["value", "arity", "arities"] (defScope s_are_constructors) := ⟨rfl, rfl, rfl, by decide +kernel, rfl, by decide +kernel, by decide +kernel⟩
def spCons (K : PySem.W.Frag) : Sp := fun vs H Q _ => ∃ (c : Option Ty) (v : V) (n : Nat) (b : Addr) (ar : List Nat), vs = [v, .int (n : Int), .ref b] ∧ ConH K H (some c) v ∧ SqT K H b (natV ar) ∧
  (∀ T, c = some T → T.Ok ar ∧ T.sz ≤ 300 ∧ ∀ i, i ∈ T.vars → i < n) ∧ ∀ H', Same H H' → Q (.bl true) H'
theorem ok_are_constructors (A : At K mg "are_constructors" s_are_constructors ["value", "arity", "arities"]) (B : Bi mg) (D_is_high : Has P w K mg base "is_high" ["value"] 2 spHigh) (D_is_carried : Has P w K mg base "is_carried" ["value", "arity", "arities"] 6 (spCarried K)) : Has P w K mg base "are_constructors" ["value", "arity", "arities"] 7 (spCons K) := by
  refine .mk A fun f fd F => ?_
  refine F.ok sc_are_constructors (fun vs H Q E h => ?_) (fun cdv A outer s H vs Q E hr h => ?_)
  · obtain ⟨c, v, n, b, ar, rfl, _⟩ := h
    rfl
  obtain ⟨c, v, n, b, ar, rfl, ⟨p, b1, b2, cv, rfl, hp, hb1, hb2, hc⟩, hb, ho, q⟩ := h
  obtain ⟨f_is_high, fd_is_high, G_is_high, b_is_high, k_is_high, m_is_high⟩ := D_is_high
  obtain ⟨f_is_carried, fd_is_carried, G_is_carried, b_is_carried, k_is_carried, m_is_carried⟩ := D_is_carried
  refine ⟨_, (pss_cons (ps_if (PW.pt (pw_or (pt_not (pt_val (pe_callB (isiK K) (by rfl) B.isinstance (by decide +kernel) (pa_cons (pv 0) (pa_cons (pe_bltn (v := .ty "tuple") rfl B.tuple (by decide +kernel) rfl) pa_nil))))) (pw_or1 (pt_cmpR op_eq (pe_callB (lenS K) (by rfl) B.len (by decide +kernel) (pa_cons (pv 0) pa_nil)) pe_int (nomark _))))) (pss_one (ps_ret pe_bl)) pss_nil)
  (pss_cons (ps_if (pt_not (pt_val (pe_callB (cr_all rfl) (by rfl) B.all (by decide +kernel) (pa_cons (pe_lc (own := [("pair", 3)]) (g := gName 3) (tt := tYes) (by rfl) sc_are_constructors.nd (pi_tup (pv 0)) (blkOk_by (N := ["value", "arity", "arities", "pair", "names"]) (sc := defScope s_are_constructors) (by decide +kernel)) (fun _ _ _ _ _ => (pg_name (i := 3) sc_are_constructors.nd rfl (Or.inl rfl))) (fun _ _ _ _ _ => pts_nil) (fun _ _ _ _ _ => (pe_and (pe_callB (isiK K) (by rfl) B.isinstance (by decide +kernel) (pa_cons (pv 3) (pa_cons (pe_bltn (v := .ty "tuple") rfl B.tuple (by decide +kernel) rfl) pa_nil))) (pe_and (pe_cmpR op_eq (pe_callB (lenS K) (by rfl) B.len (by decide +kernel) (pa_cons (pv 3) pa_nil)) pe_int (nomark _)) (pe_one (pe_call G_is_high (hr.mono (by decide)) rfl m_is_high k_is_high b_is_high .nil pass0 (pa_cons (pe_ix (ixT K) (pv 3) pe_int (fun _ _ => rfl)) pa_nil))))))) pa_nil)))) (pss_one (ps_ret pe_bl)) pss_nil)
  (pss_cons (ps_setLc (i := 4) (own := [("pair", 3)]) (g := gName 3) (tt := tYes) (by rfl) sc_are_constructors.nd rfl rfl (sw_true rfl rfl rfl (by decide +kernel)) (pi_tup (pv 0)) (blkOk_by (N := ["value", "arity", "arities", "pair", "names"]) (sc := defScope s_are_constructors) (by decide +kernel)) (fun _ _ _ _ _ => (pg_name (i := 3) sc_are_constructors.nd rfl (Or.inl rfl))) (fun _ _ _ _ _ => pts_nil) (fun _ _ _ _ _ => (pe_ix (ixT K) (pv 3) pe_int (fun _ _ => rfl))))
  (pss_one (ps_ret (pe_and (pe_cmpR op_eq (pe_lenSetN (by rfl) B.len (by rfl) B.set (pv 4)) (pe_callB (lenS K) (by rfl) B.len (by decide +kernel) (pa_cons (pv 4) pa_nil)) (nomark _)) (pe_one (pe_callB (cr_all rfl) (by rfl) B.all (by decide +kernel) (pa_cons (pe_lc (own := [("pair", 3)]) (g := gName 3) (tt := tYes) (by rfl) sc_are_constructors.nd (pi_tup (pv 0)) (blkOk_by (N := ["value", "arity", "arities", "pair", "names"]) (sc := defScope s_are_constructors) (by decide +kernel)) (fun _ _ _ _ _ => (pg_name (i := 3) sc_are_constructors.nd rfl (Or.inl rfl))) (fun _ _ _ _ _ => pts_nil) (fun _ _ _ _ _ => (pe_call G_is_carried (hr.mono (by decide)) rfl m_is_carried k_is_carried b_is_carried .nil pass0 (pa_cons (pe_ix (ixT K) (pv 3) pe_int (fun _ _ => rfl)) (pa_cons (pv 1) (pa_cons (pv 2) pa_nil)))))) pa_nil))))))))), ?_⟩
  refine ⟨_, rfl, _, _, _, _, true, rfl, .ty _, tyx_tup hp, kit_ty (by decide +kernel), _, rfl, iteF ?_⟩
  refine ⟨_, rfl, p, _, rfl, .inr hp, rfl, _, rfl, iteF ?_⟩
  -- what stands at the places of the two pairs
  have two : ∀ (i : Nat) (x : V), [V.ref b1, V.ref b2][i]? = some x → ∃ (bi : Addr) (z : Str) (u : V) (ci : Option Ty), x = .ref bi ∧ HighOk z ∧ [("Box" : Str), "No"][i]? = some z ∧ SqT K H bi [.str z, u] ∧ CarH K H ci u ∧ (∀ T, ci = some T → c = some T) := by
    intro i x hx
    match i, hx with
    | 0, hx =>
      cases hx
      exact ⟨b1, "Box", cv, c, rfl, box_high, rfl, hb1, hc, fun T h => h⟩
    | 1, hx =>
      cases hx
      exact ⟨b2, "No", .non, none, rfl, no_high, rfl, hb2, rfl, fun T h => nomatch h⟩
  refine ⟨_, rfl, p, rfl, ⟨_, hp⟩, fun D hD => lc_tup (K := K) (a := p) (xs := [V.ref b1, V.ref b2]) (AllInv H D) (.start hD) (fun i H3 _ z => tups_of z.1 _ _ hp) ?_ ?_⟩
  · intro i x H3 hx z
    have hi2 : i < 2 := lt_of_get hx
    obtain ⟨bi, zi, u, ci, rfl, hz, _, hbi, _⟩ := two i x hx
    have hb3 := tups_of z.1 _ _ hbi
    refine ⟨rfl, _, rfl, _, _, _, _, true, rfl, .ty _, tyx_tup hb3, kit_ty (by decide +kernel), _, rfl, iteT ?_⟩
    refine ⟨_, rfl, bi, _, rfl, .inr hb3, rfl, _, rfl, iteT ?_⟩
    exact ⟨_, rfl, bi, _, _, _, rfl, rfl, hb3, atI_nat (j := 0) rfl, zi, rfl, hz, fun H4 g4 => (z.call g4).step hD (by omega)⟩
  · intro H3 z
    refine ⟨D, _, rfl, SqL.of z.2, ?_⟩
    rw [all_rep]
    refine ⟨_, rfl, iteF ?_⟩
    have g3 := z.1
    have hp3 := tups_of g3 _ _ hp
    refine ⟨_, rfl, p, rfl, ⟨_, hp3⟩, fun D2 hD2 => lc_tup (K := K) (a := p) (xs := [V.ref b1, V.ref b2]) (fun i H4 => Same H3 H4 ∧ H4 D2 = some (.lst (([("Box" : Str), "No"].take i).map V.str))) ⟨same_upd hD2 _, upd_same⟩ (fun i H4 _ y => tups_of y.1 _ _ hp3) ?_ ?_⟩
    · rintro i x H4 hx ⟨g4, h4⟩
      have hi2 : i < 2 := lt_of_get hx
      obtain ⟨bi, zi, u, ci, rfl, hz, hzi, hbi, _⟩ := two i x hx
      refine ⟨rfl, _, rfl, bi, _, _, _, rfl, rfl, tups_of (g3.trans g4) _ _ hbi, atI_nat (j := 0) rfl, _, h4, by rw [List.length_map, List.length_take]; exact small1000 (by omega), same_set g4 hD2 _, ?_⟩
      rw [upd_same, take_snoc hzi, List.map_append]
      rfl
    · rintro H4 ⟨g4, h4⟩
      have h4 : H4 D2 = some (.lst ([("Box" : Str), "No"].map V.str)) := h4
      have g34 := g3.trans g4
      have hp4 := tups_of g34 _ _ hp
      refine ⟨_, rfl, D2, [("Box" : Str), "No"], rfl, SqL.of h4, by decide +kernel, by decide, _, rfl, D2, _, rfl, .inl (SqL.of h4), rfl, _, rfl, iteT ?_⟩
      refine ⟨_, rfl, p, rfl, ⟨_, hp4⟩, fun D3 hD3 => lc_tup (K := K) (a := p) (xs := [V.ref b1, V.ref b2]) (AllInv H4 D3) (.start hD3) (fun i H5 _ y => tups_of y.1 _ _ hp4) ?_ ?_⟩
      · intro i x H5 hx y
        have hi2 : i < 2 := lt_of_get hx
        obtain ⟨bi, zi, u, ci, rfl, hz, hzi, hbi, hcu, hcc⟩ := two i x hx
        have g5 := g34.trans y.1
        exact ⟨rfl, _, rfl, bi, _, _, _, rfl, rfl, tups_of g5 _ _ hbi, atI_nat (j := 1) rfl, _, rfl, _, rfl, ci, u, n, b, ar, rfl, hcu.mono (tups_of g5), tups_of g5 _ _ hb, fun T hT => ho T (hcc T hT), fun H6 g6 => (y.call g6).step hD3 (by omega)⟩
      · intro H5 y
        refine ⟨D3, _, rfl, SqL.of y.2, ?_⟩
        rw [all_rep]
        exact q H5 (g34.trans y.1)
end
end Lq
namespace Lq
open PySem L2
theorem bf_eq (r q : Addr) : bf r q = ([("_rows", V.ref r), ("arities", V.ref q)] : List (Str × V)) := by
  show (if ("_rows" : Str) = "arities" then [(("_rows" : Str), V.ref q)] else (("_rows" : Str), V.ref r) :: putF "arities" (V.ref q) []) = ([("_rows", V.ref r), ("arities", V.ref q)] : List (Str × V))
  rw [if_neg ar_]
  all_goals rfl
theorem bf_put_rows (r q t : Addr) : putF "_rows" (.ref t) (bf r q) = bf t q := by
  rw [bf_eq, bf_eq]
  show (if ("_rows" : Str) = "_rows" then (("_rows" : Str), V.ref t) :: [(("arities" : Str), V.ref q)] else _) = ([("_rows", V.ref t), ("arities", V.ref q)] : List (Str × V))
  rw [if_pos rfl]
theorem bf_put_ar (r q t : Addr) : putF "arities" (.ref t) (bf r q) = bf r t := by
  rw [bf_eq, bf_eq]
  show (if ("_rows" : Str) = "arities" then _ else (("_rows" : Str), V.ref r) :: (if ("arities" : Str) = "arities" then [(("arities" : Str), V.ref t)] else _)) = ([("_rows", V.ref r), ("arities", V.ref t)] : List (Str × V))
  rw [if_neg ar_, if_pos rfl]
theorem tups_ins {K : PySem.W.Frag} {H : Hp} {t C dx : Addr} {fs : List (Str × V)} (h : H t = some (.ins C dx fs)) (o : HO) : Tups K H (upd H t o) := by
  intro a ys q
  rcases q with (q | ⟨u, q⟩) | q
  · exact .inl (.inl (by rw [upd_ne (ne_of q h (by intro z; cases z))]; exact q))
  · exact .inl (.inr ⟨u, by rw [upd_ne (ne_of q h (by intro z; cases z))]; exact q⟩)
  · exact .inr q
def firstRows : List Row := [⟨0, some []⟩, ⟨0, some []⟩, ⟨0, some []⟩, ⟨0, none⟩, ⟨1, some [0]⟩, ⟨1, some []⟩]
structure Fr (K : PySem.W.Frag) (mg : Str → Option Value) (a0 : Addr) (rs0 : List V) : Prop where
  m : mg "FIRST_ROWS" = some (.ref a0)
  sq : ∀ H, SqT K H a0 rs0
  all : ∀ H, All2 (RowH K H) firstRows rs0
theorem natV_app (a b : List Nat) : natV (a ++ b) = natV a ++ natV b := List.map_append
theorem arOf_app (a b : List Row) : arOf (a ++ b) = arOf a ++ arOf b := List.map_append
theorem All2.rows {K : PySem.W.Frag} {H : Hp} : ∀ {nrs : List NRow} {vs : List V}, All2 (NRowH K H) nrs vs → All2 (RowH K H) (nrs.map NRow.row) vs
  | [], _, h => h
  | r :: rs, _, h => by
    obtain ⟨x, ys, rfl, h1, h2⟩ := h
    exact ⟨x, ys, rfl, h1.row, All2.rows h2⟩
/-- behind i turns of [row[1] for row in ..] -/
def ArInv (rws : List Row) (H1 : Hp) (D : Addr) (i : Nat) (H : Hp) : Prop := Same H1 H ∧ H D = some (.lst (natV (arOf (rws.take i))))
theorem ArInv.step {rws : List Row} {H1 H : Hp} {D : Addr} {i : Nat} {row : Row} (hD : H1 D = none) (h : ArInv rws H1 D i H) (e : rws[i]? = some row) (hi : i < 900) :
    ∃ acc, H D = some (.lst acc) ∧ acc.length < sizeLine ∧ ArInv rws H1 D (i + 1) (upd H D (.lst (acc ++ [.int (row.n : Int)]))) := by
  refine ⟨_, h.2, ?_, same_set h.1 hD _, ?_⟩
  · rw [natV_len]
    unfold arOf
    rw [List.length_map, List.length_take]
    exact small1000 (by omega)
  · rw [upd_same, take_snoc e, arOf_app, natV_app]
    rfl
section
variable {P : Program} {w : World} {K : PySem.W.Frag} {mg : Str → Option Value} {base : Heap} {C : Addr}
abbrev s_Book___init__ : Stmt := inClass (top 39) 0
theorem sc_Book___init__ : FnScope ["self", "row"] ["self"] (defScope s_Book___init__) := ⟨rfl, rfl, rfl, by decide +kernel, rfl, by decide +kernel, by decide +kernel⟩
def spInit (K : PySem.W.Frag) (C a0 : Addr) : Sp := fun vs H Q _ => ∃ (H0 : Hp) (p dx : Addr), vs = [.ref p] ∧ Same H0 H ∧ H0 p = none ∧ H p = some (.ins C dx []) ∧
  ∀ (H' : Hp) (q : Addr), Same H0 H' → H' p = some (.ins C dx (bf a0 q)) → SqT K H' q (natV (arOf firstRows)) → Q .non H'
theorem ok_init {f a0 : Addr} {fd : FuncData} {rs0 : List V} (F : Fun K "__init__" "Book.__init__" s_Book___init__ f fd) (B : Bi mg) (T : Bk K mg C) (R : Fr K mg a0 rs0) : FnOk P w K mg base CX0 1 f fd ["self"] (spInit K C a0) := by
  refine F.ok sc_Book___init__ (fun vs H Q E h => ?_) (fun cdv A outer s H vs Q E hr h => ?_)
  · obtain ⟨H0, p, dx, rfl, _⟩ := h
    rfl
  obtain ⟨H0, p, dx, rfl, s0, p0, hp, q⟩ := h
  have T_FIRST_ROWS := R.m
  refine ⟨_, (pss_cons (ps_fld (pv 0) (pe_glob rfl T_FIRST_ROWS r_ref) rfl)
  (pss_one (ps_fld (pv 0) (pe_callTy call_tuple_of (by rfl) B.tuple (by decide +kernel) (pa_cons (pe_lc (own := [("row", 1)]) (g := gName 1) (tt := tYes) (by rfl) sc_Book___init__.nd (pi_tup (pe_glob rfl T_FIRST_ROWS r_ref)) (blkOk_by (N := ["self", "row"]) (sc := defScope s_Book___init__) (by decide +kernel)) (fun _ _ _ _ _ => (pg_name (i := 1) sc_Book___init__.nd rfl (Or.inl rfl))) (fun _ _ _ _ _ => pts_nil) (fun _ _ _ _ _ => (pe_ix (ixT K) (pv 1) pe_int (fun _ _ => rfl)))) pa_nil)) rfl))), ?_⟩
  refine ⟨_, rfl, p, C, dx, [], rfl, hp, T.cl, T.nR, (by show 0 < 1000; decide), ?_⟩
  have g1 : Same H0 (upd H p (.ins C dx (putF "_rows" (.ref a0) []))) := same_set s0 p0 _
  refine ⟨a0, rfl, ⟨_, R.sq _⟩, fun D hD => lc_tup (K := K) (a := a0) (xs := rs0) (ArInv firstRows _ D) ⟨same_upd hD _, upd_same⟩ (fun i H3 _ _ => R.sq _) ?_ ?_⟩
  · intro i x H3 hx z
    have hlen := (R.all H3).len
    have hil := lt_of_get hx
    have h6 : firstRows.length = 6 := rfl
    obtain ⟨row, hrow⟩ : ∃ row, firstRows[i]? = some row := ⟨firstRows[i]'(by omega), List.getElem?_eq_getElem _⟩
    obtain ⟨y, hy, hyR⟩ := (R.all H3).get hrow
    rw [hx] at hy
    cases hy
    obtain ⟨pr, zz, av, cv, rfl, hpr, _⟩ := hyR
    exact ⟨rfl, _, rfl, pr, _, _, _, rfl, rfl, hpr, atI_nat (j := 1) rfl, z.step hD hrow (by omega)⟩
  · rintro H3 ⟨g3, h3⟩
    have hlen := (R.all H3).len
    rw [hlen, List.take_length] at h3
    refine ⟨D, _, rfl, .inl ⟨SqL.of h3, fun q1 hq1 => ?_⟩⟩
    have h3p : H3 p = some (.ins C dx (putF "_rows" (.ref a0) [])) := g3 _ _ upd_same
    have g4 := same_upd hq1 (.tup (natV (arOf firstRows)))
    refine ⟨_, rfl, p, C, dx, _, rfl, g4 _ _ h3p, T.cl, T.nA, (by show 1 < 1000; decide), ?_⟩
    refine q _ q1 (same_set (g1.trans (g3.trans g4)) p0 _) upd_same ?_
    exact tups_ins (g4 _ _ h3p) _ _ _ sq_new
abbrev s_Book__extended : Stmt := inClass (top 39) 7
theorem sc_Book__extended : FnScope ["self", "rows", "book", "row"] ["self", "rows"] (defScope s_Book__extended) := ⟨rfl, rfl, rfl, by decide +kernel, rfl, by decide +kernel, by decide +kernel⟩
def spExt (K : PySem.W.Frag) (C : Addr) : Sp := fun vs H Q _ => ∃ (b : V) (a : Addr) (rows : List Row) (nrs : List NRow) (ws : List V), vs = [b, .ref a] ∧ BookH K C H rows b ∧ SqT K H a ws ∧ All2 (NRowH K H) nrs ws ∧ rows.length ≤ 400 ∧ nrs.length ≤ 400 ∧
  ∀ (H' : Hp) (t : Addr) (bv tv : V), Same H H' → SqT K H' t [bv, tv] → BookH K C H' (rows ++ nrs.map NRow.row) bv → Q (.ref t) H'
theorem ok_extended {a0 f_init : Addr} {fd_init : FuncData} {rs0 : List V} (A : AtM K C "_extended" "Book._extended" s_Book__extended ["self", "rows"]) (B : Bi mg) (T : Bk K mg C) (R : Fr K mg a0 rs0) (M_Book : Mk K C f_init)
    (G_init : FnOk P w K mg base CX0 1 f_init fd_init ["self"] (spInit K C a0)) (b_init : Binds K fd_init ["self"] []) : HasM P w K mg base C "_extended" ["self", "rows"] 3 (spExt K C) := by
  refine .mk A fun f fd F => ?_
  refine F.ok sc_Book__extended (fun vs H Q E h => ?_) (fun cdv A outer s H vs Q E hr h => ?_)
  · obtain ⟨b, a, rows, nrs, ws, rfl, _⟩ := h
    rfl
  obtain ⟨b, a, rows, nrs, ws, rfl, ⟨b', dxb, r, q', rs, rfl, hb, hrr, hra, hrq⟩, hS, hA, hl1, hl2, q⟩ := h
  refine ⟨_, (pss_cons (ps_set (i := 2) sc_Book__extended.nd rfl (Or.inl rfl) (pe_make0 M_Book G_init (hr.mono (by decide)) rfl T.mgC b_init .nil pass0))
  (pss_cons (ps_fld (pv 2) (pe_tup (StX.pa_star (pe_fld (pv 0) rfl) (StX.pa_star (pv 1) pa_nil))) rfl)
  (pss_cons (ps_fld (pv 2) (pe_tup (StX.pa_star (pe_fld (pv 0) rfl) (StX.pa_star (pe_lc (own := [("row", 3)]) (g := gName 3) (tt := tYes) (by rfl) sc_Book__extended.nd (pi_tup (pv 1)) (blkOk_by (N := ["self", "rows", "book", "row"]) (sc := defScope s_Book__extended) (by decide +kernel)) (fun _ _ _ _ _ => (pg_name (i := 3) sc_Book__extended.nd rfl (Or.inl rfl))) (fun _ _ _ _ _ => pts_nil) (fun _ _ _ _ _ => (pe_ix (ixT K) (pv 3) pe_int (fun _ _ => rfl)))) pa_nil))) rfl)
  (pss_one (ps_ret (pe_tup (pa_cons (pv 2) (pa_cons (pe_tupRg rfl (by rfl) B.tuple (prg_2 (by rfl) B.range (pe_op op_add (pe_callB (lenS K) (by rfl) B.len (by decide +kernel) (pa_cons (pe_fld (pv 0) rfl) pa_nil)) pe_int) (pe_op op_add (pe_callB (lenS K) (by rfl) B.len (by decide +kernel) (pa_cons (pe_fld (pv 2) rfl) pa_nil)) pe_int))) pa_nil)))))))), ?_⟩
  intro x dx nx ndx nex
  have s0 : Same H (upd (upd H dx (.own x)) x (.ins C dx [])) := fun c o e => by
    rw [upd_ne (ne_of_none e nx), upd_ne (ne_of_none e ndx)]
    exact e
  refine ⟨H, x, dx, rfl, s0, nx, upd_same, fun H1 q1 g1 hx1 _ => ⟨rfl, ?_⟩⟩
  have e1 : ws ++ [] = ws := List.append_nil ws
  have hrl := hra.len
  have hwl := hA.len
  have hb1 := g1 _ _ hb
  refine ⟨_, rfl, b', C, dxb, _, _, rfl, hb1, T.cl, T.nR, bf_rows _ _, r, rs, rfl, .inl (tups_of g1 _ _ hrr), _, rfl, a, ws, rfl, .inl (tups_of g1 _ _ hS), ?_, fun t1 ht1 => ?_⟩
  · rw [e1, List.length_append]
    exact small300 (by omega)
  have g2 := same_upd ht1 (.tup (rs ++ (ws ++ [])))
  have hx2 := g2 _ _ hx1
  refine ⟨_, rfl, x, C, dx, _, rfl, hx2, T.cl, T.nR, (by rw [bf_eq]; show 2 < 1000; decide), ?_⟩
  rw [bf_put_rows]
  have g3 : Same H _ := same_set (g1.trans g2) nx (.ins C dx (bf t1 q1))
  have t23 : Tups K (upd H1 t1 (.tup (rs ++ (ws ++ [])))) _ := tups_ins hx2 (.ins C dx (bf t1 q1))
  have ht1' : SqT K (upd (upd H1 t1 (.tup (rs ++ (ws ++ [])))) x (.ins C dx (bf t1 q1))) t1 (rs ++ ws) := by
    have e : rs ++ (ws ++ []) = rs ++ ws := by rw [e1]
    exact (congrArg (SqT K _ t1) e).mp (t23 _ _ (sq_new (K := K) (H := H1) (p := t1) (xs := rs ++ (ws ++ []))))
  have hx3 : upd (upd H1 t1 (.tup (rs ++ (ws ++ [])))) x (.ins C dx (bf t1 q1)) x = some (.ins C dx (bf t1 q1)) := upd_same
  generalize upd (upd H1 t1 (.tup (rs ++ (ws ++ [])))) x (.ins C dx (bf t1 q1)) = H3 at g3 ht1' hx3
  have hA3 := (hA.mono (NRowH.mono (tups_of g3))).rows
  have hS3 := tups_of g3 _ _ hS
  refine ⟨_, rfl, b', C, dxb, _, _, rfl, g3 _ _ hb, T.cl, T.nA, bf_ar _ _, q', natV (arOf rows), rfl, .inl (tups_of g3 _ _ hrq), ?_⟩
  refine ⟨_, rfl, a, rfl, ⟨_, hS3⟩, fun D hD => lc_tup (K := K) (a := a) (xs := ws) (ArInv (nrs.map NRow.row) H3 D) ⟨same_upd hD _, upd_same⟩ (fun i H4 _ z => tups_of z.1 _ _ hS3) ?_ ?_⟩
  · intro i y H4 hy z
    have hil := lt_of_get hy
    have hlen := hA3.len
    obtain ⟨row, hrow⟩ : ∃ row, (nrs.map NRow.row)[i]? = some row := ⟨(nrs.map NRow.row)[i]'(by omega), List.getElem?_eq_getElem _⟩
    obtain ⟨y', hy', hyR⟩ := hA3.get hrow
    rw [hy] at hy'
    cases hy'
    obtain ⟨pr, zz, av, cv, rfl, hpr, _⟩ := hyR
    exact ⟨rfl, _, rfl, pr, _, _, _, rfl, rfl, tups_of z.1 _ _ hpr, atI_nat (j := 1) rfl, z.step hD hrow (by omega)⟩
  · rintro H4 ⟨g4, h4⟩
    have hfull : (nrs.map NRow.row).take ws.length = nrs.map NRow.row := List.take_of_length_le (by rw [List.length_map]; omega)
    rw [hfull] at h4
    have g34 := g3.trans g4
    have hal : (arOf rows).length = rows.length := List.length_map _
    have hal2 : (arOf (nrs.map NRow.row)).length = nrs.length := (List.length_map _).trans (List.length_map _)
    refine ⟨D, _, rfl, .inr (SqL.of h4), ?_, fun t2 ht2 => ?_⟩
    · rw [List.append_nil, List.length_append, natV_len, natV_len]
      exact small300 (by omega)
    have g5 := same_upd ht2 (.tup (natV (arOf rows) ++ (natV (arOf (nrs.map NRow.row)) ++ [])))
    have hx5 := g5 _ _ (g4 _ _ hx3)
    refine ⟨_, rfl, x, C, dx, _, rfl, hx5, T.cl, T.nA, (by rw [bf_eq]; show 2 < 1000; decide), ?_⟩
    rw [bf_put_ar]
    have t56 : Tups K _ _ := tups_ins (K := K) hx5 (.ins C dx (bf t1 t2))
    have ht2' := t56 _ _ (sq_new (K := K) (H := H4) (p := t2) (xs := natV (arOf rows) ++ (natV (arOf (nrs.map NRow.row)) ++ [])))
    have e2 : natV (arOf rows) ++ (natV (arOf (nrs.map NRow.row)) ++ []) = natV (arOf (rows ++ nrs.map NRow.row)) := by
      rw [List.append_nil, ← natV_app, ← arOf_app]
    replace ht2' := (congrArg (SqT K _ t2) e2).mp ht2'
    have t36 : Tups K H3 _ := ((tups_of g4).trans (tups_of g5)).trans t56
    have g6 : Same H _ := same_set (g34.trans g5) nx (.ins C dx (bf t1 t2))
    have hx6 : upd (upd H4 t2 (.tup (natV (arOf rows) ++ (natV (arOf (nrs.map NRow.row)) ++ [])))) x (.ins C dx (bf t1 t2)) x = some (.ins C dx (bf t1 t2)) := upd_same
    generalize upd (upd H4 t2 (.tup (natV (arOf rows) ++ (natV (arOf (nrs.map NRow.row)) ++ [])))) x (.ins C dx (bf t1 t2)) = H6 at ht2' t36 g6 hx6
    have hbook : BookH K C H6 (rows ++ nrs.map NRow.row) (.ref x) := ⟨x, dx, t1, t2, rs ++ ws, rfl, hx6, t36 _ _ ht1', ((hra.mono (RowH.mono (tups_of g6))).app (hA.mono (NRowH.mono (tups_of g6))).rows), ht2'⟩
    refine ⟨_, rfl, _, rfl, b', C, dxb, _, _, rfl, g6 _ _ hb, T.cl, T.nR, bf_rows _ _, r, rs, rfl, .inr (tups_of g6 _ _ hrr), _, _, rfl, rfl, ?_⟩
    refine ⟨_, rfl, x, C, dx, _, _, rfl, hx6, T.cl, T.nR, bf_rows _ _, t1, rs ++ ws, rfl, .inr (t36 _ _ ht1'), _, _, rfl, rfl, _, _, rfl, rfl, RgOk.of_le (by omega) (by rw [List.length_append]; omega) (by omega) (by omega), fun t3 ht3 => ?_⟩
    have g7 := same_upd ht3 (.tup (rgV (((rs.length : Nat) : Int) + 1) ((((rs ++ ws).length : Nat) : Int) + 1)))
    refine ⟨by show 2 ≤ sizeLine; decide, fun t4 ht4 => ?_⟩
    have g8 := same_upd ht4 (.tup [V.ref x, V.ref t3])
    exact q _ t4 _ _ (g6.trans (g7.trans g8)) sq_new (hbook.mono (g7.trans g8))
end
end Lq
namespace Lq
open PySem L2
theorem All2.mem {α : Type} {R : α → V → Prop} : ∀ {es : List α} {xs : List V}, All2 R es xs → ∀ {i : Nat} {x : V}, xs[i]? = some x → ∃ e, es[i]? = some e ∧ R e x
  | [], _, h, i, x, e => by rw [show _ = [] from h] at e; cases e
  | a :: r, _, h, 0, x, he => by
    obtain ⟨y, ys, rfl, h1, _⟩ := h
    cases he
    exact ⟨a, rfl, h1⟩
  | a :: r, _, h, i + 1, x, he => by
    obtain ⟨y, ys, rfl, _, h2⟩ := h
    exact All2.mem h2 he
section
variable {P : Program} {w : World} {K : PySem.W.Frag} {mg : Str → Option Value} {base : Heap} {C : Addr}
abbrev s_Book_with_stamps : Stmt := inClass (top 39) 6
theorem sc_Book_with_stamps : FnScope ["self", "rows", "row", "arities"] ["self", "rows"] (defScope s_Book_with_stamps) := ⟨rfl, rfl, rfl, by decide +kernel, rfl, by decide +kernel, by decide +kernel⟩
def ConOk (ar : List Nat) (r : NRow) : Prop := ∀ T, r.con = some (some T) → T.Ok ar ∧ T.sz ≤ 300 ∧ ∀ i, i ∈ T.vars → i < r.n
def spStamps (K : PySem.W.Frag) (C : Addr) (kw : List V) : Sp := fun vs H Q _ => ∃ (b : V) (a : Addr) (rows : List Row) (nrs : List NRow) (ws : List V), vs = [b, .ref a] ∧ BookH K C H rows b ∧ SqT K H a ws ∧ All2 (NRowH K H) nrs ws ∧ rows.length ≤ 400 ∧ nrs.length ≤ 400 ∧
  (∀ r ∈ nrs, OutOk kw r ∧ ConOk (arOf (rows ++ nrs.map NRow.row)) r) ∧
  ∀ (H' : Hp) (t : Addr) (bv tv : V), Same H H' → SqT K H' t [bv, tv] → BookH K C H' (rows ++ nrs.map NRow.row) bv → Q (.ref t) H'
theorem ok_with_stamps {kw : List V} (A : AtM K C "with_stamps" "Book.with_stamps" s_Book_with_stamps ["self", "rows"]) (B : Bi mg) (T : Bk K mg C) (D__is_outline : Has P w K mg base "_is_outline" ["value"] 5 (spOutline K kw)) (D_are_constructors : Has P w K mg base "are_constructors" ["value", "arity", "arities"] 7 (spCons K)) (DM__extended : HasM P w K mg base C "_extended" ["self", "rows"] 3 (spExt K C)) : HasM P w K mg base C "with_stamps" ["self", "rows"] 8 (spStamps K C kw) := by
  refine .mk A fun f fd F => ?_
  refine F.ok sc_Book_with_stamps (fun vs H Q E h => ?_) (fun cdv A outer s H vs Q E hr h => ?_)
  · obtain ⟨b, a, rows, nrs, ws, rfl, _⟩ := h
    rfl
  obtain ⟨b, a, rows, nrs, ws, rfl, hB, hS, hA, hl1, hl2, hok, q⟩ := h
  obtain ⟨f__is_outline, fd__is_outline, G__is_outline, b__is_outline, k__is_outline, m__is_outline⟩ := D__is_outline
  obtain ⟨f_are_constructors, fd_are_constructors, G_are_constructors, b_are_constructors, k_are_constructors, m_are_constructors⟩ := D_are_constructors
  obtain ⟨fm__extended, fdm__extended, GM__extended, bm__extended, mm__extended⟩ := DM__extended
  refine ⟨_, (pss_cons (ps_if (PW.pt (pw_or (pt_not (pt_val (pe_callB (isiK K) (by rfl) B.isinstance (by decide +kernel) (pa_cons (pv 1) (pa_cons (pe_bltn (v := .ty "tuple") rfl B.tuple (by decide +kernel) rfl) pa_nil))))) (pw_or1 (pt_not (pt_val (pe_callB (cr_all rfl) (by rfl) B.all (by decide +kernel) (pa_cons (pe_lc (own := [("row", 2)]) (g := gName 2) (tt := tYes) (by rfl) sc_Book_with_stamps.nd (pi_tup (pv 1)) (blkOk_by (N := ["self", "rows", "row", "arities"]) (sc := defScope s_Book_with_stamps) (by decide +kernel)) (fun _ _ _ _ _ => (pg_name (i := 2) sc_Book_with_stamps.nd rfl (Or.inl rfl))) (fun _ _ _ _ _ => pts_nil) (fun _ _ _ _ _ => (pe_call G__is_outline (hr.mono (by decide)) rfl m__is_outline k__is_outline b__is_outline .nil pass0 (pa_cons (pv 2) pa_nil)))) pa_nil))))))) (pss_one ps_never) pss_nil)
  (pss_cons (ps_set (i := 3) sc_Book_with_stamps.nd rfl (Or.inr rfl) (pe_tup (StX.pa_star (pe_fld (pv 0) rfl) (StX.pa_star (pe_lc (own := [("row", 2)]) (g := gName 2) (tt := tYes) (by rfl) sc_Book_with_stamps.nd (pi_tup (pv 1)) (blkOk_by (N := ["self", "rows", "row", "arities"]) (sc := defScope s_Book_with_stamps) (by decide +kernel)) (fun _ _ _ _ _ => (pg_name (i := 2) sc_Book_with_stamps.nd rfl (Or.inl rfl))) (fun _ _ _ _ _ => pts_nil) (fun _ _ _ _ _ => (pe_ix (ixT K) (pv 2) pe_int (fun _ _ => rfl)))) pa_nil))))
  (pss_cons (ps_if (pt_not (pt_val (pe_callB (cr_all rfl) (by rfl) B.all (by decide +kernel) (pa_cons (pe_lc (own := [("row", 2)]) (g := gName 2) (tt := tYes) (by rfl) sc_Book_with_stamps.nd (pi_tup (pv 1)) (blkOk_by (N := ["self", "rows", "row", "arities"]) (sc := defScope s_Book_with_stamps) (by decide +kernel)) (fun _ _ _ _ _ => (pg_name (i := 2) sc_Book_with_stamps.nd rfl (Or.inl rfl))) (fun _ _ _ _ _ => pts_nil) (fun _ _ _ _ _ => (pe_or (pe_cmpR op_isN (pe_ix (ixT K) (pv 2) pe_int (fun _ _ => rfl)) pe_non (nomark _)) (pe_one (pe_call G_are_constructors (hr.mono (by decide)) rfl m_are_constructors k_are_constructors b_are_constructors .nil pass0 (pa_cons (pe_ix (ixT K) (pv 2) pe_int (fun _ _ => rfl)) (pa_cons (pe_ix (ixT K) (pv 2) pe_int (fun _ _ => rfl)) (pa_cons (pv 3) pa_nil)))))))) pa_nil)))) (pss_one ps_never) pss_nil)
  (pss_one (ps_ret (pe_meth (pv 0) T.cl mm__extended GM__extended (hr.mono (by decide)) bm__extended .nil pass0 (pa_cons (pv 1) pa_nil))))))), ?_⟩
  have hwl := hA.len
  have hB' := hB
  obtain ⟨b', dxb, r, q', rs, rfl, hb, hrr, hra, hrq⟩ := hB'
  refine ⟨_, rfl, _, _, _, _, true, rfl, .ty _, tyx_tup hS, kit_ty (by decide +kernel), _, rfl, iteF ?_⟩
  refine ⟨_, rfl, a, rfl, ⟨_, hS⟩, fun D hD => lc_tup (K := K) (a := a) (xs := ws) (AllInv H D) (.start hD) (fun i H3 _ z => tups_of z.1 _ _ hS) ?_ ?_⟩
  · intro i x H3 hx z
    have hil := lt_of_get hx
    obtain ⟨nr, hnr, hxR⟩ := hA.mem hx
    obtain ⟨ho, _⟩ := hok nr (List.mem_of_getElem? hnr)
    exact ⟨rfl, _, rfl, x, nr, rfl, hxR.mono (tups_of z.1), ho, fun H4 g4 => (z.call g4).step hD (by omega)⟩
  · intro H3 z
    have g3 := z.1
    refine ⟨D, _, rfl, SqL.of z.2, ?_⟩
    rw [all_rep]
    refine ⟨_, rfl, iteF ?_⟩
    have hS3 := tups_of g3 _ _ hS
    have hA3 := (hA.mono (NRowH.mono (tups_of g3))).rows
    refine ⟨_, rfl, b', C, dxb, _, _, rfl, g3 _ _ hb, T.cl, T.nA, bf_ar _ _, q', natV (arOf rows), rfl, .inl (tups_of g3 _ _ hrq), ?_⟩
    refine ⟨_, rfl, a, rfl, ⟨_, hS3⟩, fun D2 hD2 => lc_tup (K := K) (a := a) (xs := ws) (ArInv (nrs.map NRow.row) H3 D2) ⟨same_upd hD2 _, upd_same⟩ (fun i H4 _ y => tups_of y.1 _ _ hS3) ?_ ?_⟩
    · intro i y H4 hy z
      have hil := lt_of_get hy
      obtain ⟨row, hrow, hyR⟩ := hA3.mem hy
      obtain ⟨pr, zz, av, cv, rfl, hpr, _⟩ := hyR
      exact ⟨rfl, _, rfl, pr, _, _, _, rfl, rfl, tups_of z.1 _ _ hpr, atI_nat (j := 1) rfl, z.step hD2 hrow (by omega)⟩
    · rintro H4 ⟨g4, h4⟩
      have hfull : (nrs.map NRow.row).take ws.length = nrs.map NRow.row := List.take_of_length_le (by rw [List.length_map]; omega)
      rw [hfull] at h4
      have g34 := g3.trans g4
      have hal : (arOf rows).length = rows.length := List.length_map _
      have hal2 : (arOf (nrs.map NRow.row)).length = nrs.length := (List.length_map _).trans (List.length_map _)
      refine ⟨D2, _, rfl, .inr (SqL.of h4), ?_, fun t2 ht2 => ?_⟩
      · rw [List.append_nil, List.length_append, natV_len, natV_len]
        exact small300 (by omega)
      have g5 := same_upd ht2 (.tup (natV (arOf rows) ++ (natV (arOf (nrs.map NRow.row)) ++ [])))
      have e2 : natV (arOf rows) ++ (natV (arOf (nrs.map NRow.row)) ++ []) = natV (arOf (rows ++ nrs.map NRow.row)) := by
        rw [List.append_nil, ← natV_app, ← arOf_app]
      have hq5 := (congrArg (SqT K _ t2) e2).mp (sq_new (K := K) (H := H4) (p := t2) (xs := natV (arOf rows) ++ (natV (arOf (nrs.map NRow.row)) ++ [])))
      have g35 := g34.trans g5
      generalize upd H4 t2 (.tup (natV (arOf rows) ++ (natV (arOf (nrs.map NRow.row)) ++ []))) = H5 at g35 hq5
      have hS5 := tups_of g35 _ _ hS
      refine ⟨_, rfl, a, rfl, ⟨_, hS5⟩, fun D3 hD3 => lc_tup (K := K) (a := a) (xs := ws) (AllInv H5 D3) (.start hD3) (fun i H6 _ z => tups_of z.1 _ _ hS5) ?_ ?_⟩
      · intro i x H6 hx y
        have hil := lt_of_get hx
        have g6 := g35.trans y.1
        obtain ⟨nr, hnr, hxR⟩ := hA.mem hx
        obtain ⟨_, hco⟩ := hok nr (List.mem_of_getElem? hnr)
        obtain ⟨p, av, cv, rfl, hp, hav, hcv⟩ := hxR
        have hp6 := tups_of g6 _ _ hp
        refine ⟨rfl, _, rfl, p, _, _, _, rfl, rfl, hp6, atI_nat (j := 3) rfl, rfl, ?_⟩
        cases hc : nr.con with
        | none =>
          rw [hc] at hcv
          have hcv : cv = .non := hcv
          subst hcv
          exact ⟨_, rfl, iteT (y.step hD3 (by omega))⟩
        | some c =>
          rw [hc] at hcv
          have hcv6 : ConH K H6 (some c) cv := ConH.mono (tups_of g6) hcv
          obtain ⟨qq, b1, b2, cc, rfl, _⟩ := hcv
          exact ⟨_, rfl, iteF ⟨_, rfl, p, _, _, _, rfl, rfl, hp6, atI_nat (j := 3) rfl, _, rfl, p, _, _, _, rfl, rfl, hp6, atI_nat (j := 1) rfl, _, rfl, c, _, nr.n, t2, arOf (rows ++ nrs.map NRow.row), rfl, hcv6, tups_of y.1 _ _ hq5, fun T hT => hco T (by rw [hc, hT]), fun H7 g7 => (y.call g7).step hD3 (by omega)⟩⟩
      · intro H6 y
        refine ⟨D3, _, rfl, SqL.of y.2, ?_⟩
        rw [all_rep]
        refine ⟨_, rfl, iteF ?_⟩
        have g6 := g35.trans y.1
        exact ⟨_, rfl, b', dxb, _, rfl, g6 _ _ hb, bf_no _ _ (by decide +kernel) (by decide +kernel), _, rfl, _, a, rows, nrs, ws, rfl, hB.mono g6, tups_of g6 _ _ hS, hA.mono (NRowH.mono (tups_of g6)), hl1, hl2, fun H7 t bv tv g7 ht hbk => q H7 t bv tv (g6.trans g7) ht hbk⟩
end
end Lq
/-! for i, x in enumerate(t), t a tuple -/
namespace Lq
open PySem PySem.Spec PyProof.Rows L2
section
open AutoSeq1 (wpAny_loadPart')
theorem enum_newT (l : Addr) (its : Array Value) (n : Nat) (dd : Option Addr) (sl : Array (Option Value)) :
    Meets (Builtin.«enumerate.__new__» ⟨[.type "enumerate", .ref l], []⟩) (fun _ R s =>
      s.heap.get? l = some { cls := .type "tuple", dict := dd, data := .seq its n, slots := sl } ∧
      R (.ok (.ret (.ref (s.heap.push { cls := .type "tuple_iterator", data := .fields #[.ref l, .int 0 0] }).objs.size)))
        { s with heap := Heap.push (s.heap.push { cls := .type "tuple_iterator", data := .fields #[.ref l, .int 0 0] }) { cls := .type "enumerate", data := .fields #[.none, .bool false, .ref s.heap.objs.size, rawInt 0, .none, .none] } }) :=
  .of_wp fun prog w A R s h => by
    obtain ⟨hp, g, d, tk, os⟩ := s
    obtain ⟨hl, h⟩ := h
    have qsub := sub_enumerate
    have qT : Heap.IsTuple (Shared.heap ⟨hp, g, d, tk, os⟩) l its := ⟨_, hl, rfl, n, rfl⟩
    wp_walk using wpAny_loadPart' hl
    refine wpAny_stack_any fun st => wpAny_pure ?_
    split
    · rename_i c _ _ _ _ _
      cases (c == Value.type "enumerate")
      · wp_walk using wpAny_loadPart' hl, wpAny_pyIter_tuple qT
        exact ⟨_, rfl, h⟩
      · wp_walk using wpAny_loadPart' hl, wpAny_pyIter_tuple qT
        exact ⟨_, rfl, h⟩
    · wp_walk using wpAny_loadPart' hl, wpAny_pyIter_tuple qT
      exact ⟨_, rfl, h⟩
end
section
variable {prog : Program} {w : World} {A : Around} {E : Value → Shared → Prop} {s : Shared}
theorem enum_callT {l : Addr} {its : Array Value} {Q : Value → Shared → Prop} (hT : s.heap.IsTuple l its)
    (h : ∀ h', IsEnum h' (s.heap.objs.size + 1) s.heap.objs.size 0 .none → h'.IsTupleIter s.heap.objs.size l 0 →
      (∀ b o, s.heap.get? b = some o → h'.get? b = some o) → Q (.ref (s.heap.objs.size + 1)) { s with heap := h' }) :
    wpAny (model prog w) A (call (.type "enumerate") [.ref l]) Q E s := by
  obtain ⟨⟨c, dd, dt, sl⟩, hl, hc, n, hd⟩ := hT
  replace hc : c = .type "tuple" := hc
  replace hd : dt = .seq its n := hd
  subst hc hd
  refine callType_new F.called_enumerate (by decide) (F.typeCall_enumerate_1 _) (F.newCall_enumerate_1 _)
    (fun obj => F.args_object_init_2 obj _) F.entry_enumerate_new (enum_newT l its n dd sl) ⟨hl, ?_⟩
  let h1 := s.heap.push { cls := .type "tuple_iterator", data := .fields #[.ref l, .int 0 0] }
  have hz : h1.objs.size = s.heap.objs.size + 1 := Heap.size_push ..
  show _ ∧ _
  rw [show (s.heap.push { cls := .type "tuple_iterator", data := .fields #[.ref l, .int 0 0] }).objs.size = s.heap.objs.size + 1 from hz]
  have he : IsEnum (h1.push { cls := .type "enumerate", data := .fields #[.none, .bool false, .ref s.heap.objs.size, rawInt 0, .none, .none] }) (s.heap.objs.size + 1) s.heap.objs.size 0 .none := by
    have q := Heap.get?_push_size h1 (o := { cls := .type "enumerate", data := .fields #[.none, .bool false, .ref s.heap.objs.size, rawInt 0, .none, .none] }) rfl
    rw [hz] at q
    exact q
  exact ⟨⟨_, he, rfl⟩, h _ he ⟨_, Heap.get?_push_of_some _ (Heap.get?_push_size _ rfl), rfl, rfl⟩ fun b o x => Heap.get?_push_of_some _ (Heap.get?_push_of_some _ x)⟩
end
/-- the tuple at a, each item in a new pair -/
def IteT (K : PySem.W.Frag) (a : Addr) (xs : List V) : It :=
  ⟨fun i H => SqT K H a xs ∧ i < xs.length,
   fun i H v H' => ∃ T x, xs[i]? = some x ∧ v = .ref T ∧ H T = none ∧ H' = upd H T (.tup [.int (i : Nat), x]),
   fun i H => SqT K H a xs ∧ xs.length ≤ i⟩
theorem turn_enumT {P : Program} {w : World} {K : PySem.W.Frag} {elts : List Expr} {kk : Nat} {tpos : Pos} (a e it : Addr) (xs : List V) :
    Turn P w K (.Tuple elts kk tpos) (IteT K a xs) [e, it] e (fun i h => (∃ old, IsEnum h e it ((i : Nat) : Int) old) ∧ h.IsTupleIter it a i ∧ e ≠ it ∧ i ≤ xs.length) where
  mem := by simp
  obj := fun i h st b hb => by
    obtain ⟨⟨old, he⟩, ⟨o, ho, hc, hd⟩, _⟩ := st
    rcases (show b = e ∨ b = it by simpa using hb) with z | z
    · rw [z]
      exact ⟨_, he, fun v q => nomatch q⟩
    · rw [z]
      exact ⟨o, ho, fun v q => by rw [hd] at q; cases q⟩
  keep := fun i h h' st k => let ⟨⟨old, he⟩, hi, hne, hle⟩ := st; ⟨⟨old, k e (by simp) _ he⟩, hi.at fun o q => k it (by simp) o q, hne, hle⟩
  item := by
    intro X hP hw hK hc i pins s σ H E I hf st hg
    subst hP hw hK
    obtain ⟨⟨old, he⟩, hit, hne, hle⟩ := st
    obtain ⟨hq, hxl⟩ := hg
    have hx : xs[i]? = some xs[i] := List.getElem?_eq_getElem hxl
    generalize xs[i] = x at hx
    obtain ⟨its, rv, p, hz⟩ := I.tuple hq
    obtain ⟨u, hu, ru⟩ := rv.get hx
    have hel : e < s.heap.objs.size := Heap.lt_size he
    have hil : it < s.heap.objs.size := by
      obtain ⟨_, q, _⟩ := hit
      exact Heap.lt_size q
    have hae : a ≠ e := by
      intro z
      obtain ⟨o, ho, hc', _⟩ := p
      rw [z, he] at ho
      cases ho
      simp at hc'
    have hai : a ≠ it := by
      intro z
      obtain ⟨o, ho, hc', _⟩ := p
      obtain ⟨o2, ho2, hc2, _⟩ := hit
      rw [z, ho2] at ho
      cases ho
      rw [hc2] at hc'
      simp at hc'
    have hlt : i < its.toArray.size := by
      rw [List.size_toArray]
      exact (List.getElem?_eq_some_iff.mp hu).1
    refine wpAny_pyNext_enum_itemD (Draws.tuple (A := X.A.in1) (I.ok.hd hc) it a hai its.toArray) he ⟨hit, p⟩ hlt hne (by simp [hne, Ne.symm hae]) fun y h' tk hy ho hit' hT hsz hk => ?_
    have ey : y = u := by
      have : its.toArray[i]? = some u := by simpa using hu
      rw [this] at hy
      injection hy with hy
      exact hy.symm
    subst ey
    refine ⟨_, rfl, wpAny_letOwnedTupleGo_enum (s := { s with heap := h', toks := tk + 1 }) ho fun h'' he' sb => ?_⟩
    have hT2 : h''.get? s.heap.objs.size = some { cls := .type "tuple", data := .seq #[.int i tk, y] } := (sb.2 _ (Nat.ne_of_gt hel)).trans hT
    have new : ObjOk X.prog X.w (upd H s.heap.objs.size (.tup [.int (i : Nat), x])) h'' s.heap.objs.size (.tup [.int (i : Nat), x]) :=
      ⟨by show 2 ≤ sizeLine; decide, [.int i tk, y], .cons ⟨_, rfl⟩ (.cons ru .nil), ⟨_, hT2, rfl, _, rfl⟩⟩
    have I1 : Inv X pins σ (upd H s.heap.objs.size (.tup [.int (i : Nat), x])) { s with heap := h'', toks := tk + 1 } :=
      I.turnedNew (ch := [e, it]) (fun b ob hb q => (sb.2 b (fun z => hb (by simp [z]))).trans
        (hk b ob (fun z => hb (by simp [z])) (fun z => hb (by simp [z])) q)) hf (Nat.le_refl _) new
    refine ⟨.ref s.heap.objs.size, _, I1, rfl, ⟨_, x, hx, rfl, I.hok.fresh (Nat.le_refl _), rfl⟩,
      ⟨⟨y, ?_⟩, hit'.1.at fun o q => (sb.2 it (Ne.symm hne)).trans q, hne, hxl⟩, fun b hb => ?_⟩
    · rw [show ((i + 1 : Nat) : Int) = (i : Int) + 1 by omega]
      exact he'
    · have hb' : b < s.heap.objs.size := by
        rcases (show b = e ∨ b = it by simpa using hb) with z | z
        · rw [z]
          exact hel
        · rw [z]
          exact hil
      rw [upd_ne (Nat.ne_of_lt hb')]
      exact (hf b hb).1
  done := by
    intro X hP hw hK hc i pins s σ H E I hf st hg
    subst hP hw hK
    obtain ⟨⟨old, he⟩, hit, hne, hle⟩ := st
    obtain ⟨hq, hx⟩ := hg
    obtain ⟨its, rv, p, hz⟩ := I.tuple hq
    obtain ⟨f0, f1, f2, f3, f4, f5⟩ := hf it (by simp)
    have hl := rv.length
    have hai : a ≠ it := by
      intro z
      obtain ⟨o, ho, hc', _⟩ := p
      obtain ⟨o2, ho2, hc2, _⟩ := hit
      rw [z, ho2] at ho
      cases ho
      rw [hc2] at hc'
      simp at hc'
    have hin : i = its.toArray.size := by
      rw [List.size_toArray]
      omega
    rw [hin] at hit
    exact wpAny_pyNext_enum_endD (Draws.tuple (A := X.A.in1) (I.ok.hd hc) it a hai its.toArray) he ⟨hit, p⟩
      fun h' eb => ⟨rfl, I.turned (t' := s.toks) (fun b o hb q => eb b o hb q) f0 f1 f3 f4 f5⟩
  self := fun A i s Q E st h => let ⟨⟨_, he⟩, _⟩ := st; wpAny_pyIter_enum he h
def iEnumT (K : PySem.W.Frag) (ta : TA) : TI := fun σ H R => ta σ H fun vs H1 => ∃ a xs, vs = [.ref a] ∧ SqT K H1 a xs ∧ R (IteT K a xs) H1
theorem pi_enumT {X : Cx} {e : Expr} {ta : TA} {p pos tpos : Pos} {elts : List Expr} {kk : Nat} (hg : Gl X "enumerate") (hm : X.mg "enumerate" = none) (ha : PA X [e] ta) (hs : starEach [e] X.env = [(false, eval e X.env)] := by rfl) :
    PI X (.Tuple elts kk tpos) (.Call (.Name "enumerate" p) [e] [] pos) (iEnumT X.K ta) := by
  refine ⟨fun pins s σ H R I h => ?_⟩
  refine Call_ (ld_blt I hg hm boot_enumerate (PyProof.Rows.callWith_type1
    (thn (ha.run pos pins s σ H _ I h) fun us s1 ⟨vs, H1, I1, r1, q1⟩ => ?_) hs rfl))
  obtain ⟨a, xs, ex, hq, q⟩ := q1
  subst ex
  cases r1 with
  | cons r rr =>
    cases rr
    cases r
    obtain ⟨its, rv, p', hz⟩ := I1.tuple hq
    refine enum_callT p' fun h' he hit hk => wpAny_pyIter_enum he ?_
    have I2 : Inv X pins σ H1 { s1 with heap := h' } := I1.kept (t' := s1.toks) hk
    refine ⟨s1.heap.objs.size + 1, [s1.heap.objs.size + 1, s1.heap.objs.size], _, _, H1, rfl, I2,
      turn_enumT a (s1.heap.objs.size + 1) s1.heap.objs.size xs, ⟨⟨.none, he⟩, hit, Nat.succ_ne_self _, Nat.zero_le _⟩, fun b hb => ?_, q⟩
    have hle : s1.heap.objs.size ≤ b := by
      rcases (show b = s1.heap.objs.size + 1 ∨ b = s1.heap.objs.size by simpa using hb) with z | z
      · rw [z]
        exact Nat.le_succ _
      · rw [z]
        exact Nat.le_refl _
    exact I1.fpOk hle (I1.hok.fresh hle)
/-- a for over enumerate of a tuple that stays -/
theorem for_enumT {K : PySem.W.Frag} {a : Addr} {xs : List V} {g : TG} {tb : TS} {D : Ends} {σ : L2.St} {H : Hp} (Pv : Nat → L2.St → Hp → Prop) (h0 : Pv 0 σ H) (hq : ∀ i σ H, Pv i σ H → SqT K H a xs)
    (hs : ∀ (i : Nat) (x : V) (T : Addr) (σ : L2.St) (H : Hp), xs[i]? = some x → Pv i σ H → H T = none → g (.ref T) σ (upd H T (.tup [.int (i : Nat), x])) fun σ2 H2 => tb { D with nx := Pv (i + 1), ct := Pv (i + 1), bk := D.nx } σ2 H2)
    (hd : ∀ σ H, Pv xs.length σ H → D.nx σ H) :
    ∃ W : Nat → Nat → L2.St → Hp → Prop, (∃ m, W 0 m σ H) ∧ ∀ i m σ H, W i m σ H →
      ((IteT K a xs).stop i H ∧ D.nx σ H) ∨ ((IteT K a xs).go i H ∧ ∃ N : L2.St → Hp → Prop, (∀ σ' H', N σ' H' → ∃ m', m' < m ∧ W (i + 1) m' σ' H') ∧ ∀ v H', (IteT K a xs).yld i H v H' → g v σ H' fun σ2 H2 => tb { D with nx := N, ct := N, bk := D.nx } σ2 H2) := by
  refine ⟨fun i m σ H => m = xs.length - i ∧ i ≤ xs.length ∧ Pv i σ H, ⟨xs.length, by simp, Nat.zero_le _, h0⟩, ?_⟩
  rintro i m σ H ⟨rfl, hi, p⟩
  have q := hq i σ H p
  by_cases hlt : i < xs.length
  · refine .inr ⟨⟨q, hlt⟩, Pv (i + 1), fun σ' H' p' => ⟨xs.length - (i + 1), by omega, rfl, hlt, p'⟩, fun v H' y => ?_⟩
    obtain ⟨T, x, hx, rfl, hT, rfl⟩ := y
    exact hs i x T σ H hx p hT
  · have e : i = xs.length := by omega
    subst e
    exact .inl ⟨⟨q, Nat.le_refl _⟩, hd σ H p⟩
end Lq
namespace Lq
open PySem L2
/-! ### the law's drawing -/
def HatOk (H : Hp) (h : Addr) : Prop := ∃ i j k : Int, H h = some (.lst [.int i, .int j, .int k])
/-- all but the hat at h is as it was -/
def Gw (h : Addr) (H H' : Hp) : Prop := (∀ b o, b ≠ h → H b = some o → H' b = some o) ∧ HatOk H' h
theorem Gw.trans {h : Addr} {H H1 H2 : Hp} (a : Gw h H H1) (b : Gw h H1 H2) : Gw h H H2 := ⟨fun c o hc e => b.1 c o hc (a.1 c o hc e), b.2⟩
theorem Gw.of_same {h : Addr} {H H1 : Hp} (k : HatOk H h) (s : Same H H1) : Gw h H H1 := ⟨fun c o _ e => s c o e, by
  obtain ⟨i, j, l, e⟩ := k
  exact ⟨i, j, l, s _ _ e⟩⟩
theorem Gw.refl {h : Addr} {H : Hp} (k : HatOk H h) : Gw h H H := .of_same k (.refl _)
theorem Gw.tups {K : PySem.W.Frag} {h : Addr} {H H1 : Hp} (k : HatOk H h) (g : Gw h H H1) : Tups K H H1 := by
  obtain ⟨i, j, l, e⟩ := k
  intro a xs q
  rcases q with (q | ⟨u, q⟩) | q
  · exact .inl (.inl (g.1 _ _ (ne_of q e (by intro z; cases z)) q))
  · exact .inl (.inr ⟨u, g.1 _ _ (ne_of q e (by intro z; cases z)) q⟩)
  · exact .inr q
theorem Gw.book {K : PySem.W.Frag} {C h : Addr} {H H1 : Hp} (k : HatOk H h) (g : Gw h H H1) {rows : List Row} {v : V} (hB : BookH K C H rows v) : BookH K C H1 rows v := by
  have t := g.tups (K := K) k
  obtain ⟨i, j, l, e⟩ := k
  obtain ⟨b, dx, r, q, rs, h1, h2, h3, h4, h5⟩ := hB
  exact ⟨b, dx, r, q, rs, h1, g.1 _ _ (ne_of h2 e (by intro z; cases z)) h2, t _ _ h3, h4.mono (RowH.mono t), t _ _ h5⟩
theorem Gw.lst {K : PySem.W.Frag} {h p : Addr} {H H1 : Hp} (g : Gw h H H1) {xs : List V} (hp : p ≠ h) (q : SqL K H p xs) : SqL K H1 p xs := by
  rcases q with (q | ⟨u, q⟩) | q
  · exact .inl (.inl (g.1 _ _ hp q))
  · exact .inl (.inr ⟨u, g.1 _ _ hp q⟩)
  · exact .inr q
theorem fmod_nat (i : Int) {n : Nat} (h : 0 < n) : ∃ r : Nat, i.fmod (n : Int) = (r : Int) ∧ r < n := by
  have h1 : i.fmod (n : Int) = i % (n : Int) := Int.fmod_eq_emod_of_nonneg i (by omega)
  have h2 := Int.emod_nonneg i (show (n : Int) ≠ 0 by omega)
  have h3 := Int.emod_lt_of_pos i (show (0 : Int) < (n : Int) by omega)
  exact ⟨(i % (n : Int)).toNat, by rw [h1]; omega, by omega⟩
section
variable {P : Program} {w : World} {K : PySem.W.Frag} {mg : Str → Option Value} {base : Heap} {C : Addr}
abbrev s__law_hat : Stmt := top 53
theorem sc__law_hat : FnScope ["_law_script", "_law_spot", "_law_cell", "_law_great"] ["_law_script", "_law_spot"] (defScope s__law_hat) := ⟨rfl, rfl, rfl, by decide +kernel, rfl, by decide +kernel, by decide +kernel⟩
def spHat (K : PySem.W.Frag) : Sp := fun vs H Q _ => ∃ (a : Addr) (ns : List Int) (n : Nat), vs = [.ref a, .int (n : Int)] ∧ SqL K H a (ns.map V.int) ∧ n < 1000 ∧
  ∀ (H' : Hp) (h : Addr), Same H H' → H h = none → HatOk H' h → Q (.ref h) H'
theorem ok_hat (A : At K mg "_law_hat" s__law_hat ["_law_script", "_law_spot"]) (B : Bi mg) : Has P w K mg base "_law_hat" ["_law_script", "_law_spot"] 1 (spHat K) := by
  refine .mk A fun f fd F => ?_
  refine F.ok sc__law_hat (fun vs H Q E h => ?_) (fun cdv A outer s H vs Q E hr h => ?_)
  · obtain ⟨a, ns, n, rfl, _⟩ := h
    rfl
  obtain ⟨a, ns, n, rfl, hS, hn, q⟩ := h
  refine ⟨_, (pss_cons (ps_set (i := 2) sc__law_hat.nd rfl (Or.inl rfl) (pe_ifExp (pt_cmpR op_lt (pv 1) (pe_callB (lenS K) (by rfl) B.len (by decide +kernel) (pa_cons (pv 0) pa_nil)) (nomark _)) (pe_ix (ixL K) (pv 0) (pv 1) (fun _ _ => rfl)) (pe_op op_add (pe_op op_mul pe_int (pv 1)) pe_int)))
  (pss_cons (ps_set (i := 3) sc__law_hat.nd rfl (Or.inl rfl) (pe_op op_modN (pe_callB call_abs (by rfl) B.abs (by decide +kernel) (pa_cons (pe_callTy call_int1 (by rfl) B.int (by decide +kernel) (pa_cons (pv 2) pa_nil)) pa_nil)) (pe_op op_powB (pe_op op_pow pe_int pe_int) pe_int)))
  (pss_one (ps_ret (pe_lst (pa_cons (pe_callB (call_max2 rfl) (by rfl) B.max (by decide +kernel) (pa_cons pe_int (pa_cons (pe_op op_sub (pv 3) (pe_op op_pow pe_int pe_int)) pa_nil))) (pa_cons (pe_op op_add (pe_op op_add (pe_op op_add (pe_op op_mul (pe_op op_modN (pv 3) pe_int) pe_int) (pe_op op_mul pe_int (pv 1))) (pe_op op_mul pe_int (pe_callTy call_int1 (by rfl) B.int (by decide +kernel) (pa_cons (pe_cmpR op_lt (pv 2) pe_int (nomark _)) pa_nil)))) pe_int) (pa_cons pe_int pa_nil)))))))), ?_⟩
  have hl : (ns.map V.int).length = ns.length := List.length_map _
  -- the rest of the def, once the cell is known
  have rest : ∀ c : Int, ∃ z, z = V.int c := fun c => ⟨_, rfl⟩
  refine ⟨_, rfl, _, rfl, a, _, rfl, .inl hS, _, _, rfl, rfl, _, rfl, ite2 (fun hc => ?_) (fun hc => ?_)⟩
  · have hc' : (n : Int) < (((ns.map V.int).length : Nat) : Int) := of_decide_eq_true hc
    rw [hl] at hc'
    have hnl : n < ns.length := by omega
    have hat : (ns.map V.int)[n]? = some (.int ns[n]) := by
      rw [List.getElem?_map, List.getElem?_eq_getElem hnl]
      rfl
    refine ⟨_, rfl, _, rfl, a, _, _, _, rfl, rfl, hS, at_of (j := n) rfl hat, ?_⟩
    refine ⟨_, rfl, .inl ⟨_, rfl, _, rfl, _, _, rfl, rfl, ⟨by decide, by decide, by decide⟩, _, _, rfl, rfl, ⟨by decide, by decide +kernel⟩, _, _, rfl, rfl, (by show ((10 : Int) ^ Int.toNat 59) ^ Int.toNat 5 ≠ 0; decide +kernel), ?_⟩⟩
    refine ⟨_, rfl, _, _, rfl, rfl, ⟨by decide, by decide, by decide⟩, _, _, rfl, rfl, _, _, rfl, ?_⟩
    refine ⟨_, rfl, _, _, rfl, rfl, (by show (2147483497 : Int) ≠ 0; decide), _, _, rfl, rfl, .inr ⟨by decide, by decide⟩, _, rfl, _, _, rfl, rfl, .inl ⟨by decide, by decide⟩, _, _, rfl, rfl, ?_⟩
    refine ⟨_, rfl, _, _, rfl, rfl, .inr ⟨_, rfl, _, _, rfl, rfl, .inl ⟨by decide, by decide⟩, _, _, rfl, rfl, _, _, rfl, rfl, ?_⟩⟩
    exact ⟨by show 3 ≤ sizeLine; decide, fun h hh => q _ h (same_upd hh _) hh ⟨_, _, _, upd_same⟩⟩
  · refine ⟨_, rfl, _, _, rfl, rfl, .inl ⟨by decide, by decide⟩, _, _, rfl, rfl, ?_⟩
    refine ⟨_, rfl, .inl ⟨_, rfl, _, rfl, _, _, rfl, rfl, ⟨by decide, by decide, by decide⟩, _, _, rfl, rfl, ⟨by decide, by decide +kernel⟩, _, _, rfl, rfl, (by show ((10 : Int) ^ Int.toNat 59) ^ Int.toNat 5 ≠ 0; decide +kernel), ?_⟩⟩
    refine ⟨_, rfl, _, _, rfl, rfl, ⟨by decide, by decide, by decide⟩, _, _, rfl, rfl, _, _, rfl, ?_⟩
    refine ⟨_, rfl, _, _, rfl, rfl, (by show (2147483497 : Int) ≠ 0; decide), _, _, rfl, rfl, .inr ⟨by decide, by decide⟩, _, rfl, _, _, rfl, rfl, .inl ⟨by decide, by decide⟩, _, _, rfl, rfl, ?_⟩
    refine ⟨_, rfl, _, _, rfl, rfl, .inr ⟨_, rfl, _, _, rfl, rfl, .inl ⟨by decide, by decide⟩, _, _, rfl, rfl, _, _, rfl, rfl, ?_⟩⟩
    exact ⟨by show 3 ≤ sizeLine; decide, fun h hh => q _ h (same_upd hh _) hh ⟨_, _, _, upd_same⟩⟩
abbrev s__law_lift : Stmt := top 54
theorem sc__law_lift : FnScope ["_law_hat_here", "_law_total", "_law_found", "_law_one", "_law_two"] ["_law_hat_here", "_law_total"] (defScope s__law_lift) := ⟨rfl, rfl, rfl, by decide +kernel, rfl, by decide +kernel, by decide +kernel⟩
def spLift : Sp := fun vs H Q _ => ∃ (h : Addr) (n : Nat), vs = [.ref h, .int (n : Int)] ∧ HatOk H h ∧ 0 < n ∧ n < 1000000 ∧ ∀ (H' : Hp) (r : Nat), r < n → Gw h H H' → Q (.int (r : Int)) H'
theorem ok_lift (A : At K mg "_law_lift" s__law_lift ["_law_hat_here", "_law_total"]) (B : Bi mg) : Has P w K mg base "_law_lift" ["_law_hat_here", "_law_total"] 1 spLift := by
  refine .mk A fun f fd F => ?_
  refine F.ok sc__law_lift (fun vs H Q E h => ?_) (fun cdv A outer s H vs Q E hr h => ?_)
  · obtain ⟨h, n, rfl, _⟩ := h
    rfl
  obtain ⟨h, n, rfl, ⟨i, j, k, hh⟩, h0, h1, q⟩ := h
  refine ⟨_, (pss_cons (ps_if (pt_cmpR op_gt (pe_ix (ixL K) (pv 0) pe_int (fun _ _ => rfl)) pe_int (nomark _)) (pss_cons (ps_set (i := 2) sc__law_lift.nd rfl (Or.inl rfl) (pe_op op_modN (pe_callTy call_int1 (by rfl) B.int (by decide +kernel) (pa_cons (pe_ix (ixL K) (pv 0) pe_int (fun _ _ => rfl)) pa_nil)) (pv 1)))
  (pss_cons (ps_asg (pe_op op_fdivN (pe_ix (ixL K) (pv 0) pe_int (fun _ _ => rfl)) (pv 1)) (pg_sub (pv 0) pe_int set_list))
  (pss_one (ps_ret (pv 2))))) pss_nil)
  (pss_cons (ps_asg (pe_op op_add (pe_ix (ixL K) (pv 0) pe_int (fun _ _ => rfl)) pe_int) (pg_sub (pv 0) pe_int set_list))
  (pss_cons (ps_set (i := 3) sc__law_lift.nd rfl (Or.inl rfl) (pe_op op_modN (pe_callTy call_int1 (by rfl) B.int (by decide +kernel) (pa_cons (pe_op op_add (pe_ix (ixL K) (pv 0) pe_int (fun _ _ => rfl)) (pe_op op_mul pe_int (pe_ix (ixL K) (pv 0) pe_int (fun _ _ => rfl)))) pa_nil)) pe_int))
  (pss_cons (ps_set (i := 4) sc__law_lift.nd rfl (Or.inl rfl) (pe_op op_add (pe_op op_mul (pe_op op_modN (pe_callTy call_int1 (by rfl) B.int (by decide +kernel) (pa_cons (pe_op op_add (pe_op op_mul (pv 3) (pv 3)) (pe_op op_mul pe_int (pe_ix (ixL K) (pv 0) pe_int (fun _ _ => rfl)))) pa_nil)) pe_int) pe_int) (pv 3)))
  (pss_one (ps_ret (pe_op op_modN (pe_callTy call_int1 (by rfl) B.int (by decide +kernel) (pa_cons (pe_op op_fdivN (pv 4) pe_int) pa_nil)) (pv 1)))))))), ?_⟩
  have gset : ∀ (H1 : Hp) (i j k : Int), (∀ b, b ≠ h → H1 b = H b) → Gw h H (upd H1 h (.lst [.int i, .int j, .int k])) := fun H1 i j k e =>
    ⟨fun b o hb ho => by rw [upd_ne hb, e b hb]; exact ho, ⟨i, j, k, upd_same⟩⟩
  refine ⟨_, rfl, h, _, _, _, rfl, rfl, SqL.of hh, atI_nat (j := 0) rfl, _, _, rfl, rfl, _, rfl, ite2 (fun hc => ?_) (fun hc => ?_)⟩
  · refine ⟨_, rfl, h, _, _, _, rfl, rfl, SqL.of hh, atI_nat (j := 0) rfl, .inl ⟨_, rfl, _, rfl, _, _, rfl, rfl, by omega, ?_⟩⟩
    refine ⟨_, rfl, h, _, _, _, rfl, rfl, SqL.of hh, atI_nat (j := 0) rfl, _, rfl, _, _, rfl, rfl, ⟨by omega, by omega⟩, _, rfl, h, _, _, 0, rfl, rfl, hh, rfl, ?_⟩
    obtain ⟨r, hr1, hr2⟩ := fmod_nat i h0
    refine ⟨_, rfl, ?_⟩
    have d : Q (.int (i.fmod n)) (upd H h (.lst [.int (i.fdiv n), .int j, .int k])) := by
      rw [hr1]
      exact q _ r hr2 (gset H _ _ _ fun b _ => rfl)
    exact d
  · refine ⟨_, rfl, h, _, _, _, rfl, rfl, SqL.of hh, atI_nat (j := 2) rfl, _, _, rfl, rfl, _, rfl, h, _, _, 2, rfl, rfl, hh, rfl, ?_⟩
    have hh2 : upd H h (.lst [.int i, .int j, .int (k + 1)]) h = some (.lst [.int i, .int j, .int (k + 1)]) := upd_same
    refine ⟨_, rfl, h, _, _, _, rfl, rfl, SqL.of hh2, atI_nat (j := 1) rfl, _, rfl, h, _, _, _, rfl, rfl, SqL.of hh2, atI_nat (j := 2) rfl, _, _, rfl, rfl, .inl ⟨by decide, by decide⟩, _, _, rfl, rfl, .inl ⟨_, rfl, _, _, rfl, rfl, (by show (2305843009213693907 : Int) ≠ 0; decide), ?_⟩⟩
    obtain ⟨one, ho1, ho2⟩ := fmod_nat (j + 8219 * (k + 1)) (n := 2305843009213693907) (by decide)
    have ho3 : -(2 ^ 64) < (j + 8219 * (k + 1)).fmod 2305843009213693907 ∧ (j + 8219 * (k + 1)).fmod 2305843009213693907 < 2 ^ 64 := by
      have e : (j + 8219 * (k + 1)).fmod 2305843009213693907 = (one : Int) := ho1
      rw [e]
      omega
    have n0 : (n : Int) ≠ 0 := by omega
    refine ⟨_, rfl, _, rfl, _, _, rfl, rfl, .inl ho3, ?_⟩
    refine ⟨_, rfl, h, _, _, _, rfl, rfl, SqL.of hh2, atI_nat (j := 2) rfl, _, _, rfl, rfl, .inl ⟨by decide, by decide⟩, _, _, rfl, rfl, .inl ⟨_, rfl, _, _, rfl, rfl, (by show (2305843009213693921 : Int) ≠ 0; decide), ?_⟩⟩
    refine ⟨_, _, rfl, rfl, .inr ⟨by decide, by decide⟩, _, rfl, _, _, rfl, rfl, ?_⟩
    refine ⟨_, rfl, _, _, rfl, rfl, ⟨by omega, by omega⟩, .inl ⟨_, rfl, _, rfl, _, _, rfl, rfl, n0, ?_⟩⟩
    obtain ⟨r, hr1, hr2⟩ := fmod_nat (((((j + 8219 * (k + 1)).fmod 2305843009213693907 * (j + 8219 * (k + 1)).fmod 2305843009213693907 + 89 * (k + 1)).fmod 2305843009213693921 * 7368791 + (j + 8219 * (k + 1)).fmod 2305843009213693907)).fdiv 65536) h0
    have d : Q (.int ((((((j + 8219 * (k + 1)).fmod 2305843009213693907 * (j + 8219 * (k + 1)).fmod 2305843009213693907 + 89 * (k + 1)).fmod 2305843009213693921 * 7368791 + (j + 8219 * (k + 1)).fmod 2305843009213693907)).fdiv 65536).fmod n)) (upd H h (.lst [.int i, .int j, .int (k + 1)])) := by
      rw [hr1]
      exact q _ r hr2 (gset H _ _ _ fun b _ => rfl)
    exact d
abbrev s__law_choice : Stmt := top 55
theorem sc__law_choice : FnScope ["_law_hat_here", "_law_items"] ["_law_hat_here", "_law_items"] (defScope s__law_choice) := ⟨rfl, rfl, rfl, by decide +kernel, rfl, by decide +kernel, by decide +kernel⟩
def spChoice (K : PySem.W.Frag) : Sp := fun vs H Q _ => ∃ (h p : Addr) (xs : List V), vs = [.ref h, .ref p] ∧ HatOk H h ∧ p ≠ h ∧ SqL K H p xs ∧ 0 < xs.length ∧ xs.length < 1000000 ∧ ∀ (H' : Hp) (r : Nat) (x : V), xs[r]? = some x → Gw h H H' → Q x H'
theorem ok_choice (A : At K mg "_law_choice" s__law_choice ["_law_hat_here", "_law_items"]) (B : Bi mg) (D__law_lift : Has P w K mg base "_law_lift" ["_law_hat_here", "_law_total"] 1 spLift) : Has P w K mg base "_law_choice" ["_law_hat_here", "_law_items"] 2 (spChoice K) := by
  refine .mk A fun f fd F => ?_
  refine F.ok sc__law_choice (fun vs H Q E h => ?_) (fun cdv A outer s H vs Q E hr h => ?_)
  · obtain ⟨h, p, xs, rfl, _⟩ := h
    rfl
  obtain ⟨h, p, xs, rfl, hh, hne, hp, h0, h1, q⟩ := h
  obtain ⟨f__law_lift, fd__law_lift, G__law_lift, b__law_lift, k__law_lift, m__law_lift⟩ := D__law_lift
  refine ⟨_, (pss_one (ps_ret (pe_ix (ixL K) (pv 1) (pe_call G__law_lift (hr.mono (by decide)) rfl m__law_lift k__law_lift b__law_lift .nil pass0 (pa_cons (pv 0) (pa_cons (pe_callB (lenS K) (by rfl) B.len (by decide +kernel) (pa_cons (pv 1) pa_nil)) pa_nil))) (fun _ _ => rfl)))), ?_⟩
  refine ⟨_, rfl, _, rfl, _, rfl, p, _, rfl, .inl hp, h, xs.length, rfl, hh, h0, h1, fun H1 r hr1 g1 => ?_⟩
  exact ⟨p, _, _, xs[r], rfl, rfl, g1.lst hne hp, at_of (j := r) rfl (List.getElem?_eq_getElem hr1), q H1 r _ (List.getElem?_eq_getElem hr1) g1⟩
end
end Lq
namespace Lq
open PySem L2
abbrev tv (n : Nat) : Ty := .node (.var n) []
abbrev tfn (A B : Ty) : Ty := .node .fn [A, B]
abbrev ttup (ts : List Ty) : Ty := .node .tup ts
abbrev tmd (s : Nat) (ts : List Ty) : Ty := .node (.made s) ts
theorem TyH.var {K : PySem.W.Frag} {H : Hp} {a : Addr} {n : Nat} (h : SqT K H a [.str "var", .int (n : Int)]) : TyH K H (tv n) (.ref a) := .mk ⟨_, h, rfl, rfl⟩ .nil
theorem TyH.fn {K : PySem.W.Frag} {H : Hp} {a : Addr} {A B : Ty} {x y : V} (h : SqT K H a [.str "fn", x, y]) (hA : TyH K H A x) (hB : TyH K H B y) : TyH K H (tfn A B) (.ref a) := .mk ⟨_, h, rfl, rfl⟩ (.cons hA (.cons hB .nil))
theorem TyH.tup {K : PySem.W.Frag} {H : Hp} {a b : Addr} {ts : List Ty} {xs : List V} (h : SqT K H a [.str "tuple", .ref b]) (hb : SqT K H b xs) (hs : TysH K H ts xs) : TyH K H (ttup ts) (.ref a) := .mk ⟨_, h, b, rfl, hb⟩ hs
theorem TyH.made {K : PySem.W.Frag} {H : Hp} {a b : Addr} {s : Nat} {ts : List Ty} {xs : List V} (h : SqT K H a [.str "made", .int (s : Int), .ref b]) (hb : SqT K H b xs) (hs : TysH K H ts xs) : TyH K H (tmd s ts) (.ref a) := .mk ⟨_, h, b, rfl, hb⟩ hs
theorem HatOk.mono {H H' : Hp} {h : Addr} (k : HatOk H h) (s : Same H H') : HatOk H' h := by
  obtain ⟨i, j, l, e⟩ := k
  exact ⟨i, j, l, s _ _ e⟩
theorem HatOk.ne {H : Hp} {h l : Addr} (k : HatOk H h) (e : H l = none) : l ≠ h := by
  obtain ⟨i, j, k, e2⟩ := k
  exact fun z => by rw [z, e2] at e; cases e
/-- what is drawn out of a list stands for one of what its items stand for -/
theorem drawn {α : Type} {R : Hp → α → V → Prop} {es : List α} {xs : List V} {H H' : Hp} (m : ∀ e x, R H e x → R H' e x) (h : All2 (R H) es xs) {r : Nat} {x : V} (e : xs[r]? = some x) : ∃ a ∈ es, R H' a x := by
  obtain ⟨a, ha, hR⟩ := h.mem e
  exact ⟨a, List.mem_of_getElem? ha, m _ _ hR⟩
def aks2 : List (Option (List Nat)) := [none, some [], some [0], some [1], some [0, 1], some [0, 1]]
def aks1 : List (Option (List Nat)) := [none, some [], some [0], some [0]]
def aks0 : List (Option (List Nat)) := [none, some []]
def cars : List (Option Ty) := [none, some (tv 0), some (tmd 5 [tv 0]), some (tfn (tv 0) (tv 0))]
structure Drawn (nrs : List NRow) : Prop where
  ex : ∃ a2 a1 a0 con, nrs = [⟨"pair", 2, a2, none⟩, ⟨"box", 1, a1, con⟩, ⟨"far", 0, a0, none⟩] ∧ a2 ∈ aks2 ∧ a1 ∈ aks1 ∧ a0 ∈ aks0 ∧ ∀ T, con = some T → T ∈ cars
section
variable {P : Program} {w : World} {K : PySem.W.Frag} {mg : Str → Option Value} {base : Heap} {C : Addr}
theorem z0 : (0 : Nat) ≤ sizeLine := by decide
theorem z1 : (1 : Nat) ≤ sizeLine := by decide
theorem z2 : (2 : Nat) ≤ sizeLine := by decide
theorem z3 : (3 : Nat) ≤ sizeLine := by decide
theorem z4 : (4 : Nat) ≤ sizeLine := by decide
theorem z6 : (6 : Nat) ≤ sizeLine := by decide
abbrev s__law_rows : Stmt := top 56
theorem sc__law_rows : FnScope ["_law_hat_here", "_law_two", "_law_carried", "_law_built", "_law_one"] ["_law_hat_here"] (defScope s__law_rows) := ⟨rfl, rfl, rfl, by decide +kernel, rfl, by decide +kernel, by decide +kernel⟩
def spRows (K : PySem.W.Frag) : Sp := fun vs H Q _ => ∃ h : Addr, vs = [.ref h] ∧ HatOk H h ∧ ∀ (H' : Hp) (p : Addr) (nrs : List NRow) (ws : List V), Gw h H H' → Drawn nrs → SqT K H' p ws → All2 (NRowH K H') nrs ws → Q (.ref p) H'
theorem ok_rows (A : At K mg "_law_rows" s__law_rows ["_law_hat_here"]) (B : Bi mg) (D__law_choice : Has P w K mg base "_law_choice" ["_law_hat_here", "_law_items"] 2 (spChoice K)) : Has P w K mg base "_law_rows" ["_law_hat_here"] 3 (spRows K) := by
  refine .mk A fun f fd F => ?_
  refine F.ok sc__law_rows (fun vs H Q E h => ?_) (fun cdv A outer s H vs Q E hr h => ?_)
  · obtain ⟨h, rfl, _⟩ := h
    rfl
  obtain ⟨h, rfl, hh, q⟩ := h
  obtain ⟨f__law_choice, fd__law_choice, G__law_choice, b__law_choice, k__law_choice, m__law_choice⟩ := D__law_choice
  refine ⟨_, (pss_cons (ps_set (i := 1) sc__law_rows.nd rfl (Or.inl rfl) (pe_tup (pa_cons pe_str (pa_cons pe_int (pa_cons (pe_call G__law_choice (hr.mono (by decide)) rfl m__law_choice k__law_choice b__law_choice .nil pass0 (pa_cons (pv 0) (pa_cons (pe_lst (pa_cons pe_non (pa_cons (pe_tup pa_nil) (pa_cons (pe_tup (pa_cons pe_int pa_nil)) (pa_cons (pe_tup (pa_cons pe_int pa_nil)) (pa_cons (pe_tup (pa_cons pe_int (pa_cons pe_int pa_nil))) (pa_cons (pe_tup (pa_cons pe_int (pa_cons pe_int pa_nil))) pa_nil))))))) pa_nil))) (pa_cons pe_non pa_nil))))))
  (pss_cons (ps_set (i := 2) sc__law_rows.nd rfl (Or.inl rfl) (pe_call G__law_choice (hr.mono (by decide)) rfl m__law_choice k__law_choice b__law_choice .nil pass0 (pa_cons (pv 0) (pa_cons (pe_lst (pa_cons pe_non (pa_cons (pe_tup (pa_cons pe_str (pa_cons pe_int pa_nil))) (pa_cons (pe_tup (pa_cons pe_str (pa_cons pe_int (pa_cons (pe_tup (pa_cons (pe_tup (pa_cons pe_str (pa_cons pe_int pa_nil))) pa_nil)) pa_nil)))) (pa_cons (pe_tup (pa_cons pe_str (pa_cons (pe_tup (pa_cons pe_str (pa_cons pe_int pa_nil))) (pa_cons (pe_tup (pa_cons pe_str (pa_cons pe_int pa_nil))) pa_nil)))) pa_nil))))) pa_nil))))
  (pss_cons (ps_set (i := 3) sc__law_rows.nd rfl (Or.inl rfl) (pe_call G__law_choice (hr.mono (by decide)) rfl m__law_choice k__law_choice b__law_choice .nil pass0 (pa_cons (pv 0) (pa_cons (pe_lst (pa_cons pe_non (pa_cons (pe_tup (pa_cons (pe_tup (pa_cons pe_str (pa_cons (pv 2) pa_nil))) (pa_cons (pe_tup (pa_cons pe_str (pa_cons pe_non pa_nil))) pa_nil))) pa_nil))) pa_nil))))
  (pss_cons (ps_set (i := 4) sc__law_rows.nd rfl (Or.inl rfl) (pe_tup (pa_cons pe_str (pa_cons pe_int (pa_cons (pe_call G__law_choice (hr.mono (by decide)) rfl m__law_choice k__law_choice b__law_choice .nil pass0 (pa_cons (pv 0) (pa_cons (pe_lst (pa_cons pe_non (pa_cons (pe_tup pa_nil) (pa_cons (pe_tup (pa_cons pe_int pa_nil)) (pa_cons (pe_tup (pa_cons pe_int pa_nil)) pa_nil))))) pa_nil))) (pa_cons (pv 3) pa_nil))))))
  (pss_one (ps_ret (pe_tup (pa_cons (pv 1) (pa_cons (pv 4) (pa_cons (pe_tup (pa_cons pe_str (pa_cons pe_int (pa_cons (pe_call G__law_choice (hr.mono (by decide)) rfl m__law_choice k__law_choice b__law_choice .nil pass0 (pa_cons (pv 0) (pa_cons (pe_lst (pa_cons pe_non (pa_cons (pe_tup pa_nil) pa_nil))) pa_nil))) (pa_cons pe_non pa_nil))))) pa_nil)))))))))), ?_⟩
  refine ⟨_, rfl, z0, fun t1 h1 => ⟨z1, fun t2 h2 => ⟨z1, fun t3 h3 => ⟨z2, fun t4 h4 => ⟨z2, fun t5 h5 => ⟨z6, fun l hl => ?_⟩⟩⟩⟩⟩⟩
  have s1 := same_upd h1 (.tup (natV []))
  have s2 := same_upd h2 (.tup (natV [0]))
  have s3 := same_upd h3 (.tup (natV [1]))
  have s4 := same_upd h4 (.tup (natV [0, 1]))
  have s5 := same_upd h5 (.tup (natV [0, 1]))
  have s6 := same_upd hl (.lst [.non, .ref t1, .ref t2, .ref t3, .ref t4, .ref t5])
  have e5 := s5.trans s6
  have e4 := s4.trans e5
  have e3 := s3.trans e4
  have e2 := s2.trans e3
  have k1 := hh.mono (s1.trans e2)
  have L1 : All2 (AskH K _) aks2 [.non, .ref t1, .ref t2, .ref t3, .ref t4, .ref t5] := ⟨_, _, rfl, rfl, _, _, rfl, ⟨t1, rfl, tups_of e2 _ _ sq_new⟩, _, _, rfl, ⟨t2, rfl, tups_of e3 _ _ sq_new⟩, _, _, rfl, ⟨t3, rfl, tups_of e4 _ _ sq_new⟩, _, _, rfl, ⟨t4, rfl, tups_of e5 _ _ sq_new⟩, _, _, rfl, ⟨t5, rfl, tups_of s6 _ _ sq_new⟩, rfl⟩
  refine ⟨h, l, _, rfl, k1, (hh.mono (s1.trans (s2.trans (s3.trans (s4.trans s5))))).ne hl, SqL.of upd_same, (by show 0 < 6; decide), (by show 6 < 1000000; decide), fun H1 r x hx g1 => ?_⟩
  obtain ⟨a2, ha2, hx2⟩ := drawn (fun e x h => AskH.mono (g1.tups k1) h) L1 hx
  have G1 : Gw h H H1 := (Gw.of_same hh (s1.trans e2)).trans g1
  clear k1 L1 g1
  refine ⟨z4, fun p2 hp2 => ?_⟩
  have w2 := same_upd hp2 (.tup [.str "pair", .int 2, x, .non])
  have k2 := G1.2.mono w2
  have G2 := G1.trans (Gw.of_same G1.2 w2)
  have R2 : NRowH K _ ⟨"pair", 2, a2, none⟩ (.ref p2) := ⟨p2, x, .non, rfl, sq_new, hx2.mono (tups_of w2), rfl⟩
  clear s1 s2 s3 s4 s5 s6 e5 e4 e3 e2 hx2 G1 w2
  -- what is carried
  refine ⟨_, rfl, z2, fun t1 h1 => ⟨z2, fun t2 h2 => ⟨z1, fun t3 h3 => ⟨z3, fun t4 h4 => ⟨z2, fun t5 h5 => ⟨z2, fun t6 h6 => ⟨z3, fun t7 h7 => ⟨z4, fun l hl => ?_⟩⟩⟩⟩⟩⟩⟩⟩
  have s1 := same_upd h1 (.tup [.str "var", .int 0])
  have s2 := same_upd h2 (.tup [.str "var", .int 0])
  have s3 := same_upd h3 (.tup [.ref t2])
  have s4 := same_upd h4 (.tup [.str "made", .int 5, .ref t3])
  have s5 := same_upd h5 (.tup [.str "var", .int 0])
  have s6 := same_upd h6 (.tup [.str "var", .int 0])
  have s7 := same_upd h7 (.tup [.str "fn", .ref t5, .ref t6])
  have s8 := same_upd hl (.lst [.non, .ref t1, .ref t4, .ref t7])
  have e7 := s7.trans s8
  have e6 := s6.trans e7
  have e5 := s5.trans e6
  have e4 := s4.trans e5
  have e3 := s3.trans e4
  have e2 := s2.trans e3
  have e1 := s1.trans e2
  have k3 := k2.mono e1
  have L2 : All2 (CarH K _) cars [.non, .ref t1, .ref t4, .ref t7] := ⟨_, _, rfl, rfl, _, _, rfl, .var (tups_of e2 _ _ sq_new), _, _, rfl, .made (tups_of e5 _ _ sq_new) (tups_of e4 _ _ sq_new) (.cons (.var (tups_of e3 _ _ sq_new)) .nil),
    _, _, rfl, .fn (tups_of s8 _ _ sq_new) (.var (tups_of e6 _ _ sq_new)) (.var (tups_of e7 _ _ sq_new)), rfl⟩
  refine ⟨h, l, _, rfl, k3, (k2.mono (s1.trans (s2.trans (s3.trans (s4.trans (s5.trans (s6.trans s7))))))).ne hl, SqL.of upd_same, (by show 0 < 4; decide), (by show 4 < 1000000; decide), fun H3 r2 y hy g3 => ?_⟩
  obtain ⟨c, hc, hyC⟩ := drawn (fun e x h => CarH.mono (g3.tups k3) h) L2 hy
  have T3 := (g3.tups (K := K) k3)
  have R2 := (R2.mono (tups_of e1)).mono T3
  have G3 : Gw h H H3 := (G2.trans (Gw.of_same k2 e1)).trans g3
  clear k2 k3 L2 g3 T3 G2 s1 s2 s3 s4 s5 s6 s7 s8 e1 e2 e3 e4 e5 e6 e7
  -- what it is made of
  refine ⟨_, rfl, _, rfl, z2, fun t1 h1 => ⟨z2, fun t2 h2 => ⟨z2, fun t3 h3 => ⟨z2, fun l hl => ?_⟩⟩⟩⟩
  have s1 := same_upd h1 (.tup [.str "Box", y])
  have s2 := same_upd h2 (.tup [.str "No", .non])
  have s3 := same_upd h3 (.tup [.ref t1, .ref t2])
  have s4 := same_upd hl (.lst [.non, .ref t3])
  have e3 := s3.trans s4
  have e2 := s2.trans e3
  have e1 := s1.trans e2
  have k4 := G3.2.mono e1
  have L3 : All2 (ConH K _) [none, some c] [.non, .ref t3] := ⟨_, _, rfl, rfl, _, _, rfl, ⟨t3, t1, t2, y, rfl, tups_of s4 _ _ sq_new, tups_of e2 _ _ sq_new, tups_of e3 _ _ sq_new, hyC.mono (tups_of e1)⟩, rfl⟩
  refine ⟨h, l, _, rfl, k4, (G3.2.mono (s1.trans (s2.trans s3))).ne hl, SqL.of upd_same, (by show 0 < 2; decide), (by show 2 < 1000000; decide), fun H4 r3 b hb g4 => ?_⟩
  obtain ⟨con, hcon, hbC⟩ := drawn (fun e x h => ConH.mono (g4.tups k4) h) L3 hb
  have R2 := (R2.mono (tups_of e1)).mono (g4.tups (K := K) k4)
  have G4 : Gw h H H4 := (G3.trans (Gw.of_same G3.2 e1)).trans g4
  clear k4 L3 g4 G3 s1 s2 s3 s4 e1 e2 e3 hyC
  -- the second row
  refine ⟨_, rfl, z0, fun t1 h1 => ⟨z1, fun t2 h2 => ⟨z1, fun t3 h3 => ⟨z4, fun l hl => ?_⟩⟩⟩⟩
  have s1 := same_upd h1 (.tup (natV []))
  have s2 := same_upd h2 (.tup (natV [0]))
  have s3 := same_upd h3 (.tup (natV [0]))
  have s4 := same_upd hl (.lst [.non, .ref t1, .ref t2, .ref t3])
  have e3 := s3.trans s4
  have e2 := s2.trans e3
  have e1 := s1.trans e2
  have k5 := G4.2.mono e1
  have L4 : All2 (AskH K _) aks1 [.non, .ref t1, .ref t2, .ref t3] := ⟨_, _, rfl, rfl, _, _, rfl, ⟨t1, rfl, tups_of e2 _ _ sq_new⟩, _, _, rfl, ⟨t2, rfl, tups_of e3 _ _ sq_new⟩, _, _, rfl, ⟨t3, rfl, tups_of s4 _ _ sq_new⟩, rfl⟩
  refine ⟨h, l, _, rfl, k5, (G4.2.mono (s1.trans (s2.trans s3))).ne hl, SqL.of upd_same, (by show 0 < 4; decide), (by show 4 < 1000000; decide), fun H5 r4 z hz g5 => ?_⟩
  obtain ⟨a1, ha1, hzA⟩ := drawn (fun e x h => AskH.mono (g5.tups k5) h) L4 hz
  have R2 := (R2.mono (tups_of e1)).mono (g5.tups (K := K) k5)
  have hbC := (hbC.mono (tups_of e1)).mono (g5.tups (K := K) k5)
  have G5 : Gw h H H5 := (G4.trans (Gw.of_same G4.2 e1)).trans g5
  clear k5 L4 g5 G4 s1 s2 s3 s4 e1 e2 e3
  refine ⟨_, rfl, z4, fun p1 hp1 => ?_⟩
  have w1 := same_upd hp1 (.tup [.str "box", .int 1, z, b])
  have R1 : NRowH K _ ⟨"box", 1, a1, con⟩ (.ref p1) := ⟨p1, z, b, rfl, sq_new, hzA.mono (tups_of w1), hbC.mono (tups_of w1)⟩
  have R2 := R2.mono (tups_of w1)
  have k6 := G5.2.mono w1
  have G6 := G5.trans (Gw.of_same G5.2 w1)
  clear G5 w1 hzA hbC
  -- the third row
  refine ⟨_, rfl, _, rfl, _, rfl, z0, fun t1 h1 => ⟨z2, fun l hl => ?_⟩⟩
  have s1 := same_upd h1 (.tup (natV []))
  have s4 := same_upd hl (.lst [.non, .ref t1])
  have e1 := s1.trans s4
  have k7 := k6.mono e1
  have L5 : All2 (AskH K _) aks0 [.non, .ref t1] := ⟨_, _, rfl, rfl, _, _, rfl, ⟨t1, rfl, tups_of s4 _ _ sq_new⟩, rfl⟩
  refine ⟨h, l, _, rfl, k7, (k6.mono s1).ne hl, SqL.of upd_same, (by show 0 < 2; decide), (by show 2 < 1000000; decide), fun H6 r5 v hv g6 => ?_⟩
  obtain ⟨a0, ha0, hvA⟩ := drawn (fun e x h => AskH.mono (g6.tups k7) h) L5 hv
  have R2 := (R2.mono (tups_of e1)).mono (g6.tups (K := K) k7)
  have R1 := (R1.mono (tups_of e1)).mono (g6.tups (K := K) k7)
  have G7 : Gw h H H6 := (G6.trans (Gw.of_same k6 e1)).trans g6
  refine ⟨z4, fun p0 hp0 => ⟨z3, fun p hp => ?_⟩⟩
  have w1 := same_upd hp0 (.tup [.str "far", .int 0, v, .non])
  have w2 := same_upd hp (.tup [.ref p2, .ref p1, .ref p0])
  have w3 := w1.trans w2
  refine q _ p _ _ (G7.trans (Gw.of_same G7.2 w3)) ⟨a2, a1, a0, con, rfl, ha2, ha1, ha0, fun T e => ?_⟩ sq_new ⟨_, _, rfl, R2.mono (tups_of w3), _, _, rfl, R1.mono (tups_of w3), _, _, rfl, ⟨p0, v, .non, rfl, tups_of w2 _ _ sq_new, hvA.mono (tups_of w3), rfl⟩, rfl⟩
  rw [e] at hcon
  have hcon := List.mem_cons.mp hcon
  rcases hcon with hcon | hcon
  · cases hcon
  · have hcon := List.mem_singleton.mp hcon
    injection hcon with hcon
    rw [hcon]
    exact hc
end
end Lq
namespace Lq
open PySem L2
def TRowH (K : PySem.W.Frag) (H : Hp) (row : Row) (v : V) : Prop := ∃ (p : Addr) (z av : V), v = .ref p ∧ SqT K H p [z, .int (row.n : Int), av] ∧ AskH K H row.ask av
theorem TRowH.mono {K : PySem.W.Frag} {H H' : Hp} (e : Tups K H H') (row : Row) (v : V) (h : TRowH K H row v) : TRowH K H' row v := by
  obtain ⟨p, z, av, h1, h2, h3⟩ := h
  exact ⟨p, z, av, h1, e _ _ h2, h3.mono e⟩
def tkv : Nat → List V → List (Key × V)
  | _, [] => []
  | n, v :: r => (Sum.inl (n : Int), v) :: tkv (n + 1) r
theorem tkv_ne : ∀ (n : Nat) (vs : List V) (m : Nat), (m < n ∨ n + vs.length ≤ m) → (tkv n vs).any (fun kv => decide (kv.1 = (Sum.inl (m : Int) : Key))) = false
  | n, [], m, _ => rfl
  | n, v :: r, m, h => by
    have h1 : ¬ ((Sum.inl (n : Int) : Key) = Sum.inl (m : Int)) := by
      intro e
      injection e with e
      rw [List.length_cons] at h
      omega
    show (decide ((Sum.inl (n : Int) : Key) = Sum.inl (m : Int)) || (tkv (n + 1) r).any _) = false
    rw [decide_eq_false h1, Bool.false_or]
    exact tkv_ne (n + 1) r m (by rw [List.length_cons] at h; omega)
theorem tkv_app : ∀ (n : Nat) (vs : List V) (v : V), tkv n (vs ++ [v]) = tkv n vs ++ [(Sum.inl ((n + vs.length : Nat) : Int), v)]
  | n, [], v => rfl
  | n, x :: r, v => by
    show (Sum.inl (n : Int), x) :: tkv (n + 1) (r ++ [v]) = _
    rw [tkv_app (n + 1) r v, List.length_cons, show n + 1 + r.length = n + (r.length + 1) by omega]
    rfl
theorem tkv_put (n : Nat) (vs : List V) (v : V) : putK (tkv n vs) (Sum.inl ((n + vs.length : Nat) : Int)) v = tkv n (vs ++ [v]) := by
  unfold putK
  rw [tkv_ne n vs _ (.inr (Nat.le_refl _)), if_neg Bool.false_ne_true, tkv_app]
theorem tkv_get : ∀ (n : Nat) (vs : List V) (i : Nat), valV (tkv n vs) (Sum.inl ((n + i : Nat) : Int)) = vs[i]?
  | n, [], i => rfl
  | n, v :: r, 0 => by
    unfold valV
    show (List.find? _ ((Sum.inl (n : Int), v) :: tkv (n + 1) r)).map _ = _
    rw [List.find?_cons_of_pos (by simp)]
    rfl
  | n, v :: r, i + 1 => by
    have h1 : ¬ ((Sum.inl (n : Int) : Key) = Sum.inl ((n + (i + 1) : Nat) : Int)) := by
      intro e
      injection e with e
      omega
    have := tkv_get (n + 1) r i
    rw [show n + 1 + i = n + (i + 1) by omega] at this
    rw [List.getElem?_cons_succ, ← this]
    unfold valV
    show (List.find? _ ((Sum.inl (n : Int), v) :: tkv (n + 1) r)).map _ = _
    rw [List.find?_cons_of_neg]
    simpa using h1
theorem tkv_len : ∀ (n : Nat) (vs : List V), (tkv n vs).length = vs.length
  | _, [] => rfl
  | n, v :: r => by
    show (tkv (n + 1) r).length + 1 = _
    rw [tkv_len, List.length_cons]
/-- the law's own table of stamps -/
def TabH (K : PySem.W.Frag) (H : Hp) (d : Addr) (rows : List Row) : Prop := ∃ vs, H d = some (.dK (tkv 1 vs)) ∧ All2 (TRowH K H) rows vs
theorem TabH.get {K : PySem.W.Frag} {H : Hp} {d : Addr} {rows : List Row} (h : TabH K H d rows) {s : Nat} {row : Row} (h0 : 0 < s) (e : rows[s - 1]? = some row) : ∃ v, DGet H d (.int (s : Int)) (some v) ∧ TRowH K H row v := by
  obtain ⟨vs, hd, ha⟩ := h
  obtain ⟨v, hv, hR⟩ := ha.get e
  have g := DGet.k (k := Sum.inl (s : Int)) hd
  have := tkv_get 1 vs (s - 1)
  rw [show 1 + (s - 1) = s by omega, hv] at this
  rw [this] at g
  exact ⟨v, g, hR⟩
theorem TabH.mono {K : PySem.W.Frag} {H H' : Hp} {d : Addr} (s : Same H H') {rows : List Row} (h : TabH K H d rows) : TabH K H' d rows := by
  obtain ⟨vs, hd, ha⟩ := h
  exact ⟨vs, s _ _ hd, ha.mono (TRowH.mono (tups_of s))⟩
theorem TabH.gw {K : PySem.W.Frag} {H H' : Hp} {d h : Addr} (k : HatOk H h) (g : Gw h H H') {rows : List Row} (t : TabH K H d rows) : TabH K H' d rows := by
  have tt := g.tups (K := K) k
  obtain ⟨vs, hd, ha⟩ := t
  obtain ⟨i, j, l, e⟩ := k
  exact ⟨vs, g.1 _ _ (ne_of hd e (by intro z; cases z)) hd, ha.mono (TRowH.mono tt)⟩
theorem tups_dK {K : PySem.W.Frag} {H : Hp} {t : Addr} {kvs : List (Key × V)} (h : H t = some (.dK kvs)) (o : HO) : Tups K H (upd H t o) := by
  intro a ys q
  rcases q with (q | ⟨u, q⟩) | q
  · exact .inl (.inl (by rw [upd_ne (ne_of q h (by intro z; cases z))]; exact q))
  · exact .inl (.inr ⟨u, by rw [upd_ne (ne_of q h (by intro z; cases z))]; exact q⟩)
  · exact .inr q
section
variable {P : Program} {w : World} {K : PySem.W.Frag} {mg : Str → Option Value} {base : Heap} {C : Addr}
theorem merge5 (a b c d e : V) : mergeK [] (tkv 1 [a, b, c, d, e]) = tkv 1 [a, b, c, d, e] := rfl
abbrev s__law_table : Stmt := top 57
theorem sc__law_table : FnScope ["_law_rows_here", "_law_found", "_law_at", "_law_row"] ["_law_rows_here"] (defScope s__law_table) := ⟨rfl, rfl, rfl, by decide +kernel, rfl, by decide +kernel, by decide +kernel⟩
def spTable (K : PySem.W.Frag) : Sp := fun vs H Q _ => ∃ (p : Addr) (nrs : List NRow) (ws : List V), vs = [.ref p] ∧ SqT K H p ws ∧ All2 (NRowH K H) nrs ws ∧ nrs.length ≤ 100 ∧ ∀ (H' : Hp) (d : Addr), Same H H' → TabH K H' d (firstRows ++ nrs.map NRow.row) → Q (.ref d) H'
theorem ok_table (A : At K mg "_law_table" s__law_table ["_law_rows_here"]) (B : Bi mg) : Has P w K mg base "_law_table" ["_law_rows_here"] 1 (spTable K) := by
  refine .mk A fun f fd F => ?_
  refine F.ok sc__law_table (fun vs H Q E h => ?_) (fun cdv A outer s H vs Q E hr h => ?_)
  · obtain ⟨p, nrs, ws, rfl, _⟩ := h
    rfl
  obtain ⟨p, nrs, ws, rfl, hp, ha, hl, q⟩ := h
  refine ⟨_, (pss_cons (ps_set (i := 1) sc__law_table.nd rfl (Or.inl rfl) (pe_disp (pps_cons pe_int (pe_tup (pa_cons pe_str (pa_cons pe_int (pa_cons (pe_tup pa_nil) pa_nil)))) (pps_cons pe_int (pe_tup (pa_cons pe_str (pa_cons pe_int (pa_cons (pe_tup pa_nil) pa_nil)))) (pps_cons pe_int (pe_tup (pa_cons pe_str (pa_cons pe_int (pa_cons (pe_tup pa_nil) pa_nil)))) (pps_cons pe_int (pe_tup (pa_cons pe_str (pa_cons pe_int (pa_cons pe_non pa_nil)))) (pps_cons pe_int (pe_tup (pa_cons pe_str (pa_cons pe_int (pa_cons (pe_tup (pa_cons pe_int pa_nil)) pa_nil)))) pps_nil))))) rfl rfl (fun z => nomatch z) (by decide)))
  (pss_cons (ps_dput (hu_of hr) (pv 1) pe_int (pe_tup (pa_cons pe_str (pa_cons pe_int (pa_cons (pe_tup pa_nil) pa_nil)))) rfl)
  (pss_cons (ps_for PassesOwn.never rfl (pi_enumT (by rfl) B.enumerate (pa_cons (pv 0) pa_nil)) (pg_tup rfl (pgs_cons (pg_name (i := 2) sc__law_table.nd rfl (Or.inl rfl)) (pgs_cons (pg_name (i := 3) sc__law_table.nd rfl (Or.inl rfl)) pgs_nil))) (pss_one (ps_dput (hu_of hr) (pv 1) (pe_op op_add pe_int (pv 2)) (pe_slice sl_tup (pv 3) po_none (po_some pe_int)) rfl)))
  (pss_one (ps_ret (pv 1)))))), ?_⟩
  have hl2 := ha.len
  refine fun d hd => ⟨z0, fun a1 ha1 => ⟨z3, fun t1 ht1 => ⟨z0, fun a2 ha2 => ⟨z3, fun t2 ht2 => ⟨z0, fun a3 ha3 => ⟨z3, fun t3 ht3 => ⟨z3, fun t4 ht4 => ⟨z1, fun a5 ha5 => ⟨z3, fun t5 ht5 => ?_⟩⟩⟩⟩⟩⟩⟩⟩⟩
  have g0 := same_upd hd (.dK [])
  have u1 := same_upd ha1 (.tup (natV []))
  have v1 := same_upd ht1 (.tup [.str "int", .int 0, .ref a1])
  have u2 := same_upd ha2 (.tup (natV []))
  have v2 := same_upd ht2 (.tup [.str "string", .int 0, .ref a2])
  have u3 := same_upd ha3 (.tup (natV []))
  have v3 := same_upd ht3 (.tup [.str "bool", .int 0, .ref a3])
  have v4 := same_upd ht4 (.tup [.str "exn", .int 0, .non])
  have u5 := same_upd ha5 (.tup (natV [0]))
  have v5 := same_upd ht5 (.tup [.str "list", .int 1, .ref a5])
  have e9 := u5.trans v5
  have e8 := v4.trans e9
  have e7 := v3.trans e8
  have e6 := u3.trans e7
  have e5 := v2.trans e6
  have e4 := u2.trans e5
  have e3 := v1.trans e4
  have e2 := u1.trans e3
  have hd1 := e2 d (.dK []) upd_same
  have T5 : All2 (TRowH K _) [⟨0, some []⟩, ⟨0, some []⟩, ⟨0, some []⟩, ⟨0, none⟩, ⟨1, some [0]⟩] [.ref t1, .ref t2, .ref t3, .ref t4, .ref t5] :=
    ⟨_, _, rfl, ⟨t1, _, _, rfl, tups_of e4 _ _ sq_new, a1, rfl, tups_of e3 _ _ sq_new⟩, _, _, rfl, ⟨t2, _, _, rfl, tups_of e6 _ _ sq_new, a2, rfl, tups_of e5 _ _ sq_new⟩, _, _, rfl, ⟨t3, _, _, rfl, tups_of e8 _ _ sq_new, a3, rfl, tups_of e7 _ _ sq_new⟩,
      _, _, rfl, ⟨t4, _, _, rfl, tups_of e9 _ _ sq_new, rfl⟩, _, _, rfl, ⟨t5, _, _, rfl, sq_new, a5, rfl, tups_of v5 _ _ sq_new⟩, rfl⟩
  have gH := g0.trans e2
  refine ⟨hd1, tkv 1 [.ref t1, .ref t2, .ref t3, .ref t4, .ref t5], rfl, by show 5 ≤ 15; decide, ?_⟩
  rw [merge5]
  have T5 := T5.mono (TRowH.mono (tups_dK hd1 (.dK (tkv 1 [.ref t1, .ref t2, .ref t3, .ref t4, .ref t5]))))
  have gH := same_set gH hd (.dK (tkv 1 [.ref t1, .ref t2, .ref t3, .ref t4, .ref t5]))
  refine ⟨z0, fun a6 ha6 => ⟨z3, fun t6 ht6 => ⟨_, rfl, ?_⟩⟩⟩
  have u6 := same_upd ha6 (.tup (natV []))
  have v6 := same_upd ht6 (.tup [.str "ref", .int 1, .ref a6])
  have e6' := u6.trans v6
  have hd3 := e6' d (.dK (tkv 1 [.ref t1, .ref t2, .ref t3, .ref t4, .ref t5])) upd_same
  refine ⟨d, _, rfl, DPut.k (k := Sum.inl 6) hd3 (by show 5 < sizeLine; decide), ?_⟩
  have T6 : All2 (TRowH K _) firstRows [.ref t1, .ref t2, .ref t3, .ref t4, .ref t5, .ref t6] := (T5.mono (TRowH.mono (tups_of e6'))).app ⟨_, _, rfl, ⟨t6, _, _, rfl, sq_new, a6, rfl, tups_of v6 _ _ sq_new⟩, rfl⟩
  have T6 := T6.mono (TRowH.mono (tups_dK hd3 (.dK (putK (tkv 1 [.ref t1, .ref t2, .ref t3, .ref t4, .ref t5]) (Sum.inl 6) (.ref t6)))))
  have gH := same_set (gH.trans e6') hd (.dK (putK (tkv 1 [.ref t1, .ref t2, .ref t3, .ref t4, .ref t5]) (Sum.inl 6) (.ref t6)))
  refine ⟨_, rfl, p, ws, rfl, tups_of gH _ _ hp, for_enumT (K := K) (fun i σ H3 => ∃ s2 s3 vs3, σ = [some (.ref p), some (.ref d), s2, s3] ∧ Same H H3 ∧ H3 d = some (.dK (tkv 1 vs3)) ∧ All2 (TRowH K H3) (firstRows ++ (nrs.take i).map NRow.row) vs3)
    ⟨_, _, _, rfl, gH, upd_same, by rw [List.take_zero, List.map_nil, List.append_nil]; exact T6⟩ (fun i σ H3 z => ?_) ?_ ?_⟩
  · obtain ⟨_, _, _, _, g3, _⟩ := z
    exact tups_of g3 _ _ hp
  · rintro i x T σ H3 hx ⟨s2, s3, vs3, rfl, g3, hd4, ha3⟩ hT
    obtain ⟨nr, hnr, hxR⟩ := ha.mem hx
    have w := same_upd hT (.tup [.int (i : Nat), x])
    obtain ⟨pr, av, cv, rfl, hpr, hav, _⟩ := hxR
    have hpr := tups_of (g3.trans w) _ _ hpr
    have hav := hav.mono (tups_of (g3.trans w))
    refine ⟨T, _, rfl, sq_new, rfl, _, _, rfl, _, _, rfl, rfl, ?_⟩
    have hil := lt_of_get hnr
    have hl3 := ha3.len
    rw [List.length_append, List.length_map, List.length_take, Nat.min_eq_left (Nat.le_of_lt hil), show firstRows.length = 6 from rfl] at hl3
    have hd5 := w _ _ hd4
    refine ⟨_, rfl, _, rfl, pr, _, rfl, hpr, (show ¬ (HT.sIx 4 0 none = 0 ∧ HT.sIx 4 4 (some 3) = 4) by decide), fun np hnp => ?_⟩
    have w2 := same_upd hnp (.tup [.str nr.z, .int (nr.n : Int), av])
    have hd6 := w2 _ _ hd5
    refine ⟨_, rfl, _, rfl, _, _, rfl, rfl, d, _, rfl, DPut.k (k := Sum.inl (7 + (i : Int))) hd6 (by rw [tkv_len]; exact small1000 (by omega)), ?_⟩
    have ek : (Sum.inl (7 + (i : Int)) : Key) = Sum.inl ((1 + vs3.length : Nat) : Int) := by
      rw [hl3]
      exact congrArg Sum.inl (by omega)
    rw [ek, tkv_put]
    have w3 := w.trans w2
    have nw : All2 (TRowH K _) [nr.row] [.ref np] := All2.one ⟨np, _, av, rfl, sq_new, hav.mono (tups_of w2)⟩
    have ha4 := (((ha3.mono (TRowH.mono (tups_of w3))).app nw).mono (TRowH.mono (tups_dK hd6 (.dK (tkv 1 (vs3 ++ [.ref np]))))))
    refine ⟨_, _, _, rfl, same_set (g3.trans w3) hd _, upd_same, ?_⟩
    rw [take_snoc hnr, List.map_append, ← List.append_assoc]
    exact ha4
  · rintro σ H3 ⟨s2, s3, vs3, rfl, g3, hd4, ha3⟩
    rw [hl2, List.take_length] at ha3
    exact ⟨_, rfl, q H3 d g3 ⟨vs3, hd4, ha3⟩⟩
end
end Lq
namespace Lq
open PySem L2
def ar9 : List Nat := [0, 0, 0, 0, 1, 1, 2, 1, 0]
def bd : Nat → Nat
  | 0 => 1
  | d + 1 => 1 + 3 * bd d
theorem bd_pos : ∀ d, 1 ≤ bd d
  | 0 => Nat.le_refl _
  | d + 1 => Nat.le_add_right _ _
theorem mem_pres_inv {t : Ty} : ∀ {ts : List Ty}, t ∈ Ty.pres ts → ∃ u ∈ ts, t ∈ u.pre
  | [], h => by
    rw [pres_nil] at h
    cases h
  | x :: r, h => by
    rw [pres_cons] at h
    rcases List.mem_append.mp h with h | h
    · exact ⟨x, List.mem_cons_self, h⟩
    · obtain ⟨u, h1, h2⟩ := mem_pres_inv h
      exact ⟨u, List.mem_cons_of_mem _ h1, h2⟩
theorem Ty.Ok.node {ar : List Nat} {l : Lab} {ts : List Ty} (h : LocOk ar l ts.length) (hs : ∀ t ∈ ts, t.Ok ar) : (Ty.node l ts).Ok ar := fun t ht => by
  rw [pre_eq] at ht
  rcases List.mem_cons.mp ht with e | ht
  · rw [e]
    exact h
  · obtain ⟨u, h1, h2⟩ := mem_pres_inv ht
    exact hs u h1 t h2
theorem vars_node {l : Lab} {ts : List Ty} {n : Nat} (h : n ∈ (Ty.node l ts).vars) : l.num = some n ∨ ∃ t ∈ ts, n ∈ t.vars := by
  obtain ⟨t, ht, hn⟩ := List.mem_filterMap.mp h
  rw [pre_eq] at ht
  rcases List.mem_cons.mp ht with e | ht
  · rw [e] at hn
    exact .inl hn
  · obtain ⟨u, h1, h2⟩ := mem_pres_inv ht
    exact .inr ⟨u, h1, List.mem_filterMap.mpr ⟨t, h2, hn⟩⟩
/-- a drawn type -/
structure TyB (c b : Nat) (T : Ty) : Prop where
  ok : T.Ok ar9
  vr : ∀ n, n ∈ T.vars → n < c
  sz : T.sz ≤ b
theorem szs_le {b : Nat} : ∀ {ts : List Ty}, (∀ t ∈ ts, t.sz ≤ b) → Ty.szs ts ≤ ts.length * b
  | [], _ => by rw [szs_nil]; exact Nat.zero_le _
  | t :: r, h => by
    have h1 := h t List.mem_cons_self
    have h2 := szs_le (ts := r) fun u hu => h u (List.mem_cons_of_mem _ hu)
    rw [szs_cons, List.length_cons, Nat.succ_mul]
    omega
theorem TyB.node {c b : Nat} {l : Lab} {ts : List Ty} (h : LocOk ar9 l ts.length) (hl : l.num = none) (hs : ∀ t ∈ ts, TyB c b t) (h3 : ts.length ≤ 3) : TyB c (1 + 3 * b) (.node l ts) := by
  refine ⟨.node h fun t ht => (hs t ht).ok, fun n hn => ?_, ?_⟩
  · rcases vars_node hn with e | ⟨t, h1, h2⟩
    · rw [hl] at e
      cases e
    · exact (hs t h1).vr n h2
  · have := szs_le fun t ht => (hs t ht).sz
    have h4 : ts.length * b ≤ 3 * b := Nat.mul_le_mul_right b h3
    rw [Ty.sz]
    omega
theorem TyB.leaf {c b : Nat} {l : Lab} (h : LocOk ar9 l 0) (hl : ∀ n, l.num = some n → n < c) (hb : 1 ≤ b) : TyB c b (.node l []) := by
  refine ⟨Ty.Ok.node h fun t ht => (nomatch ht), fun n hn => ?_, ?_⟩
  · rcases vars_node hn with e | ⟨t, h1, _⟩
    · exact hl n e
    · cases h1
  · rw [Ty.sz, szs_nil]
    exact hb
theorem TyB.up {c b b' : Nat} {T : Ty} (h : TyB c b T) (e : b ≤ b') : TyB c b' T := ⟨h.ok, h.vr, Nat.le_trans h.sz e⟩
theorem tOr_both {ta tb : TT} {σ : St} {H : Hp} {Q : Bool → Hp → Prop} {a b : Bool} (ha : ∀ R : Bool → Hp → Prop, R a H → ta σ H R) (hb : ∀ R : Bool → Hp → Prop, R b H → tb σ H R) (h : Q (a || b) H) : tOr ta tb σ H Q := by
  refine ha _ ?_
  cases a with
  | true => exact (if_pos rfl).mpr h
  | false => exact (if_neg Bool.false_ne_true).mpr (hb _ h)
def stampsP : List Nat := [1, 1, 2, 3, 4, 9]
def plainT : List Ty := stampsP.map fun s => tmd s []
theorem plain_b {c b : Nat} (hb : 1 ≤ b) {t : Ty} (h : t ∈ plainT) : TyB c b t := by
  obtain ⟨s, hs, rfl⟩ := List.mem_map.mp h
  refine .leaf ?_ (fun n e => nomatch e) hb
  simp only [stampsP, List.mem_cons, List.not_mem_nil, or_false] at hs
  rcases hs with rfl | rfl | rfl | rfl | rfl | rfl <;> exact ⟨by decide, by decide, rfl⟩
section
variable {P : Program} {w : World} {K : PySem.W.Frag} {mg : Str → Option Value} {base : Heap} {C : Addr}
abbrev s__law_type : Stmt := top 58
theorem sc__law_type : FnScope ["_law_hat_here", "_law_count", "_law_deep", "_law_way", "_law_plain", "_law_stamp", "_law_some", "_law_turn"] ["_law_hat_here", "_law_count", "_law_deep"] (defScope s__law_type) := ⟨rfl, rfl, rfl, by decide +kernel, rfl, by decide +kernel, by decide +kernel⟩
/-- n calls are allowed -/
def spType (K : PySem.W.Frag) (n : Nat) : Sp := fun vs H Q _ => ∃ (h : Addr) (c d : Nat), vs = [.ref h, .int (c : Int), .int (d : Int)] ∧ HatOk H h ∧ 0 < c ∧ c ≤ 3 ∧ d + 1 = n ∧ ∀ (H' : Hp) (T : Ty) (v : V), Gw h H H' → TyH K H' T v → TyB c (bd d) T → Q v H'
theorem no_calls {f : Addr} {fd : FuncData} : FnOk P w K mg base CX0 2 f fd ["_law_hat_here", "_law_count", "_law_deep"] (spType K 0) := by
  have no : ∀ vs H Q E, ¬ spType K 0 vs H Q E := fun vs H Q E h => by
    obtain ⟨h, c, d, _, _, _, _, h1, _⟩ := h
    omega
  exact ⟨fun vs H Q E h => absurd h (no vs H Q E), fun A outer s H args us vs Q E _ _ _ _ h => absurd h (no vs H Q E)⟩
theorem type_step {n : Nat} {f__law_type : Addr} {fd__law_type : FuncData} (F : Fun K "_law_type" "_law_type" s__law_type f__law_type fd__law_type) (b__law_type : Binds K fd__law_type ["_law_hat_here", "_law_count", "_law_deep"] []) (m__law_type : mg "_law_type" = some (.ref f__law_type)) (B : Bi mg)
    (D__law_lift : Has P w K mg base "_law_lift" ["_law_hat_here", "_law_total"] 1 spLift) (D__law_choice : Has P w K mg base "_law_choice" ["_law_hat_here", "_law_items"] 2 (spChoice K)) (G__law_type : FnOk P w K mg base CX0 (n + 2) f__law_type fd__law_type ["_law_hat_here", "_law_count", "_law_deep"] (spType K n)) :
    FnOk P w K mg base CX0 (n + 3) f__law_type fd__law_type ["_law_hat_here", "_law_count", "_law_deep"] (spType K (n + 1)) := by
  have k__law_type := F.kp
  refine F.ok sc__law_type (fun vs H Q E h => ?_) (fun cdv A outer s H vs Q E hr h => ?_)
  · obtain ⟨h, c, d, rfl, _⟩ := h
    rfl
  obtain ⟨h, c, d, rfl, hh, c0, c3, hdn, q⟩ := h
  obtain ⟨f__law_lift, fd__law_lift, G__law_lift, b__law_lift, k__law_lift, m__law_lift⟩ := D__law_lift
  obtain ⟨f__law_choice, fd__law_choice, G__law_choice, b__law_choice, k__law_choice, m__law_choice⟩ := D__law_choice
  refine ⟨_, (pss_cons (ps_set (i := 3) sc__law_type.nd rfl (Or.inl rfl) (pe_call G__law_lift (hr.mono (by omega)) rfl m__law_lift k__law_lift b__law_lift .nil pass0 (pa_cons (pv 0) (pa_cons pe_int pa_nil))))
  (pss_cons (ps_if (PW.pt (pw_or (pt_cmpR op_eq (pv 2) pe_int (nomark _)) (pw_or1 (pt_cmpR op_lt (pv 3) pe_int (nomark _))))) (pss_cons (ps_set (i := 4) sc__law_type.nd rfl (Or.inl rfl) (pe_op op_cat (pe_lc (own := [("_law_stamp", 5)]) (g := gName 5) (tt := tYes) (by rfl) sc__law_type.nd (pi_tup (pe_tup (pa_cons pe_int (pa_cons pe_int (pa_cons pe_int (pa_cons pe_int (pa_cons pe_int (pa_cons pe_int pa_nil)))))))) (blkOk_by (N := ["_law_hat_here", "_law_count", "_law_deep", "_law_way", "_law_plain", "_law_stamp", "_law_some", "_law_turn"]) (sc := defScope s__law_type) (by decide +kernel)) (fun _ _ _ _ _ => (pg_name (i := 5) sc__law_type.nd rfl (Or.inl rfl))) (fun _ _ _ _ _ => pts_nil) (fun _ _ _ _ _ => (pe_tup (pa_cons pe_str (pa_cons (pv 5) (pa_cons (pe_tup pa_nil) pa_nil)))))) (pe_lst (pa_cons (pe_tup (pa_cons pe_str (pa_cons (pe_tup pa_nil) pa_nil))) pa_nil))))
  (pss_cons (ps_set (i := 6) sc__law_type.nd rfl (Or.inl rfl) (pe_ifExp (pt_cmpR op_gt (pv 1) pe_int (nomark _)) (pe_op op_rep (pe_lst (pa_cons (pe_tup (pa_cons pe_str (pa_cons (pe_call G__law_lift (hr.mono (by omega)) rfl m__law_lift k__law_lift b__law_lift .nil pass0 (pa_cons (pv 0) (pa_cons (pv 1) pa_nil))) pa_nil))) pa_nil)) pe_int) (pe_lst pa_nil)))
  (pss_one (ps_ret (pe_call G__law_choice (hr.mono (by omega)) rfl m__law_choice k__law_choice b__law_choice .nil pass0 (pa_cons (pv 0) (pa_cons (pe_op op_cat (pv 4) (pv 6)) pa_nil))))))) pss_nil)
  (pss_cons (ps_if (pt_cmpR op_lt (pv 3) pe_int (nomark _)) (pss_one (ps_ret (pe_tup (pa_cons pe_str (pa_cons (pe_call G__law_type (hr.mono (by omega)) rfl m__law_type k__law_type b__law_type .nil pass0 (pa_cons (pv 0) (pa_cons (pv 1) (pa_cons (pe_op op_sub (pv 2) pe_int) pa_nil)))) (pa_cons (pe_call G__law_type (hr.mono (by omega)) rfl m__law_type k__law_type b__law_type .nil pass0 (pa_cons (pv 0) (pa_cons (pv 1) (pa_cons (pe_op op_sub (pv 2) pe_int) pa_nil)))) pa_nil)))))) pss_nil)
  (pss_cons (ps_if (pt_cmpR op_eq (pv 3) pe_int (nomark _)) (pss_one (ps_ret (pe_tup (pa_cons pe_str (pa_cons (pe_callTy call_tuple_of (by rfl) B.tuple (by decide +kernel) (pa_cons (pe_lc (own := [("_law_turn", 7)]) (g := gName 7) (tt := tYes) (by rfl) sc__law_type.nd (pi_range1 (by rfl) B.range (pa_cons (pe_op op_add pe_int (pe_callTy call_int1 (by rfl) B.int (by decide +kernel) (pa_cons (pe_cmpR op_eq (pe_call G__law_lift (hr.mono (by omega)) rfl m__law_lift k__law_lift b__law_lift .nil pass0 (pa_cons (pv 0) (pa_cons pe_int pa_nil))) pe_int (nomark _)) pa_nil))) pa_nil)) (blkOk_by (N := ["_law_hat_here", "_law_count", "_law_deep", "_law_way", "_law_plain", "_law_stamp", "_law_some", "_law_turn"]) (sc := defScope s__law_type) (by decide +kernel)) (fun _ _ _ _ _ => (pg_name (i := 7) sc__law_type.nd rfl (Or.inl rfl))) (fun _ _ _ _ _ => pts_nil) (fun _ _ _ _ _ => (pe_call G__law_type (hr.mono (by omega)) rfl m__law_type k__law_type b__law_type .nil pass0 (pa_cons (pv 0) (pa_cons (pv 1) (pa_cons (pe_op op_sub (pv 2) pe_int) pa_nil)))))) pa_nil)) pa_nil))))) pss_nil)
  (pss_cons (ps_if (pt_cmpR op_eq (pv 3) pe_int (nomark _)) (pss_one (ps_ret (pe_tup (pa_cons pe_str (pa_cons pe_int (pa_cons (pe_tup (pa_cons (pe_call G__law_type (hr.mono (by omega)) rfl m__law_type k__law_type b__law_type .nil pass0 (pa_cons (pv 0) (pa_cons (pv 1) (pa_cons (pe_op op_sub (pv 2) pe_int) pa_nil)))) (pa_cons (pe_call G__law_type (hr.mono (by omega)) rfl m__law_type k__law_type b__law_type .nil pass0 (pa_cons (pv 0) (pa_cons (pv 1) (pa_cons (pe_op op_sub (pv 2) pe_int) pa_nil)))) pa_nil))) pa_nil)))))) pss_nil)
  (pss_one (ps_ret (pe_tup (pa_cons pe_str (pa_cons (pe_call G__law_choice (hr.mono (by omega)) rfl m__law_choice k__law_choice b__law_choice .nil pass0 (pa_cons (pv 0) (pa_cons (pe_lst (pa_cons pe_int (pa_cons pe_int (pa_cons pe_int pa_nil)))) pa_nil))) (pa_cons (pe_tup (pa_cons (pe_call G__law_type (hr.mono (by omega)) rfl m__law_type k__law_type b__law_type .nil pass0 (pa_cons (pv 0) (pa_cons (pv 1) (pa_cons (pe_op op_sub (pv 2) pe_int) pa_nil)))) pa_nil)) pa_nil))))))))))), ?_⟩
  refine ⟨_, rfl, h, 9, rfl, hh, by decide, by decide, fun H1 way hway g1 => ?_⟩
  have dcall : ∀ (Hx : Hp) (d' : Nat) (Q' : VK) (E' : XK), d = d' + 1 → HatOk Hx h → (∀ H' T v, Gw h Hx H' → TyH K H' T v → TyB c (bd d') T → Q' v H') → spType K n [.ref h, .int (c : Int), .int ((d : Int) - 1)] Hx Q' E' := fun Hx d' Q' E' e hx k =>
    ⟨h, c, d', congrArg (fun z => [V.ref h, V.int (c : Int), V.int z]) (show (d : Int) - 1 = (d' : Int) by omega), hx, c0, c3, by omega, k⟩
  dsimp only [gName, tSeq, tIfS]
  refine tOr_both (a := decide (V.int (d : Int) = V.int 0)) (b := decide ((way : Int) < 3)) (fun R r => ⟨_, rfl, rfl, _, rfl, r⟩) (fun R r => ⟨_, rfl, _, _, rfl, rfl, _, rfl, r⟩) (ite2 (fun hc => ?_) (fun hc => ?_))
  · refine ⟨z6, fun tt htt => ⟨tt, rfl, ⟨_, sq_new⟩, fun D hD => ?_⟩⟩
    have g2 := Gw.of_same g1.2 (same_upd htt (.tup (natV stampsP)))
    refine lc_tup (K := K) (a := tt) (xs := natV stampsP) (fun i H3 => Same _ H3 ∧ ∃ xs, H3 D = some (.lst xs) ∧ TysH K H3 (plainT.take i) xs) ⟨same_upd hD _, [], upd_same, .nil⟩ (fun i H3 _ z => tups_of z.1 _ _ sq_new) ?_ ?_
    · rintro i x H3 hx ⟨g3, xs, h3, hT⟩
      obtain ⟨m, hm, rfl⟩ := natV_at hx
      refine ⟨rfl, _, rfl, z0, fun e he => ⟨z3, fun p hp => ?_⟩⟩
      have w1 := same_upd he (.tup [])
      have w2 := same_upd hp (.tup [.str "made", .int (m : Int), .ref e])
      have w3 := w1.trans w2
      have hl := hT.len
      rw [List.length_take, show plainT.length = 6 from rfl] at hl
      refine ⟨xs, w3 _ _ h3, small1000 (by omega), same_set (g3.trans w3) hD _, _, upd_same, ?_⟩
      have e1 : plainT[i]? = some (tmd m []) := by
        unfold plainT
        rw [List.getElem?_map, hm]
        rfl
      rw [take_snoc e1]
      have t3 := tups_set (K := K) (w3 _ _ h3) (.lst (xs ++ [.ref p]))
      exact ((hT.mono (tups_of w3)).mono t3).app (.cons (TyH.made (t3 _ _ sq_new) (t3 _ _ (tups_of w2 _ _ sq_new)) .nil) .nil)
    · rintro H3 ⟨g3, xs, h3, hT⟩
      have hT : TysH K H3 plainT xs := hT
      have gg3 := (g1.trans g2).trans (Gw.of_same (g2.2) g3)
      refine ⟨z0, fun e he => ⟨z2, fun p hp => ⟨z1, fun l hl => ?_⟩⟩⟩
      have w1 := same_upd he (.tup [])
      have w2 := same_upd hp (.tup [.str "tuple", .ref e])
      have w3 := same_upd hl (.lst [.ref p])
      have w23 := w2.trans w3
      have w4 := w1.trans w23
      have hxl : xs.length = 6 := hT.len
      refine ⟨D, l, xs, [.ref p], rfl, rfl, w4 _ _ h3, upd_same, by rw [hxl]; show 6 + 1 ≤ sizeLine; decide, fun pl hpl => ?_⟩
      have w5 := same_upd hpl (.lst (xs ++ [.ref p]))
      have hT := (hT.mono (tups_of (w4.trans w5))).app (.cons (TyH.tup (tups_of (w3.trans w5) _ _ sq_new) (tups_of (w23.trans w5) _ _ sq_new) .nil) .nil)
      have gg4 := gg3.trans (Gw.of_same gg3.2 (w4.trans w5))
      refine ⟨_, rfl, _, _, rfl, rfl, _, rfl, ite2 (fun _ => ?_) (fun hc2 => absurd (of_decide_eq_false (Bool.eq_false_iff.mpr hc2)) (by omega))⟩
      refine ⟨_, rfl, _, rfl, h, c, rfl, gg4.2, c0, by omega, fun H5 r hr5 g5 => ⟨z2, fun m hm => ⟨z1, fun l2 hl2 => ?_⟩⟩⟩
      have v1 := same_upd hm (.tup [.str "var", .int (r : Int)])
      have v2 := same_upd hl2 (.lst [.ref m])
      refine ⟨l2, 9, [.ref m], rfl, rfl, upd_same, by decide, by decide, (by show 1 * 9 ≤ sizeLine; decide), fun p3 hp3 => ?_⟩
      have v3 := same_upd hp3 (.lst (List.replicate 9 [V.ref m]).flatten)
      have v12 := v1.trans v2
      have v23 := v2.trans v3
      have v123 := v1.trans v23
      have gg5 := (gg4.trans g5).trans (Gw.of_same (gg4.trans g5).2 v123)
      have hT := (hT.mono (g5.tups gg4.2)).mono (tups_of v123)
      have hpl5 := v123 _ _ (g5.1 pl _ (gg3.2.mono w4 |>.ne hpl) upd_same)
      have hV : TyH K _ (tv r) (.ref m) := TyH.var (tups_of v23 _ _ sq_new)
      have hVs : TysH K _ (List.replicate 9 (tv r)) (List.replicate 9 [V.ref m]).flatten := .cons hV (.cons hV (.cons hV (.cons hV (.cons hV (.cons hV (.cons hV (.cons hV (.cons hV .nil))))))))
      have hAll := hT.app hVs
      refine ⟨_, rfl, _, rfl, _, rfl, pl, p3, _, _, rfl, rfl, hpl5, upd_same, by rw [List.length_append, hxl]; show 6 + 1 + 9 ≤ sizeLine; decide, fun q1 hq1 => ?_⟩
      have v4 := same_upd hq1 (.lst ((xs ++ [.ref p]) ++ (List.replicate 9 [V.ref m]).flatten))
      have hAll := hAll.mono (tups_of v4)
      refine ⟨h, q1, _, rfl, gg5.2.mono v4, gg5.2.ne hq1, SqL.of upd_same, by rw [List.length_append, List.length_append, hxl]; exact Nat.lt_of_lt_of_le (by show 0 < 6 + 1; decide) (Nat.le_add_right _ _), by rw [List.length_append, List.length_append, hxl]; show 6 + 1 + 9 < 1000000; decide, fun H6 r6 x hx g6 => ?_⟩
      obtain ⟨t, ht, htH⟩ := hAll.get hx
      have k6 := gg5.2.mono v4
      refine q H6 t x ((gg5.trans (Gw.of_same gg5.2 v4)).trans g6) (htH.mono (g6.tups k6)) ?_
      have hm6 := List.mem_of_getElem? ht
      rcases List.mem_append.mp hm6 with hm6 | hm6
      · rcases List.mem_append.mp hm6 with hm6 | hm6
        · exact plain_b (bd_pos d) hm6
        · rw [List.mem_singleton.mp hm6]
          exact .leaf (show (0 : Nat) ≠ 1 by decide) (fun n e => nomatch e) (bd_pos d)
      · rw [(List.mem_replicate.mp hm6).2]
        exact .leaf (show 0 = 0 ∧ (r : Int) < 10 ^ 60 from ⟨rfl, by omega⟩) (fun n e => by cases e; exact hr5) (bd_pos d)
  · obtain ⟨d', hd'⟩ : ∃ d', d = d' + 1 := by
      cases d with
      | zero => exact absurd (by rw [Bool.or_eq_true]; exact .inl (decide_eq_true rfl)) hc
      | succ d' => exact ⟨d', rfl⟩
    have ebd : bd d = 1 + 3 * bd d' := by rw [hd']; rfl
    refine ⟨_, rfl, _, _, rfl, rfl, _, rfl, ite2 (fun _ => ?_) (fun _ => ?_)⟩
    · refine ⟨_, rfl, _, rfl, _, rfl, _, _, rfl, rfl, dcall _ d' _ E hd' g1.2 fun H2 T1 x1 g2 hT1 hB1 => ?_⟩
      refine ⟨_, rfl, _, rfl, _, rfl, _, _, rfl, rfl, dcall _ d' _ E hd' g2.2 fun H3 T2 x2 g3 hT2 hB2 => ?_⟩
      refine ⟨z3, fun p hp => ?_⟩
      have w1 := same_upd hp (.tup [.str "fn", x1, x2])
      refine q _ (tfn T1 T2) _ ((g1.trans (g2.trans g3)).trans (Gw.of_same g3.2 w1)) (TyH.fn sq_new ((hT1.mono (g3.tups g2.2)).mono (tups_of w1)) (hT2.mono (tups_of w1))) ?_
      rw [ebd]
      exact .node rfl rfl (fun t ht => by
        rcases List.mem_cons.mp ht with rfl | ht
        · exact hB1
        · rw [List.mem_singleton.mp ht]
          exact hB2) (by show 2 ≤ 3; decide)
    refine ⟨_, rfl, rfl, _, rfl, ite2 (fun _ => ?_) (fun _ => ?_)⟩
    · refine ⟨_, rfl, h, 4, rfl, g1.2, by decide, by decide, fun H2 r2 hr2 g2 => ⟨rfl, .inr ⟨_, rfl, _, _, rfl, rfl, ?_⟩⟩⟩
      have hN : ∃ N : Nat, (2 + (if decide (V.int (r2 : Int) = V.int 0) = true then 1 else 0) : Int) = (N : Int) ∧ (N = 2 ∨ N = 3) := by
        by_cases z : decide (V.int (r2 : Int) = V.int 0) = true
        · exact ⟨3, by rw [if_pos z]; rfl, .inr rfl⟩
        · exact ⟨2, by rw [if_neg z]; rfl, .inl rfl⟩
      obtain ⟨N, eN, hN⟩ := hN
      refine ⟨_, rfl, by rw [eN]; omega, by rw [eN]; omega, fun D hD => ?_⟩
      have eT : ((2 + (if decide (V.int (r2 : Int) = V.int 0) = true then 1 else 0) : Int)).toNat = N := by rw [eN]; rfl
      have D0 := same_upd hD (.lst [])
      refine lc_range (lo := 0) (n := ((2 + (if decide (V.int (r2 : Int) = V.int 0) = true then 1 else 0) : Int)).toNat) (fun i H3 => Gw h H2 H3 ∧ ∃ ts xs, H3 D = some (.lst xs) ∧ TysH K H3 ts xs ∧ ts.length = i ∧ ∀ t ∈ ts, TyB c (bd d') t)
        ⟨.of_same g2.2 D0, [], [], upd_same, .nil, rfl, fun t ht => nomatch ht⟩ ?_ ?_
      · rintro i H3 hi ⟨g3, ts, xs, h3, hT, hl, hB⟩
        rw [eT] at hi
        refine ⟨rfl, _, rfl, _, rfl, _, rfl, _, _, rfl, rfl, dcall _ d' _ E hd' g3.2 fun H4 T1 x1 g4 hT1 hB1 => ?_⟩
        have hne := g2.2.ne hD
        have h4 := g4.1 D _ hne h3
        have hxl := hT.len
        refine ⟨xs, h4, small1000 (by omega), ?_⟩
        have t5 := tups_set (K := K) h4 (.lst (xs ++ [x1]))
        have g5 : Gw h H2 (upd H4 D (.lst (xs ++ [x1]))) := by
          have g34 := g3.trans g4
          refine ⟨fun b o hb e => ?_, ?_⟩
          · rw [upd_ne (ne_of_none e hD)]
            exact g34.1 b o hb e
          · obtain ⟨a, b, c', e⟩ := g34.2
            exact ⟨a, b, c', by rw [upd_ne hne.symm]; exact e⟩
        refine ⟨g5, ts ++ [T1], xs ++ [x1], upd_same, ((hT.mono (g4.tups g3.2)).app (.cons hT1 .nil)).mono t5, by rw [List.length_append, hl]; rfl, fun t ht => ?_⟩
        rcases List.mem_append.mp ht with ht | ht
        · exact hB t ht
        · rw [List.mem_singleton.mp ht]
          exact hB1
      · rintro H3 ⟨g3, ts, xs, h3, hT, hl, hB⟩
        rw [eT] at hl
        refine ⟨D, _, rfl, .inl ⟨SqL.of h3, fun tp htp => ⟨z2, fun p hp => ?_⟩⟩⟩
        have w1 := same_upd htp (.tup xs)
        have w2 := same_upd hp (.tup [.str "tuple", .ref tp])
        have w3 := w1.trans w2
        refine q _ (ttup ts) _ ((g1.trans (g2.trans g3)).trans (Gw.of_same g3.2 w3)) (TyH.tup sq_new (tups_of w2 _ _ sq_new) (hT.mono (tups_of w3))) ?_
        rw [ebd]
        refine .node (show ts.length ≠ 1 from ?_) rfl hB ?_
        · omega
        · omega
    refine ⟨_, rfl, rfl, _, rfl, ite2 (fun _ => ?_) (fun _ => ?_)⟩
    · refine ⟨_, rfl, _, rfl, _, rfl, _, _, rfl, rfl, dcall _ d' _ E hd' g1.2 fun H2 T1 x1 g2 hT1 hB1 => ?_⟩
      refine ⟨_, rfl, _, rfl, _, rfl, _, _, rfl, rfl, dcall _ d' _ E hd' g2.2 fun H3 T2 x2 g3 hT2 hB2 => ?_⟩
      refine ⟨z2, fun tp htp => ⟨z3, fun p hp => ?_⟩⟩
      have w1 := same_upd htp (.tup [x1, x2])
      have w2 := same_upd hp (.tup [.str "made", .int 7, .ref tp])
      have w3 := w1.trans w2
      refine q _ (tmd 7 [T1, T2]) _ ((g1.trans (g2.trans g3)).trans (Gw.of_same g3.2 w3)) (TyH.made sq_new (tups_of w2 _ _ sq_new) (.cons ((hT1.mono (g3.tups g2.2)).mono (tups_of w3)) (.cons (hT2.mono (tups_of w3)) .nil))) ?_
      rw [ebd]
      exact .node ⟨by decide, by decide, rfl⟩ rfl (fun t ht => by
        rcases List.mem_cons.mp ht with rfl | ht
        · exact hB1
        · rw [List.mem_singleton.mp ht]
          exact hB2) (by show 2 ≤ 3; decide)
    refine ⟨_, rfl, z3, fun l hl => ?_⟩
    have u1 := same_upd hl (.lst (natV [5, 6, 8]))
    refine ⟨h, l, natV [5, 6, 8], rfl, g1.2.mono u1, g1.2.ne hl, SqL.of upd_same, (by show 0 < 3; decide), (by show 3 < 1000000; decide), fun H2 r x hx g2 => ?_⟩
    obtain ⟨s5, hs5, rfl⟩ := natV_at hx
    refine ⟨_, rfl, _, rfl, _, rfl, _, _, rfl, rfl, dcall _ d' _ E hd' g2.2 fun H3 T1 x1 g3 hT1 hB1 => ?_⟩
    refine ⟨z1, fun tp htp => ⟨z3, fun p hp => ?_⟩⟩
    have w1 := same_upd htp (.tup [x1])
    have w2 := same_upd hp (.tup [.str "made", .int (s5 : Int), .ref tp])
    have w3 := w1.trans w2
    refine q _ (tmd s5 [T1]) _ (((g1.trans (Gw.of_same g1.2 u1)).trans (g2.trans g3)).trans (Gw.of_same g3.2 w3)) (TyH.made sq_new (tups_of w2 _ _ sq_new) (.cons (hT1.mono (tups_of w3)) .nil)) ?_
    rw [ebd]
    have hs5 := List.mem_of_getElem? hs5
    refine .node (l := .made s5) (ts := [T1]) ?_ rfl (fun t ht => by rw [List.mem_singleton.mp ht]; exact hB1) (by show 1 ≤ 3; decide)
    simp only [List.mem_cons, List.not_mem_nil, or_false] at hs5
    rcases hs5 with rfl | rfl | rfl <;> exact ⟨by decide, by decide, rfl⟩
/-- with as many levels as calls -/
theorem ok_type (A : At K mg "_law_type" s__law_type ["_law_hat_here", "_law_count", "_law_deep"]) (B : Bi mg) (D__law_lift : Has P w K mg base "_law_lift" ["_law_hat_here", "_law_total"] 1 spLift) (D__law_choice : Has P w K mg base "_law_choice" ["_law_hat_here", "_law_items"] 2 (spChoice K)) (n : Nat) : ∃ f fd, FnOk P w K mg base CX0 (n + 2) f fd ["_law_hat_here", "_law_count", "_law_deep"] (spType K n) ∧ Binds K fd ["_law_hat_here", "_law_count", "_law_deep"] [] ∧ PySem.W.keepIn K (.ref f) = true ∧ mg "_law_type" = some (.ref f) := by
  obtain ⟨f, fd, F, m, b⟩ := A
  refine ⟨f, fd, ?_, b, F.kp, m⟩
  induction n with
  | zero => exact no_calls
  | succ n ih => exact type_step F b m B D__law_lift D__law_choice ih
end
end Lq
/-! walking over a list or a tuple, whichever it is -/
namespace Lq
open PySem PySem.Spec PyProof.Rows L2
def iEither (K : PySem.W.Frag) (te : TE) : TI := fun σ H R => te σ H fun v H2 =>
  ∃ p, v = .ref p ∧ (((∃ ys, SqL K H2 p ys) ∧ R (Itl K p) H2) ∨ ((∃ ys, SqT K H2 p ys) ∧ R (Itt K p) H2))
theorem pi_either {X : Cx} {tg e : Expr} {te : TE} (he : PE X e te) : PI X tg e (iEither X.K te) := by
  refine ⟨fun pins s σ H R J hh => ?_⟩
  refine thn (he.run pins s σ H _ J hh) fun u t ⟨v, H2, J2, ru, p, ev, w⟩ => ?_
  subst ev
  cases ru
  have fresh : ∀ b ∈ [t.heap.objs.size], FpOk X pins H2 b := fun b mb => by
    have eb := List.mem_singleton.mp mb
    rw [eb]
    exact J2.fpOk (Nat.le_refl _)
      (J2.hok.fresh (Nat.le_refl _))
  rcases w with ⟨⟨ys, hy⟩, w⟩ | ⟨⟨ys, hy⟩, w⟩
  · obtain ⟨its, _, hp, _⟩ := J2.list hy
    refine wpAny_pyIter_list hp.isList ⟨t.heap.objs.size,
      [t.heap.objs.size], _, _, H2, rfl, ?_, turn_list p _,
      ⟨_, Heap.get?_push_size _ rfl, rfl, rfl⟩, fresh, w⟩
    exact J2.kept (t' := t.toks) fun _ _ z =>
      Heap.get?_push_of_some _ z
  · obtain ⟨its, _, hp, _⟩ := J2.tuple hy
    have hp' : t.heap.IsTuple p its.toArray := hp
    refine wpAny_pyIter_tuple hp' ⟨t.heap.objs.size,
      [t.heap.objs.size], _, _, H2, rfl, ?_, turn_tuple p _,
      ⟨_, Heap.get?_push_size _ rfl, rfl, rfl⟩, fresh, w⟩
    exact J2.kept (t' := t.toks) fun _ _ z =>
      Heap.get?_push_of_some _ z
end Lq
namespace Lq
open PySem L2
theorem need_kids {as : Nat → Option (List Nat)} {T : Ty} {us : List Ty} (h : need as T = some us) : ∀ u ∈ us, u ∈ T.kids := by
  unfold need at h
  cases e : T.lab with
  | var n =>
    rw [e] at h
    cases h
    exact fun u hu => nomatch hu
  | fn => rw [e] at h; cases h
  | tup =>
    rw [e] at h
    cases h
    exact fun u hu => hu
  | made s =>
    rw [e] at h
    have h : (as s).map (fun q => q.filterMap fun i => T.kids[i]?) = some us := h
    cases e2 : as s with
    | none => rw [e2] at h; cases h
    | some q =>
      rw [e2] at h
      injection h with h
      rw [← h]
      intro u hu
      obtain ⟨i, _, e⟩ := List.mem_filterMap.mp hu
      exact List.mem_of_getElem? e
theorem kid_sz {T t : Ty} (m : t ∈ T.kids) : t.sz < T.sz := by
  have : ∀ {ts : List Ty}, t ∈ ts → t.sz ≤ Ty.szs ts := fun {ts} h => by
    induction ts with
    | nil => cases h
    | cons x r ih =>
      rw [szs_cons]
      rcases List.mem_cons.mp h with e | h
      · rw [e]
        exact Nat.le_add_right _ _
      · have := ih h
        omega
  have := this m
  rw [T.sz_eq]
  omega
theorem askd_vars_k {as : Nat → Option (List Nat)} {n : Nat} : ∀ (k : Nat) (T : Ty) (M : List Nat), T.sz ≤ k → T.askd as = some M → n ∈ M → n ∈ T.vars
  | 0, T, M, h, _, _ => by
    have := sz_pos T
    omega
  | k + 1, T, M, h, hM, hn => by
    cases e : T.lab.num with
    | some m =>
      rw [askd_var as e] at hM
      cases hM
      rw [List.mem_singleton.mp hn]
      exact vars_self e
    | none =>
      rw [askd_need as e] at hM
      cases e2 : need as T with
      | none => rw [e2] at hM; cases hM
      | some us =>
        rw [e2] at hM
        obtain ⟨M', h1, h2⟩ := (joinAll_some _ M hM n).mp hn
        obtain ⟨u, hu, e3⟩ := List.mem_map.mp h1
        have hk := need_kids e2 u hu
        have := kid_sz hk
        exact vars_kid hk (askd_vars_k k u M' (by omega) e3 h2)
theorem askd_vars {as : Nat → Option (List Nat)} {n : Nat} {T : Ty} {M : List Nat} (h : T.askd as = some M) (hn : n ∈ M) : n ∈ T.vars := askd_vars_k _ T M (Nat.le_refl _) h hn
/-- what is found behind some of the parts -/
structure Part (as : Nat → Option (List Nat)) (us : List Ty) (ns : List Nat) : Prop where
  nd : ns.Nodup
  mem : ∀ n, n ∈ ns ↔ ∃ u ∈ us, ∃ M, u.askd as = some M ∧ n ∈ M
  some : ∀ u ∈ us, u.askd as ≠ none
theorem Part.start {as : Nat → Option (List Nat)} : Part as [] [] := ⟨List.nodup_nil, fun n => ⟨fun h => (nomatch h), fun ⟨_, h, _⟩ => (nomatch h)⟩, fun u h => (nomatch h)⟩
theorem Part.step {as : Nat → Option (List Nat)} {us : List Ty} {ns ms M : List Nat} {u : Ty} (h : Part as us ns) (hM : u.askd as = Option.some M) (hnd : ms.Nodup) (hmem : ∀ n, n ∈ ms ↔ n ∈ M) : Part as (us ++ [u]) (ns ++ ms.filter fun n => !decide (n ∈ ns)) := by
  refine ⟨List.nodup_append.mpr ⟨h.nd, hnd.filter _, fun a ha b hb e => ?_⟩, fun n => ?_, fun v hv => ?_⟩
  · have := (List.mem_filter.mp hb).2
    subst e
    rw [decide_eq_true ha] at this
    cases this
  · rw [List.mem_append, h.mem n]
    constructor
    · rintro (⟨v, hv, M', h1, h2⟩ | hn)
      · exact ⟨v, List.mem_append_left _ hv, M', h1, h2⟩
      · exact ⟨u, List.mem_append_right _ (List.mem_singleton_self _), M, hM, (hmem n).mp (List.mem_filter.mp hn).1⟩
    · rintro ⟨v, hv, M', h1, h2⟩
      rcases List.mem_append.mp hv with hv | hv
      · exact .inl ⟨v, hv, M', h1, h2⟩
      · rw [List.mem_singleton.mp hv, hM] at h1
        cases h1
        by_cases hin : n ∈ ns
        · exact .inl ((h.mem n).mp hin)
        · exact .inr (List.mem_filter.mpr ⟨(hmem n).mpr h2, by rw [decide_eq_false hin]; rfl⟩)
  · rcases List.mem_append.mp hv with hv | hv
    · exact h.some v hv
    · rw [List.mem_singleton.mp hv, hM]
      exact fun z => nomatch z
theorem Part.all {as : Nat → Option (List Nat)} {us : List Ty} {ns : List Nat} (h : Part as us ns) : ∃ M, joinAll (us.map (Ty.askd as)) = Option.some M ∧ ∀ n, n ∈ ns ↔ n ∈ M := by
  cases e : joinAll (us.map (Ty.askd as)) with
  | none =>
    obtain ⟨u, hu, e2⟩ := List.mem_map.mp ((joinAll_none _).mp e)
    exact absurd e2 (h.some u hu)
  | some M =>
    refine ⟨M, rfl, fun n => ?_⟩
    rw [h.mem n, joinAll_some _ M e n]
    constructor
    · rintro ⟨u, hu, M', h1, h2⟩
      exact ⟨M', List.mem_map.mpr ⟨u, hu, h1⟩, h2⟩
    · rintro ⟨M', h1, h2⟩
      obtain ⟨u, hu, e2⟩ := List.mem_map.mp h1
      exact ⟨u, hu, M', e2, h2⟩
theorem same_none {H H' : Hp} (s : Same H H') {p : Addr} (h : H' p = none) : H p = none := by
  cases e : H p with
  | none => rfl
  | some o => rw [s _ _ e] at h; cases h
section
variable {P : Program} {w : World} {K : PySem.W.Frag} {mg : Str → Option Value} {base : Heap} {C : Addr}
abbrev s__law_asked : Stmt := top 59
theorem sc__law_asked : FnScope ["_law_table_here", "_law_kt", "_law_asked_here", "_law_at", "_law_found", "_law_one", "_law_more", "_law_number"] ["_law_table_here", "_law_kt"] (defScope s__law_asked) := ⟨rfl, rfl, rfl, by decide +kernel, rfl, by decide +kernel, by decide +kernel⟩
def spLAsk (K : PySem.W.Frag) (n : Nat) : Sp := fun vs H Q _ => ∃ (d : Addr) (v : V) (rows : List Row) (T : Ty), vs = [.ref d, v] ∧ TabH K H d rows ∧ TyH K H T v ∧ T.Ok (arOf rows) ∧ RowsOk rows ∧ (∀ n, n ∈ T.vars → n < 60) ∧ T.sz ≤ n ∧
  (T.askd (asOf rows) = none → ∀ H', Same H H' → Q .non H') ∧ ∀ M, T.askd (asOf rows) = some M → ∀ (H' : Hp) (p : Addr) (ns : List Nat), Same H H' → H p = none → H' p = some (.lst (natV ns)) → ns.Nodup → (∀ n, n ∈ ns ↔ n ∈ M) → Q (.ref p) H'
theorem asked_none {k : Nat} {f : Addr} {fd : FuncData} : FnOk P w K mg base CX0 k f fd ["_law_table_here", "_law_kt"] (spLAsk K 0) := by
  have no : ∀ vs H Q E, ¬ spLAsk K 0 vs H Q E := fun vs H Q E h => by
    obtain ⟨d, v, rows, T, _, _, _, _, _, _, h1, _⟩ := h
    have := sz_pos T
    omega
  exact ⟨fun vs H Q E h => absurd h (no vs H Q E), fun A outer s H args us vs Q E _ _ _ _ h => absurd h (no vs H Q E)⟩
theorem asked_step {n : Nat} {f__law_asked : Addr} {fd__law_asked : FuncData} (F : Fun K "_law_asked" "_law_asked" s__law_asked f__law_asked fd__law_asked) (b__law_asked : Binds K fd__law_asked ["_law_table_here", "_law_kt"] []) (m__law_asked : mg "_law_asked" = some (.ref f__law_asked)) (B : Bi mg)
    (G__law_asked : FnOk P w K mg base CX0 (n + 1) f__law_asked fd__law_asked ["_law_table_here", "_law_kt"] (spLAsk K n)) : FnOk P w K mg base CX0 (n + 2) f__law_asked fd__law_asked ["_law_table_here", "_law_kt"] (spLAsk K (n + 1)) := by
  have k__law_asked := F.kp
  refine F.ok sc__law_asked (fun vs H Q E h => ?_) (fun cdv A outer s H vs Q E hr h => ?_)
  · obtain ⟨d, v, rows, T, rfl, _⟩ := h
    rfl
  obtain ⟨d, v, rows, T, rfl, hTab, hT, hok, hro, hvs, hsz, q1, q2⟩ := h
  refine ⟨_, (pss_cons (ps_if (pt_cmpR op_eq (pe_ix (ixT K) (pv 1) pe_int (fun _ _ => rfl)) pe_str (nomark _)) (pss_one (ps_ret (pe_lst (pa_cons (pe_ix (ixT K) (pv 1) pe_int (fun _ _ => rfl)) pa_nil)))) pss_nil)
  (pss_cons (ps_if (PW.pt (pw_or (pt_cmpR op_eq (pe_ix (ixT K) (pv 1) pe_int (fun _ _ => rfl)) pe_str (nomark _)) (pw_or1 (PW.pt (pw_and (pt_cmpR op_eq (pe_ix (ixT K) (pv 1) pe_int (fun _ _ => rfl)) pe_str (nomark _)) (pw_and1 (pt_cmpR op_isN (pe_ix (ixT K) (pe_dget (hu_of hr) (pv 0) (pe_ix (ixT K) (pv 1) pe_int (fun _ _ => rfl)) (fun _ _ => rfl)) pe_int (fun _ _ => rfl)) pe_non (nomark _)))))))) (pss_one (ps_ret pe_non)) pss_nil)
  (pss_cons (ps_set (i := 2) sc__law_asked.nd rfl (Or.inl rfl) (pe_ifExp (pt_cmpR op_eq (pe_ix (ixT K) (pv 1) pe_int (fun _ _ => rfl)) pe_str (nomark _)) (pe_ix (ixT K) (pv 1) pe_int (fun _ _ => rfl)) (pe_lc (own := [("_law_at", 3)]) (g := gName 3) (tt := tYes) (by rfl) sc__law_asked.nd (pi_tup (pe_ix (ixT K) (pe_dget (hu_of hr) (pv 0) (pe_ix (ixT K) (pv 1) pe_int (fun _ _ => rfl)) (fun _ _ => rfl)) pe_int (fun _ _ => rfl))) (blkOk_by (N := ["_law_table_here", "_law_kt", "_law_asked_here", "_law_at", "_law_found", "_law_one", "_law_more", "_law_number"]) (sc := defScope s__law_asked) (by decide +kernel)) (fun _ _ _ _ _ => (pg_name (i := 3) sc__law_asked.nd rfl (Or.inl rfl))) (fun _ _ _ _ _ => pts_nil) (fun _ _ _ _ _ => (pe_ix (ixT K) (pe_ix (ixT K) (pv 1) pe_int (fun _ _ => rfl)) (pv 3) (fun _ _ => rfl))))))
  (pss_cons (ps_set (i := 4) sc__law_asked.nd rfl (Or.inr rfl) (pe_lst pa_nil))
  (pss_cons (ps_for PassesOwn.never rfl (pi_either (pv 2)) (pg_name (i := 5) sc__law_asked.nd rfl (Or.inl rfl)) (pss_cons (ps_set (i := 6) sc__law_asked.nd rfl (Or.inl rfl) (pe_call G__law_asked hr rfl m__law_asked k__law_asked b__law_asked .nil pass0 (pa_cons (pv 0) (pa_cons (pv 5) pa_nil))))
  (pss_cons (ps_if (pt_cmpR op_isN (pv 6) pe_non (nomark _)) (pss_one (ps_ret pe_non)) pss_nil)
  (pss_one (ps_set (i := 4) sc__law_asked.nd rfl (Or.inr rfl) (pe_op op_cat (pv 4) (pe_lc (own := [("_law_number", 7)]) (g := gName 7) (tt := _) (by rfl) sc__law_asked.nd (pi_list (pv 6)) (blkOk_by (N := ["_law_table_here", "_law_kt", "_law_asked_here", "_law_at", "_law_found", "_law_one", "_law_more", "_law_number"]) (sc := defScope s__law_asked) (by decide +kernel)) (fun _ _ _ _ _ => (pg_name (i := 7) sc__law_asked.nd rfl (Or.inl rfl))) (fun _ _ _ _ _ => (pts_one (pt_cmpR (notInS K) (pv 7) (pv 4) rfl))) (fun _ _ _ _ _ => (pv 7)))))))))
  (pss_one (ps_ret (pv 4)))))))), ?_⟩
  obtain ⟨a, xs, rfl, ⟨r, hS, hR⟩, hK⟩ := hT.out
  have i0 : atI (V.str T.lab.word :: r) 0 = some (V.str T.lab.word) := atI_nat (j := 0) rfl
  refine ⟨_, rfl, a, _, _, _, rfl, rfl, hS, i0, rfl, _, rfl, ?_⟩
  rw [w_var]
  have hloc := hok.loc
  cases hlab : T.lab with
  | var m =>
    rw [hlab] at hR hS
    obtain ⟨_, rfl⟩ := hR
    refine iteT ⟨_, rfl, a, _, _, _, rfl, rfl, hS, atI_nat (j := 1) rfl, z1, fun p hp => ?_⟩
    exact q2 [m] (askd_var _ (by rw [hlab]; rfl)) _ p [m] (same_upd hp _) hp upd_same (by simp) fun n => Iff.rfl
  | fn =>
    rw [hlab] at i0 hS
    refine iteF ⟨_, rfl, a, _, _, _, rfl, rfl, hS, i0, rfl, _, rfl, ?_⟩
    rw [w_fn]
    refine iteT (iteT (q1 ?_ H (Same.refl _)))
    rw [askd_eq, hlab]
    rfl
  | tup =>
    have hnum : T.lab.num = none := by rw [hlab]; rfl
    have hneed : need (asOf rows) T = some T.kids := by unfold need; rw [hlab]
    have hask := askd_need (asOf rows) hnum
    rw [hneed] at hask
    have hask : T.askd (asOf rows) = joinAll (T.kids.map (Ty.askd (asOf rows))) := hask
    have hsub : ∀ u ∈ T.kids, u ∈ T.kids := fun u h => h
    rw [hlab] at i0 hS hR
    obtain ⟨c, rfl, hC⟩ := hR
    refine iteF ⟨_, rfl, a, _, _, _, rfl, rfl, hS, i0, rfl, _, rfl, ?_⟩
    rw [w_fn]
    refine iteF ⟨_, rfl, a, _, _, _, rfl, rfl, hS, i0, rfl, _, rfl, ?_⟩
    rw [w_made]
    refine iteF (iteF ⟨_, rfl, a, _, _, _, rfl, rfl, hS, i0, rfl, _, rfl, ?_⟩)
    rw [w_tup]
    refine iteT ⟨_, rfl, a, _, _, _, rfl, rfl, hS, atI_nat (j := 1) rfl, ?_⟩
    obtain ⟨us, hus⟩ : ∃ us, us = T.kids := ⟨_, rfl⟩
    obtain ⟨xs2, hx2⟩ : ∃ xs2, xs2 = xs := ⟨_, rfl⟩
    rw [← hx2] at hK hC
    have hUs : TysH K H us xs2 := by rw [hus]; exact hK
    have gC : Same H H := Same.refl _
    rw [← hus] at hask
    have hsub : ∀ u ∈ us, u ∈ T.kids := by rw [hus]; exact hsub
    clear hneed hus hK hx2
    refine ⟨z0, fun f0 hf0 => ?_⟩
    have w0 := same_upd hf0 (.lst (natV []))
    have G0 := gC.trans w0
    refine ⟨_, rfl, c, rfl, .inr ⟨⟨_, tups_of w0 _ _ hC⟩, for_tup (K := K) (a := c) (xs := xs2) (fun i σ H3 => ∃ s3 s5 s6 s7 f ns, σ = [some (.ref d), some (.ref a), some (.ref c), s3, some (.ref f), s5, s6, s7] ∧ Same H H3 ∧ Same (upd H f0 (.lst (natV []))) H3 ∧ H f = none ∧ H3 f = some (.lst (natV ns)) ∧ Part (asOf rows) (us.take i) ns)
      ⟨_, _, _, _, f0, [], rfl, G0, Same.refl _, same_none gC hf0, upd_same, .start⟩ (fun i σ H3 _ z => ?_) ?_ ?_⟩⟩
    · obtain ⟨_, _, _, _, _, _, _, _, g3, _⟩ := z
      exact tups_of (w0.trans g3) _ _ hC
    · rintro i x σ H3 hx ⟨s3, s5, s6, s7, f, ns, rfl, gH3, g3, hfn, hf, hpart⟩
      obtain ⟨u, hu, huH⟩ := (hUs.mono (tups_of (w0.trans g3))).get hx
      have humem := List.mem_of_getElem? hu
      have hukid := hsub u humem
      have husz := kid_sz hukid
      refine ⟨_, rfl, _, rfl, d, x, rows, u, rfl, hTab.mono gH3, huH, hok.kid hukid, hro, fun n hn => hvs n (vars_kid hukid hn), by omega, fun hno H4 g4 => ?_, fun M hM H4 p ms g4 _ hp hnd hmem => ?_⟩
      · refine ⟨_, rfl, rfl, _, rfl, iteT (q1 ?_ H4 (gH3.trans g4))⟩
        rw [hask, joinAll_none]
        exact List.mem_map.mpr ⟨u, humem, hno⟩
      · refine ⟨_, rfl, rfl, _, rfl, iteF ⟨_, rfl, _, rfl, p, rfl, ⟨_, SqL.of hp⟩, fun D hD => ?_⟩⟩
        have hf4 := g4 _ _ hf
        refine lc_list (K := K) (a := p) (xs := natV ms) (fun j H5 => Same H4 H5 ∧ H5 D = some (.lst (natV ((ms.take j).filter fun n => !decide (n ∈ ns))))) ⟨same_upd hD _, upd_same⟩ (fun j H5 _ z => SqL.of (z.1 _ _ hp)) ?_ ?_
        · rintro j x H5 hx5 ⟨g5, h5⟩
          obtain ⟨n, hn, rfl⟩ := natV_at hx5
          have hnM := (hmem n).mp (List.mem_of_getElem? hn)
          refine ⟨rfl, _, rfl, _, rfl, f, natV ns, rfl, .inl (SqL.of (g5 _ _ hf4)), rfl, flat_nat ns, _, rfl, ?_⟩
          rw [inV_nat]
          by_cases hin : n ∈ ns
          · rw [decide_eq_true hin]
            refine iteF ⟨g5, ?_⟩
            rw [take_snoc hn, List.filter_append, List.filter_cons_of_neg (by simpa using hin), List.filter_nil, List.append_nil]
            exact h5
          · rw [decide_eq_false hin]
            refine iteT ⟨_, rfl, _, h5, ?_, same_set g5 hD _, ?_⟩
            · rw [natV_len]
              refine small1000 (Nat.le_trans (List.length_filter_le _ _) ?_)
              rw [List.length_take]
              have := len_below 60 ms hnd fun n hn => hvs n (vars_kid hukid (askd_vars hM ((hmem n).mp hn)))
              omega
            · rw [upd_same, take_snoc hn, List.filter_append, List.filter_cons_of_pos (by simpa using hin), List.filter_nil, natV_app]
              rfl
        · rintro H5 ⟨g5, h5⟩
          rw [natV_len, List.take_length] at h5
          have hl1 := len_below 60 ns hpart.nd fun n hn => by
            obtain ⟨u', hu', M', hM', hn'⟩ := (hpart.mem n).mp hn
            exact hvs n (vars_kid (hsub u' (List.mem_of_mem_take hu')) (askd_vars hM' hn'))
          have hl2 := len_below 60 ms hnd fun n hn => hvs n (vars_kid hukid (askd_vars hM ((hmem n).mp hn)))
          refine ⟨f, D, natV ns, _, rfl, rfl, g5 _ _ hf4, h5, ?_, fun p2 hp2 => ?_⟩
          · rw [natV_len, natV_len]
            have := List.length_filter_le (fun n => !decide (n ∈ ns)) ms
            exact small300 (by omega)
          · have w6 := same_upd hp2 (.lst (natV ns ++ natV (ms.filter fun n => !decide (n ∈ ns))))
            have g6 := g4.trans (g5.trans w6)
            refine ⟨_, _, _, _, p2, ns ++ ms.filter (fun n => !decide (n ∈ ns)), rfl, gH3.trans g6, g3.trans g6, same_none gH3 (same_none g4 (same_none g5 hp2)), by rw [upd_same, natV_app], ?_⟩
            rw [take_snoc hu]
            exact hpart.step hM hnd hmem
    · rintro σ H3 ⟨s3, s5, s6, s7, f, ns, rfl, gH3, g3, hfn, hf, hpart⟩
      rw [hUs.len, List.take_length] at hpart
      obtain ⟨M, hM, hmem⟩ := hpart.all
      exact ⟨_, rfl, q2 M (by rw [hask, hM]) H3 f ns gH3 hfn hf hpart.nd hmem⟩
  | made st =>
    have hnum : T.lab.num = none := by rw [hlab]; rfl
    have hask0 := askd_need (asOf rows) hnum
    have hneed0 : need (asOf rows) T = (asOf rows st).map fun q => q.filterMap fun i => T.kids[i]? := by unfold need; rw [hlab]
    rw [hlab] at i0 hS hR hloc
    obtain ⟨hs0, hs1, har⟩ := hloc
    obtain ⟨row, hrow, hrn⟩ := row_of har
    obtain ⟨v', hDG, pr, z, av, rfl, hpr, hav⟩ := hTab.get hs0 hrow
    have has : asOf rows st = row.ask := by unfold asOf; rw [hrow]; rfl
    obtain ⟨b, rfl, hb⟩ := hR
    refine iteF ⟨_, rfl, a, _, _, _, rfl, rfl, hS, i0, rfl, _, rfl, ?_⟩
    rw [w_fn]
    refine iteF ⟨_, rfl, a, _, _, _, rfl, rfl, hS, i0, rfl, _, rfl, ?_⟩
    rw [w_made]
    refine iteT ⟨_, rfl, _, rfl, a, _, _, _, rfl, rfl, hS, atI_nat (j := 1) rfl, d, _, rfl, hDG, pr, _, _, _, rfl, rfl, hpr, atI_nat (j := 2) rfl, ?_⟩
    cases hrask : row.ask with
    | none =>
      rw [hrask] at hav
      have hav : av = .non := hav
      subst hav
      refine ⟨rfl, _, rfl, iteT (q1 ?_ H (Same.refl _))⟩
      rw [hask0, hneed0, has, hrask]
      rfl
    | some l =>
      rw [hrask] at hav
      obtain ⟨al, rfl, hal⟩ := hav
      refine ⟨rfl, _, rfl, iteF ⟨_, rfl, a, _, _, _, rfl, rfl, hS, i0, rfl, _, rfl, ?_⟩⟩
      rw [w_tup]
      have hneed : need (asOf rows) T = some (l.filterMap fun i => T.kids[i]?) := by rw [hneed0, has, hrask]; rfl
      rw [hneed] at hask0
      have hask : T.askd (asOf rows) = joinAll ((l.filterMap fun i => T.kids[i]?).map (Ty.askd (asOf rows))) := hask0
      have hsub := need_kids hneed
      have hlt : ∀ m ∈ l, m < T.kids.length := fun m hm => by
        rcases hro row (List.mem_of_getElem? hrow) l hrask with rfl | ⟨rfl, h⟩ | ⟨rfl, h⟩ | ⟨rfl, h⟩
        · cases hm
        · have := List.mem_singleton.mp hm
          omega
        · have := List.mem_singleton.mp hm
          omega
        · rcases List.mem_cons.mp hm with h2 | hm
          · omega
          · have := List.mem_singleton.mp hm
            omega
      have hll : l.length ≤ 2 := by
        rcases hro row (List.mem_of_getElem? hrow) l hrask with rfl | ⟨rfl, h⟩ | ⟨rfl, h⟩ | ⟨rfl, h⟩ <;> decide
      have hxl := hK.len
      obtain ⟨us, hus⟩ : ∃ us, us = l.filterMap fun i => T.kids[i]? := ⟨_, rfl⟩
      refine iteF ⟨_, rfl, _, rfl, a, _, _, _, rfl, rfl, hS, atI_nat (j := 1) rfl, d, _, rfl, hDG, pr, _, _, _, rfl, rfl, hpr, atI_nat (j := 2) rfl, al, rfl, ⟨_, hal⟩, fun c hc => ?_⟩
      refine lc_tup (K := K) (a := al) (xs := natV l) (fun i H3 => Same H H3 ∧ ∃ ys, H3 c = some (.lst ys) ∧ TysH K H3 ((l.take i).filterMap fun i => T.kids[i]?) ys ∧ ys.length ≤ i) ⟨same_upd hc _, [], upd_same, .nil, Nat.le_refl _⟩ (fun i H3 _ z => tups_of z.1 _ _ hal) ?_ ?_
      · rintro i x H3 hx ⟨g3, ys, h3, hY, hyl⟩
        obtain ⟨m, hm, rfl⟩ := natV_at hx
        have hml := hlt m (List.mem_of_getElem? hm)
        have hil := lt_of_get hm
        have hkm : T.kids[m]? = some T.kids[m] := List.getElem?_eq_getElem hml
        obtain ⟨y, hy, hyT⟩ := hK.get' hkm
        refine ⟨rfl, _, rfl, a, _, _, _, rfl, rfl, tups_of g3 _ _ hS, atI_nat (j := 2) rfl, _, rfl, b, xs, m, y, rfl, rfl, tups_of g3 _ _ hb, at_of (j := m) rfl hy, ys, h3, small1000 (by omega), same_set g3 hc _, ys ++ [y], upd_same, ?_, by rw [List.length_append]; exact Nat.succ_le_succ hyl⟩
        have t3 := tups_set (K := K) h3 (.lst (ys ++ [y]))
        rw [take_snoc hm, List.filterMap_append, List.filterMap_cons, hkm]
        exact (hY.app (.cons (hyT.mono (tups_of g3)) .nil)).mono t3
      rintro HC ⟨gC, xs2, hC, hUs, _⟩
      rw [natV_len, List.take_length, ← hus] at hUs
      rw [← hus] at hask hsub
      clear hneed hus hneed0 hask0
      refine ⟨z0, fun f0 hf0 => ?_⟩
      have w0 := same_upd hf0 (.lst (natV []))
      have G0 := gC.trans w0
      refine ⟨_, rfl, c, rfl, .inl ⟨⟨_, SqL.of (w0 _ _ hC)⟩, for_list (K := K) (a := c) (xs := xs2) (fun i σ H3 => ∃ s3 s5 s6 s7 f ns, σ = [some (.ref d), some (.ref a), some (.ref c), s3, some (.ref f), s5, s6, s7] ∧ Same H H3 ∧ Same (upd HC f0 (.lst (natV []))) H3 ∧ H f = none ∧ H3 f = some (.lst (natV ns)) ∧ Part (asOf rows) (us.take i) ns)
        ⟨_, _, _, _, f0, [], rfl, G0, Same.refl _, same_none gC hf0, upd_same, .start⟩ (fun i σ H3 _ z => ?_) ?_ ?_⟩⟩
      · obtain ⟨_, _, _, _, _, _, _, _, g3, _⟩ := z
        exact SqL.of ((w0.trans g3) _ _ hC)
      · rintro i x σ H3 hx ⟨s3, s5, s6, s7, f, ns, rfl, gH3, g3, hfn, hf, hpart⟩
        obtain ⟨u, hu, huH⟩ := (hUs.mono (tups_of (w0.trans g3))).get hx
        have humem := List.mem_of_getElem? hu
        have hukid := hsub u humem
        have husz := kid_sz hukid
        refine ⟨_, rfl, _, rfl, d, x, rows, u, rfl, hTab.mono gH3, huH, hok.kid hukid, hro, fun n hn => hvs n (vars_kid hukid hn), by omega, fun hno H4 g4 => ?_, fun M hM H4 p ms g4 _ hp hnd hmem => ?_⟩
        · refine ⟨_, rfl, rfl, _, rfl, iteT (q1 ?_ H4 (gH3.trans g4))⟩
          rw [hask, joinAll_none]
          exact List.mem_map.mpr ⟨u, humem, hno⟩
        · refine ⟨_, rfl, rfl, _, rfl, iteF ⟨_, rfl, _, rfl, p, rfl, ⟨_, SqL.of hp⟩, fun D hD => ?_⟩⟩
          have hf4 := g4 _ _ hf
          refine lc_list (K := K) (a := p) (xs := natV ms) (fun j H5 => Same H4 H5 ∧ H5 D = some (.lst (natV ((ms.take j).filter fun n => !decide (n ∈ ns))))) ⟨same_upd hD _, upd_same⟩ (fun j H5 _ z => SqL.of (z.1 _ _ hp)) ?_ ?_
          · rintro j x H5 hx5 ⟨g5, h5⟩
            obtain ⟨n, hn, rfl⟩ := natV_at hx5
            have hnM := (hmem n).mp (List.mem_of_getElem? hn)
            refine ⟨rfl, _, rfl, _, rfl, f, natV ns, rfl, .inl (SqL.of (g5 _ _ hf4)), rfl, flat_nat ns, _, rfl, ?_⟩
            rw [inV_nat]
            by_cases hin : n ∈ ns
            · rw [decide_eq_true hin]
              refine iteF ⟨g5, ?_⟩
              rw [take_snoc hn, List.filter_append, List.filter_cons_of_neg (by simpa using hin), List.filter_nil, List.append_nil]
              exact h5
            · rw [decide_eq_false hin]
              refine iteT ⟨_, rfl, _, h5, ?_, same_set g5 hD _, ?_⟩
              · rw [natV_len]
                refine small1000 (Nat.le_trans (List.length_filter_le _ _) ?_)
                rw [List.length_take]
                have := len_below 60 ms hnd fun n hn => hvs n (vars_kid hukid (askd_vars hM ((hmem n).mp hn)))
                omega
              · rw [upd_same, take_snoc hn, List.filter_append, List.filter_cons_of_pos (by simpa using hin), List.filter_nil, natV_app]
                rfl
          · rintro H5 ⟨g5, h5⟩
            rw [natV_len, List.take_length] at h5
            have hl1 := len_below 60 ns hpart.nd fun n hn => by
              obtain ⟨u', hu', M', hM', hn'⟩ := (hpart.mem n).mp hn
              exact hvs n (vars_kid (hsub u' (List.mem_of_mem_take hu')) (askd_vars hM' hn'))
            have hl2 := len_below 60 ms hnd fun n hn => hvs n (vars_kid hukid (askd_vars hM ((hmem n).mp hn)))
            refine ⟨f, D, natV ns, _, rfl, rfl, g5 _ _ hf4, h5, ?_, fun p2 hp2 => ?_⟩
            · rw [natV_len, natV_len]
              have := List.length_filter_le (fun n => !decide (n ∈ ns)) ms
              exact small300 (by omega)
            · have w6 := same_upd hp2 (.lst (natV ns ++ natV (ms.filter fun n => !decide (n ∈ ns))))
              have g6 := g4.trans (g5.trans w6)
              refine ⟨_, _, _, _, p2, ns ++ ms.filter (fun n => !decide (n ∈ ns)), rfl, gH3.trans g6, g3.trans g6, same_none gH3 (same_none g4 (same_none g5 hp2)), by rw [upd_same, natV_app], ?_⟩
              rw [take_snoc hu]
              exact hpart.step hM hnd hmem
      · rintro σ H3 ⟨s3, s5, s6, s7, f, ns, rfl, gH3, g3, hfn, hf, hpart⟩
        rw [hUs.len, List.take_length] at hpart
        obtain ⟨M, hM, hmem⟩ := hpart.all
        exact ⟨_, rfl, q2 M (by rw [hask, hM]) H3 f ns gH3 hfn hf hpart.nd hmem⟩
/-- with as many levels as nodes -/
theorem ok_asked (A : At K mg "_law_asked" s__law_asked ["_law_table_here", "_law_kt"]) (B : Bi mg) (n : Nat) : ∃ f fd, FnOk P w K mg base CX0 (n + 1) f fd ["_law_table_here", "_law_kt"] (spLAsk K n) ∧ Binds K fd ["_law_table_here", "_law_kt"] [] ∧ PySem.W.keepIn K (.ref f) = true ∧ mg "_law_asked" = some (.ref f) := by
  obtain ⟨f, fd, F, m, b⟩ := A
  refine ⟨f, fd, ?_, b, F.kp, m⟩
  induction n with
  | zero => exact asked_none
  | succ n ih => exact asked_step F b m B ih
end
end Lq
namespace Lq
open PySem L2
def natD (ns : List Nat) : List PyData := ns.map fun (n : Nat) => PyData.int (n : Int)
theorem dpAll_nat {K : PySem.W.Frag} {H : Hp} : ∀ (ns : List Nat), DpAll K H (natV ns) (natD ns)
  | [] => .nil
  | n :: r => .cons (.int (n : Int)) (dpAll_nat r)
theorem dp_nat {K : PySem.W.Frag} {H : Hp} {a : Addr} {ns : List Nat} (h : SqL K H a (natV ns)) : Dp K H (.ref a) (.list (natD ns)) := .lst h (dpAll_nat ns)
theorem lay_nat : ∀ (ns : List Nat), PyData.canLayAll0 (natD ns) = true ∧ PyData.depthAll (natD ns) = 0
  | [] => ⟨by simp [natD, PyData.canLayAll0], by simp [natD, PyData.depthAll]⟩
  | n :: r => by
    obtain ⟨h1, h2⟩ := lay_nat r
    have e : natD (n :: r) = PyData.int (n : Int) :: natD r := rfl
    rw [e]
    exact ⟨by rw [PyData.canLayAll0, h1]; simp [PyData.canLay0], by rw [PyData.depthAll, h2]; simp [PyData.depth]⟩
theorem shaped_nat (ns : List Nat) : SeqAt.shaped (.list (natD ns)) = true := by
  obtain ⟨h1, h2⟩ := lay_nat ns
  show (PyData.canLay0 _ && decide (PyData.depth _ ≤ 64)) = true
  rw [PyData.canLay0, PyData.depth, h1, h2]
  rfl
theorem eqv_nil (ns : List Nat) : PyData.eqv (.list (natD ns)) (.list (natD [])) = ns.isEmpty := by
  cases ns with
  | nil => simp [natD, PyData.eqv, PyData.eqvAll]
  | cons n r => simp [natD, PyData.eqv, PyData.eqvAll]
theorem none_over (ns : List Nat) (f : Nat → Bool) : (ns.filter fun n => !f n).isEmpty = ns.all f := by
  induction ns with
  | nil => rfl
  | cons n r ih =>
    rw [List.all_cons]
    cases h : f n with
    | true =>
      rw [List.filter_cons_of_neg (by simp [h]), ih]
      rfl
    | false =>
      rw [List.filter_cons_of_pos (by simp [h])]
      rfl
section
variable {P : Program} {w : World} {K : PySem.W.Frag} {mg : Str → Option Value} {base : Heap} {C : Addr}
abbrev s__law_admits : Stmt := top 60
theorem sc__law_admits : FnScope ["_law_table_here", "_law_kt", "_law_marked_in", "_law_asked_here", "_law_number"] ["_law_table_here", "_law_kt", "_law_marked_in"] (defScope s__law_admits) := ⟨rfl, rfl, rfl, by decide +kernel, rfl, by decide +kernel, by decide +kernel⟩
def spLAdm (K : PySem.W.Frag) : Sp := fun vs H Q _ => ∃ (d : Addr) (v : V) (m : Addr) (rows : List Row) (T : Ty) (ms : List Nat), vs = [.ref d, v, .ref m] ∧ TabH K H d rows ∧ TyH K H T v ∧ T.Ok (arOf rows) ∧ RowsOk rows ∧ (∀ n, n ∈ T.vars → n < 60) ∧ T.sz ≤ 40 ∧ SqT K H m (natV ms) ∧
  ∀ H', Same H H' → Q (.bl (adm (asOf rows) T ms)) H'
theorem ok_ladmits (A : At K mg "_law_admits" s__law_admits ["_law_table_here", "_law_kt", "_law_marked_in"]) (B : Bi mg) (D__law_asked : Has P w K mg base "_law_asked" ["_law_table_here", "_law_kt"] 41 (spLAsk K 40)) : Has P w K mg base "_law_admits" ["_law_table_here", "_law_kt", "_law_marked_in"] 42 (spLAdm K) := by
  refine .mk A fun f fd F => ?_
  refine F.ok sc__law_admits (fun vs H Q E h => ?_) (fun cdv A outer s H vs Q E hr h => ?_)
  · obtain ⟨d, v, m, rows, T, ms, rfl, _⟩ := h
    rfl
  obtain ⟨d, v, m, rows, T, ms, rfl, hTab, hT, hok, hro, hvs, hsz, hm, q⟩ := h
  obtain ⟨f__law_asked, fd__law_asked, G__law_asked, b__law_asked, k__law_asked, m__law_asked⟩ := D__law_asked
  refine ⟨_, (pss_cons (ps_set (i := 3) sc__law_admits.nd rfl (Or.inl rfl) (pe_call G__law_asked (hr.mono (by decide)) rfl m__law_asked k__law_asked b__law_asked .nil pass0 (pa_cons (pv 0) (pa_cons (pv 1) pa_nil))))
  (pss_one (ps_ret (pe_and (pe_cmpR op_notN (pv 3) pe_non (nomark _)) (pe_one (pe_cmpR (op_eqD hr.units) (pe_lc (own := [("_law_number", 4)]) (g := gName 4) (tt := _) (by rfl) sc__law_admits.nd (pi_list (pv 3)) (blkOk_by (N := ["_law_table_here", "_law_kt", "_law_marked_in", "_law_asked_here", "_law_number"]) (sc := defScope s__law_admits) (by decide +kernel)) (fun _ _ _ _ _ => (pg_name (i := 4) sc__law_admits.nd rfl (Or.inl rfl))) (fun _ _ _ _ _ => (pts_one (pt_cmpR (notInS K) (pv 4) (pv 2) rfl))) (fun _ _ _ _ _ => (pv 4))) (pe_lst pa_nil) (nomark _))))))), ?_⟩
  refine ⟨_, rfl, _, rfl, d, v, rows, T, rfl, hTab, hT, hok, hro, hvs, hsz, fun hno H2 g2 => ?_, fun M hM H2 p ns g2 _ hp hnd hmem => ?_⟩
  · have e : adm (asOf rows) T ms = false := by unfold adm; rw [hno]
    refine ⟨_, rfl, rfl, _, rfl, iteF ?_⟩
    rw [← e]
    exact q H2 g2
  · refine ⟨_, rfl, rfl, _, rfl, iteT ⟨_, rfl, p, rfl, ⟨_, SqL.of hp⟩, fun D hD => ?_⟩⟩
    have hl2 := len_below 60 ns hnd fun n hn => hvs n (askd_vars hM ((hmem n).mp hn))
    refine lc_list (K := K) (a := p) (xs := natV ns) (fun j H5 => Same H2 H5 ∧ H5 D = some (.lst (natV ((ns.take j).filter fun n => !decide (n ∈ ms))))) ⟨same_upd hD _, upd_same⟩ (fun j H5 _ z => SqL.of (z.1 _ _ hp)) ?_ ?_
    · rintro j x H5 hx5 ⟨g5, h5⟩
      obtain ⟨n, hn, rfl⟩ := natV_at hx5
      refine ⟨rfl, _, rfl, _, rfl, m, natV ms, rfl, .inr (tups_of (g2.trans g5) _ _ hm), rfl, flat_nat ms, _, rfl, ?_⟩
      rw [inV_nat]
      by_cases hin : n ∈ ms
      · rw [decide_eq_true hin]
        refine iteF ⟨g5, ?_⟩
        rw [take_snoc hn, List.filter_append, List.filter_cons_of_neg (by simpa using hin), List.filter_nil, List.append_nil]
        exact h5
      · rw [decide_eq_false hin]
        refine iteT ⟨_, rfl, _, h5, ?_, same_set g5 hD _, ?_⟩
        · rw [natV_len]
          refine small1000 (Nat.le_trans (List.length_filter_le _ _) ?_)
          rw [List.length_take]
          omega
        · rw [upd_same, take_snoc hn, List.filter_append, List.filter_cons_of_pos (by simpa using hin), List.filter_nil, natV_app]
          rfl
    · rintro H5 ⟨g5, h5⟩
      rw [natV_len, List.take_length] at h5
      refine ⟨z0, fun l hl => ?_⟩
      have w1 := same_upd hl (.lst (natV []))
      refine ⟨_, _, dp_nat (SqL.of (w1 _ _ h5)), dp_nat (ns := []) (SqL.of upd_same), shaped_nat _, shaped_nat _, ?_⟩
      rw [eqv_nil, none_over]
      have e : ns.all (fun n => decide (n ∈ ms)) = adm (asOf rows) T ms := by
        unfold adm
        rw [hM]
        exact all_same hmem _
      rw [e]
      exact q _ (g2.trans (g5.trans w1))
end
end Lq
namespace Lq
open PySem L2
/-! ### the mathematics of it -/
def Adm (as : Nat → Option (List Nat)) (T : Ty) (p : Nat → Prop) : Prop := ∃ M, T.askd as = some M ∧ ∀ n ∈ M, p n
theorem adm_iff (as : Nat → Option (List Nat)) (T : Ty) (ms : List Nat) : adm as T ms = true ↔ Adm as T (· ∈ ms) := by
  unfold adm Adm
  cases e : T.askd as with
  | none => exact ⟨fun h => (nomatch h), fun ⟨M, h, _⟩ => (nomatch h)⟩
  | some M =>
    show (M.all fun n => decide (n ∈ ms)) = true ↔ _
    rw [List.all_eq_true]
    exact ⟨fun h => ⟨M, rfl, fun n hn => of_decide_eq_true (h n hn)⟩, fun ⟨M', h1, h2⟩ => by
      cases h1
      exact fun n hn => decide_eq_true (h2 n hn)⟩
theorem Adm_var {as : Nat → Option (List Nat)} {T : Ty} {p : Nat → Prop} {m : Nat} (h : T.lab.num = some m) : Adm as T p ↔ p m := by
  unfold Adm
  rw [askd_var as h]
  exact ⟨fun ⟨M, h1, h2⟩ => by
    cases h1
    exact h2 m (List.mem_singleton_self _), fun h => ⟨[m], rfl, fun n hn => by rw [List.mem_singleton.mp hn]; exact h⟩⟩
theorem Adm_need {as : Nat → Option (List Nat)} {T : Ty} {p : Nat → Prop} (h : T.lab.num = none) : Adm as T p ↔ ∃ us, need as T = some us ∧ ∀ u ∈ us, Adm as u p := by
  unfold Adm
  rw [askd_need as h]
  cases e : need as T with
  | none => exact ⟨fun ⟨M, h, _⟩ => (nomatch h), fun ⟨M, h, _⟩ => (nomatch h)⟩
  | some us =>
    show (∃ M, joinAll (us.map (Ty.askd as)) = some M ∧ _) ↔ _
    constructor
    · rintro ⟨M, h1, h2⟩
      refine ⟨us, rfl, fun u hu => ?_⟩
      cases e2 : u.askd as with
      | none =>
        have := (joinAll_none (us.map (Ty.askd as))).mpr (List.mem_map.mpr ⟨u, hu, e2⟩)
        rw [this] at h1
        cases h1
      | some M' => exact ⟨M', rfl, fun n hn => h2 n ((joinAll_some _ M h1 n).mpr ⟨M', List.mem_map.mpr ⟨u, hu, e2⟩, hn⟩)⟩
    · rintro ⟨us', h1, h2⟩
      cases h1
      cases e2 : joinAll (us.map (Ty.askd as)) with
      | none =>
        obtain ⟨u, hu, e3⟩ := List.mem_map.mp ((joinAll_none _).mp e2)
        obtain ⟨M', h4, _⟩ := h2 u hu
        rw [e3] at h4
        cases h4
      | some M =>
        refine ⟨M, rfl, fun n hn => ?_⟩
        obtain ⟨M', h4, h5⟩ := (joinAll_some _ M e2 n).mp hn
        obtain ⟨u, hu, e3⟩ := List.mem_map.mp h4
        obtain ⟨M2, h6, h7⟩ := h2 u hu
        rw [e3] at h6
        cases h6
        exact h7 n h5
theorem need_sub {as : Nat → Option (List Nat)} {T : Ty} {σ : Nat → Ty} (h : T.lab.num = none) : need as (T.sub σ) = (need as T).map fun us => us.map (Ty.sub σ) := by
  rw [sub_node σ h, subs_map]
  unfold need
  show (match T.lab with | .var _ => some [] | .fn => none | .tup => some (T.kids.map (Ty.sub σ)) | .made s => (as s).map fun (q : List Nat) => q.filterMap fun i => (T.kids.map (Ty.sub σ))[i]?) = _
  cases e : T.lab with
  | var n => rw [e] at h; cases h
  | fn => rfl
  | tup => rfl
  | made s =>
    show (as s).map _ = ((as s).map _).map _
    cases as s with
    | none => rfl
    | some q => exact congrArg some (fm_map (Ty.sub σ) T.kids q)
theorem sub_lab {T : Ty} {σ : Nat → Ty} (h : T.lab.num = none) : (T.sub σ).lab.num = none := by
  rw [sub_node σ h]
  exact h
theorem Adm_sub_k {as : Nat → Option (List Nat)} {σ : Nat → Ty} {p : Nat → Prop} : ∀ (k : Nat) (T : Ty), T.sz ≤ k → (Adm as (T.sub σ) p ↔ Adm as T fun n => Adm as (σ n) p)
  | 0, T, h => by
    have := sz_pos T
    omega
  | k + 1, T, h => by
    cases e : T.lab.num with
    | some m => rw [sub_var σ e, Adm_var e]
    | none =>
      rw [Adm_need (sub_lab e), Adm_need e, need_sub e]
      cases e2 : need as T with
      | none => exact ⟨fun ⟨M, h, _⟩ => (nomatch h), fun ⟨M, h, _⟩ => (nomatch h)⟩
      | some us =>
        have ih : ∀ u ∈ us, (Adm as (u.sub σ) p ↔ Adm as u fun n => Adm as (σ n) p) := fun u hu => by
          have := kid_sz (need_kids e2 u hu)
          exact Adm_sub_k k u (by omega)
        constructor
        · rintro ⟨vs, h1, h2⟩
          cases h1
          exact ⟨us, rfl, fun u hu => (ih u hu).mp (h2 _ (List.mem_map.mpr ⟨u, hu, rfl⟩))⟩
        · rintro ⟨vs, h1, h2⟩
          cases h1
          refine ⟨_, rfl, fun v hv => ?_⟩
          obtain ⟨u, hu, rfl⟩ := List.mem_map.mp hv
          exact (ih u hu).mpr (h2 u hu)
theorem Adm_sub {as : Nat → Option (List Nat)} {σ : Nat → Ty} {p : Nat → Prop} {T : Ty} : Adm as (T.sub σ) p ↔ Adm as T fun n => Adm as (σ n) p := Adm_sub_k _ T (Nat.le_refl _)
/-- more marks, no less -/
theorem adm_more {as : Nat → Option (List Nat)} {T : Ty} {ms ms' : List Nat} (h : adm as T ms = true) (hm : ∀ n ∈ ms, n ∈ ms') : adm as T ms' = true := by
  obtain ⟨M, h1, h2⟩ := (adm_iff _ _ _).mp h
  exact (adm_iff _ _ _).mpr ⟨M, h1, fun n hn => hm n (h2 n hn)⟩
theorem sub_ok_k {ar : List Nat} {σ : Nat → Ty} : ∀ (k : Nat) (T : Ty), T.sz ≤ k → T.Ok ar → (∀ n ∈ T.vars, (σ n).Ok ar) → (T.sub σ).Ok ar
  | 0, T, h, _, _ => by
    have := sz_pos T
    omega
  | k + 1, T, h, hok, hs => by
    cases e : T.lab.num with
    | some m =>
      rw [sub_var σ e]
      exact hs m (vars_self e)
    | none =>
      rw [sub_node σ e, subs_map]
      refine .node (by rw [List.length_map]; exact hok.loc) fun t ht => ?_
      obtain ⟨u, hu, rfl⟩ := List.mem_map.mp ht
      have := kid_sz hu
      exact sub_ok_k k u (by omega) (hok.kid hu) fun n hn => hs n (vars_kid hu hn)
theorem sub_vars_k {σ : Nat → Ty} {n : Nat} : ∀ (k : Nat) (T : Ty), T.sz ≤ k → n ∈ (T.sub σ).vars → ∃ m ∈ T.vars, n ∈ (σ m).vars
  | 0, T, h, _ => by
    have := sz_pos T
    omega
  | k + 1, T, h, hn => by
    cases e : T.lab.num with
    | some m =>
      rw [sub_var σ e] at hn
      exact ⟨m, vars_self e, hn⟩
    | none =>
      rw [sub_node σ e, subs_map] at hn
      rcases vars_node hn with e2 | ⟨t, ht, hnt⟩
      · rw [e] at e2
        cases e2
      · obtain ⟨u, hu, rfl⟩ := List.mem_map.mp ht
        have := kid_sz hu
        obtain ⟨m, h1, h2⟩ := sub_vars_k k u (by omega) hnt
        exact ⟨m, vars_kid hu h1, h2⟩
theorem wsum_le {f : Nat → Nat} {b : Nat} (h1 : 1 ≤ b) (hf : ∀ n, f n ≤ b) : ∀ (ts : List Ty), wsum f ts ≤ ts.length * b
  | [] => Nat.le_of_eq (by rw [wsum_nil]; simp)
  | t :: r => by
    have := wsum_le h1 hf r
    rw [wsum_cons, List.length_cons, Nat.succ_mul]
    refine Nat.le_trans (Nat.add_le_add ?_ this) (Nat.le_of_eq (Nat.add_comm _ _))
    cases t.lab.num with
    | none => exact h1
    | some n => exact hf n
theorem sub_sz {ar : List Nat} {σ : Nat → Ty} {b : Nat} {T : Ty} (hok : T.Ok ar) (h1 : 1 ≤ b) (hs : ∀ n, (σ n).sz ≤ b) : (T.sub σ).sz ≤ T.sz * b := by
  rw [← wsum_sub σ (fun n => (σ n).sz) (fun n => rfl) T hok.leafy, ← pre_len T]
  exact wsum_le h1 hs _
end Lq
namespace Lq
open PySem L2
/-! ### the drawn rows -/
structure KwOk (kw : List V) : Prop where
  pair : inV (.str "pair") kw = false
  box : inV (.str "box") kw = false
  far : inV (.str "far") kw = false
theorem low_pair {kw : List V} (h : inV (.str "pair") kw = false) : LowOk kw "pair" := ⟨by decide +kernel, by decide +kernel, by decide +kernel, h⟩
theorem low_box {kw : List V} (h : inV (.str "box") kw = false) : LowOk kw "box" := ⟨by decide +kernel, by decide +kernel, by decide +kernel, h⟩
theorem low_far {kw : List V} (h : inV (.str "far") kw = false) : LowOk kw "far" := ⟨by decide +kernel, by decide +kernel, by decide +kernel, h⟩
theorem drawn_facts {kw : List V} (k : KwOk kw) {nrs : List NRow} (h : Drawn nrs) : nrs.length = 3 ∧ arOf (firstRows ++ nrs.map NRow.row) = ar9 ∧ RowsOk (firstRows ++ nrs.map NRow.row) ∧ asOf (firstRows ++ nrs.map NRow.row) 5 = some [0] ∧ asOf (firstRows ++ nrs.map NRow.row) 6 = some [] ∧
    ∀ r ∈ nrs, OutOk kw r ∧ ConOk ar9 r := by
  obtain ⟨a2, a1, a0, con, rfl, h2, h1, h0, hc⟩ := h.ex
  refine ⟨rfl, rfl, ?_, rfl, rfl, ?_⟩
  · intro row hrow l hl
    simp only [firstRows, List.map_cons, List.map_nil, List.cons_append, List.nil_append, List.mem_cons, List.not_mem_nil, or_false, NRow.row] at hrow
    rcases hrow with rfl | rfl | rfl | rfl | rfl | rfl | rfl | rfl | rfl
    · cases hl; exact .inl rfl
    · cases hl; exact .inl rfl
    · cases hl; exact .inl rfl
    · cases hl
    · cases hl; exact .inr (.inl ⟨rfl, Nat.le_refl _⟩)
    · cases hl; exact .inl rfl
    · have hl : a2 = some l := hl
      subst hl
      simp only [aks2, List.mem_cons, List.not_mem_nil, or_false, Option.some.injEq, reduceCtorEq, false_or] at h2
      rcases h2 with rfl | rfl | rfl | rfl | rfl
      · exact .inl rfl
      · exact .inr (.inl ⟨rfl, by decide⟩)
      · exact .inr (.inr (.inl ⟨rfl, by decide⟩))
      · exact .inr (.inr (.inr ⟨rfl, by decide⟩))
      · exact .inr (.inr (.inr ⟨rfl, by decide⟩))
    · have hl : a1 = some l := hl
      subst hl
      simp only [aks1, List.mem_cons, List.not_mem_nil, or_false, Option.some.injEq, reduceCtorEq, false_or] at h1
      rcases h1 with rfl | rfl | rfl
      · exact .inl rfl
      · exact .inr (.inl ⟨rfl, by decide⟩)
      · exact .inr (.inl ⟨rfl, by decide⟩)
    · have hl : a0 = some l := hl
      subst hl
      simp only [aks0, List.mem_cons, List.not_mem_nil, or_false, Option.some.injEq, reduceCtorEq, false_or] at h0
      rcases h0 with rfl
      exact .inl rfl
  · intro r hr
    simp only [List.mem_cons, List.not_mem_nil, or_false] at hr
    rcases hr with rfl | rfl | rfl
    · refine ⟨⟨low_pair k.pair, by show 2 ≤ 4; decide, fun l hl => ?_⟩, fun T hT => nomatch hT⟩
      have hl : a2 = some l := hl
      subst hl
      simp only [aks2, List.mem_cons, List.not_mem_nil, or_false, Option.some.injEq, reduceCtorEq, false_or] at h2
      rcases h2 with rfl | rfl | rfl | rfl | rfl <;> exact ⟨by decide, by show ∀ p ∈ _, p < 2; decide⟩
    · refine ⟨⟨low_box k.box, by show 1 ≤ 4; decide, fun l hl => ?_⟩, fun T hT => ?_⟩
      · have hl : a1 = some l := hl
        subst hl
        simp only [aks1, List.mem_cons, List.not_mem_nil, or_false, Option.some.injEq, reduceCtorEq, false_or] at h1
        rcases h1 with rfl | rfl | rfl <;> exact ⟨by decide, by show ∀ p ∈ _, p < 1; decide⟩
      · have hT : con = some (some T) := hT
        have := hc _ hT
        simp only [cars, List.mem_cons, List.not_mem_nil, or_false, Option.some.injEq, reduceCtorEq, false_or] at this
        have v0 : TyB 1 1 (tv 0) := .leaf (show 0 = 0 ∧ ((0 : Nat) : Int) < 10 ^ 60 from ⟨rfl, by decide⟩) (fun n e => by cases e; decide) (Nat.le_refl _)
        have fin : ∀ {T : Ty} {b : Nat}, TyB 1 b T → b ≤ 300 → T.Ok ar9 ∧ T.sz ≤ 300 ∧ ∀ i, i ∈ T.vars → i < 1 := fun h hb => ⟨h.ok, Nat.le_trans h.sz hb, h.vr⟩
        rcases this with rfl | rfl | rfl
        · exact fin v0 (by decide)
        · exact fin (b := 4) (TyB.node (b := 1) ⟨by decide, by decide, rfl⟩ rfl (fun t ht => by rw [List.mem_singleton.mp ht]; exact v0) (by decide)) (by decide)
        · exact fin (b := 4) (TyB.node (b := 1) rfl rfl (fun t ht => by
            rcases List.mem_cons.mp ht with rfl | ht
            · exact v0
            · rw [List.mem_singleton.mp ht]
              exact v0) (by decide)) (by decide)
    · refine ⟨⟨low_far k.far, by show 0 ≤ 4; decide, fun l hl => ?_⟩, fun T hT => nomatch hT⟩
      have hl : a0 = some l := hl
      subst hl
      simp only [aks0, List.mem_cons, List.not_mem_nil, or_false, Option.some.injEq, reduceCtorEq, false_or] at h0
      rcases h0 with rfl
      exact ⟨by decide, by show ∀ p ∈ _, p < 0; decide⟩
end Lq
namespace Lq
open PySem L2
/-! ### the law's round -/
def rCatC (K : PySem.W.Frag) : R2 := fun x y H Q => ∃ (a b : Addr) (xs ys : List V), x = .ref a ∧ y = .ref b ∧ SqT K H a xs ∧ SqT K H b ys ∧ xs.length + ys.length ≤ sizeLine ∧ ∀ (H' : Hp) (c : Addr), Same H H' → SqT K H' c (xs ++ ys) → Q (.ref c) H'
theorem op_catC {X : Cx} : OpR X (binaryOp .Add) (rCatC X.K) := fun pins s σ H x y v u Q I rx ry h => by
  obtain ⟨a, b, xs, ys, rfl, rfl, ha, hb, hl, q⟩ := h
  refine op_catA pins s σ H _ _ v u Q I rx ry ⟨a, b, xs, ys, rfl, rfl, ha, hb, hl, fun e => ?_, fun _ e => ?_, fun _ _ p hp => ?_⟩
  · subst e
    exact q H b (Same.refl _) hb
  · subst e
    exact q H a (Same.refl _) (by rw [List.append_nil]; exact ha)
  · exact q _ p (same_upd hp _) sq_new
theorem tt_res {tt : TT} {σ : St} {H : Hp} {Q : Bool → Hp → Prop} (b : Bool) (h : ∀ R : Bool → Hp → Prop, (∀ H1, Same H H1 → R b H1) → tt σ H R) (k : ∀ H1, Same H H1 → Q b H1) : tt σ H Q := h Q k
theorem te_res {te : TE} {σ : St} {H : Hp} {Q : VK} (v : V) (h : ∀ R : VK, (∀ H1, Same H H1 → R v H1) → te σ H R) (k : ∀ H1, Same H H1 → Q v H1) : te σ H Q := h Q k
def AskRes (H : Hp) (o : Option (List Nat)) (av : V) : Prop := (o = none ∧ av = .non) ∨ ∃ (M : List Nat) (p : Addr) (ns : List Nat), o = some M ∧ av = .ref p ∧ H p = some (.lst (natV ns)) ∧ ns.Nodup ∧ ∀ n, n ∈ ns ↔ n ∈ M
theorem AskRes.gw {H H' : Hp} {h : Addr} {o : Option (List Nat)} {av : V} (k : HatOk H h) (hp : ∀ p, av = .ref p → p ≠ h) (g : Gw h H H') (a : AskRes H o av) : AskRes H' o av := by
  rcases a with a | ⟨M, p, ns, h1, h2, h3, h4⟩
  · exact .inl a
  · exact .inr ⟨M, p, ns, h1, h2, g.1 _ _ (hp p h2) h3, h4⟩
theorem AskRes.same {H H' : Hp} {o : Option (List Nat)} {av : V} (g : Same H H') (a : AskRes H o av) : AskRes H' o av := by
  rcases a with a | ⟨M, p, ns, h1, h2, h3, h4⟩
  · exact .inl a
  · exact .inr ⟨M, p, ns, h1, h2, g _ _ h3, h4⟩
theorem ask_both {K : PySem.W.Frag} {n : Nat} {d : Addr} {v : V} {rows : List Row} {T : Ty} {H : Hp} {Q : VK} {E : XK} (hTab : TabH K H d rows) (hT : TyH K H T v) (hok : T.Ok (arOf rows)) (hro : RowsOk rows) (hvs : ∀ n, n ∈ T.vars → n < 60) (hsz : T.sz ≤ n)
    (k : ∀ H' av, Same H H' → AskRes H' (T.askd (asOf rows)) av → (∀ p, av = .ref p → H p = none) → Q av H') : spLAsk K n [.ref d, v] H Q E :=
  ⟨d, v, rows, T, rfl, hTab, hT, hok, hro, hvs, hsz, fun hno H' g => k H' .non g (.inl ⟨hno, rfl⟩) (fun p e => nomatch e), fun M hM H' p ns g hn hp hnd hmem => k H' _ g (.inr ⟨M, p, ns, hM, rfl, hp, hnd, hmem⟩) (fun p' e => by
    cases e
    exact hn)⟩
structure TyOk (rows : List Row) (X : Ty) : Prop where
  ok : X.Ok (arOf rows)
  sz : X.sz ≤ 300
  vs : ∀ n, n ∈ X.vars → n < 60
structure MkOk (ns : List Nat) : Prop where
  lt : ∀ n, n ∈ ns → n < 1000
  asc : ns.Pairwise (· < ·)
  len : ns.length ≤ 100
theorem adm_call {K : PySem.W.Frag} {C m : Addr} {b v : V} {rows : List Row} {X : Ty} {ns : List Nat} {H : Hp} {Q : VK} {E : XK} (hro : RowsOk rows) (hB : BookH K C H rows b) (hT : TyH K H X v) (hX : TyOk rows X) (hm : SqT K H m (natV ns)) (hn : MkOk ns)
    (k : ∀ H', Same H H' → Q (.bl (adm (asOf rows) X ns)) H') : spAdm K C [b, v, .ref m] H Q E :=
  ⟨b, v, m, rows, X, ns, rfl, hB, hT, hX.ok, hro, hX.sz, hX.vs, hm, fun n hn' => by have := hn.lt n hn'; omega, by have := hn.len; omega, hn.asc, k⟩
theorem adm_no {as : Nat → Option (List Nat)} {T : Ty} {ms : List Nat} (h : T.askd as = none) : adm as T ms = false := by unfold adm; rw [h]
def duePut (as : Nat → Option (List Nat)) (T : Ty) (us : List Ty) : Bool := match T.askd as with
  | none => false
  | some M => M.all fun n => adm as (sg us n) [0]
theorem due_put (as : Nat → Option (List Nat)) (T : Ty) (us : List Ty) : adm as (T.sub (sg us)) [0] = duePut as T us := by
  rw [Bool.eq_iff_iff, adm_iff, Adm_sub]
  unfold Adm duePut
  cases e : T.askd as with
  | none => exact ⟨fun ⟨M, h, _⟩ => (nomatch h), fun h => (nomatch h)⟩
  | some M =>
    show _ ↔ (M.all fun n => adm as (sg us n) [0]) = true
    rw [List.all_eq_true]
    exact ⟨fun ⟨M', h1, h2⟩ => by
      cases h1
      exact fun n hn => (adm_iff _ _ _).mpr (h2 n hn), fun h => ⟨M, rfl, fun n hn => (adm_iff _ _ _).mp (h n hn)⟩⟩
theorem adm_ref {as : Nat → Option (List Nat)} (h : as 6 = some []) (T : Ty) : adm as (tmd 6 [T]) [] = true := by
  refine (adm_iff _ _ _).mpr ((Adm_need (T := tmd 6 [T]) rfl).mpr ⟨[], ?_, fun u hu => nomatch hu⟩)
  show (as 6).map _ = _
  rw [h]
  rfl
theorem adm_fn {as : Nat → Option (List Nat)} (T : Ty) (ms : List Nat) : adm as (tfn T T) ms = false := adm_no (by rw [askd_eq]; rfl)
theorem adm_pair {as : Nat → Option (List Nat)} (h : as 5 = some [0]) (T : Ty) (ms : List Nat) : adm as (ttup [T, tmd 5 [T]]) ms = adm as T ms := by
  have e5 : need as (tmd 5 [T]) = some [T] := by
    show (as 5).map _ = _
    rw [h]
    rfl
  rw [Bool.eq_iff_iff, adm_iff, adm_iff, Adm_need (T := ttup [T, tmd 5 [T]]) rfl]
  constructor
  · rintro ⟨us, h1, h2⟩
    have h1 : some [T, tmd 5 [T]] = some us := h1
    cases h1
    exact h2 T List.mem_cons_self
  · intro hT
    refine ⟨_, rfl, fun u hu => ?_⟩
    rcases List.mem_cons.mp hu with rfl | hu
    · exact hT
    · rw [List.mem_singleton.mp hu, Adm_need (T := tmd 5 [T]) rfl]
      exact ⟨_, e5, fun u hu => by rw [List.mem_singleton.mp hu]; exact hT⟩
theorem sg_sz {us : List Ty} (h : ∀ t ∈ us, t.sz ≤ 4) (n : Nat) : (sg us n).sz ≤ 4 := by
  show (us[n]?.getD _).sz ≤ 4
  cases e : us[n]? with
  | none =>
    show Ty.sz (.node .tup []) ≤ 4
    rw [Ty.sz, szs_nil]
    decide
  | some t => exact h t (List.mem_of_getElem? e)
theorem TyB.tyok {rows : List Row} {c b : Nat} {T : Ty} (har : arOf rows = ar9) (h : TyB c b T) (hb : b ≤ 300) (hc : c ≤ 60) : TyOk rows T := ⟨by rw [har]; exact h.ok, Nat.le_trans h.sz hb, fun n hn => Nat.lt_of_lt_of_le (h.vr n hn) hc⟩
theorem TyB.md {c b s : Nat} {T : Ty} (h : TyB c b T) (hs : s = 5 ∨ s = 6) : TyB c (1 + 3 * b) (tmd s [T]) :=
  .node (by rcases hs with rfl | rfl <;> exact ⟨by decide, by decide, rfl⟩) rfl (fun t ht => by rw [List.mem_singleton.mp ht]; exact h) (by show 1 ≤ 3; decide)
theorem TyB.two {c b : Nat} {l : Lab} {T U : Ty} (h : TyB c b T) (h2 : TyB c b U) (hl : LocOk ar9 l 2) (hn : l.num = none) : TyB c (1 + 2 * b) (.node l [T, U]) := by
  have hs : ∀ t ∈ [T, U], TyB c b t := fun t ht => by
    rcases List.mem_cons.mp ht with rfl | ht
    · exact h
    · rw [List.mem_singleton.mp ht]
      exact h2
  refine ⟨(TyB.node (ts := [T, U]) hl hn hs (by show 2 ≤ 3; decide)).ok, (TyB.node (ts := [T, U]) hl hn hs (by show 2 ≤ 3; decide)).vr, ?_⟩
  have := szs_le fun t ht => (hs t ht).sz
  have h4 : [T, U].length * b = 2 * b := rfl
  rw [Ty.sz]
  omega
theorem TyB.md2 {c b s : Nat} {T : Ty} (h : TyB c b T) (hs : s = 5 ∨ s = 6) : TyB c (1 + b) (tmd s [T]) := by
  refine ⟨(h.md hs).ok, (h.md hs).vr, ?_⟩
  have := h.sz
  rw [Ty.sz, szs_cons, szs_nil]
  omega
/-- what a round has at hand -/
structure Hand (K : PySem.W.Frag) (C h d : Addr) (bv : V) (rows : List Row) (T : Ty) (v : V) (m : Addr) (ms : List Nat) (H : Hp) : Prop where
  hat : HatOk H h
  tab : TabH K H d rows
  bk : BookH K C H rows bv
  ty : TyH K H T v
  mkd : SqT K H m (natV ms)
theorem Hand.same {K : PySem.W.Frag} {C h d m : Addr} {bv v : V} {rows : List Row} {T : Ty} {ms : List Nat} {H H' : Hp} (g : Same H H') (a : Hand K C h d bv rows T v m ms H) : Hand K C h d bv rows T v m ms H' :=
  ⟨a.hat.mono g, a.tab.mono g, a.bk.mono g, a.ty.mono (tups_of g), tups_of g _ _ a.mkd⟩
theorem Hand.gw {K : PySem.W.Frag} {C h d m : Addr} {bv v : V} {rows : List Row} {T : Ty} {ms : List Nat} {H H' : Hp} (g : Gw h H H') (a : Hand K C h d bv rows T v m ms H) : Hand K C h d bv rows T v m ms H' :=
  ⟨g.2, a.tab.gw a.hat g, g.book a.hat a.bk, a.ty.mono (g.tups a.hat), g.tups a.hat _ _ a.mkd⟩
theorem Hand.new {K : PySem.W.Frag} {C h d m x : Addr} {bv v : V} {rows : List Row} {T : Ty} {ms : List Nat} {xs : List V} {H H' : Hp} (a : Hand K C h d bv rows T v m ms H) (g : Same H H') (t : SqT K H' x xs) : Hand K C h d bv rows T v m ms H' ∧ SqT K H' x xs := ⟨a.same g, t⟩
def mks : List (List Nat) := [[], [0], [1], [0, 1], [0, 1, 2], [2], [0, 2], [7]]
theorem mks_ok {ms : List Nat} (h : ms ∈ mks) : MkOk ms := by
  simp only [mks, List.mem_cons, List.not_mem_nil, or_false] at h
  rcases h with rfl | rfl | rfl | rfl | rfl | rfl | rfl | rfl <;> exact ⟨by decide, by decide, by decide⟩
theorem mks_len {ms : List Nat} (h : ms ∈ mks) : ms.length ≤ 3 := by
  simp only [mks, List.mem_cons, List.not_mem_nil, or_false] at h
  rcases h with rfl | rfl | rfl | rfl | rfl | rfl | rfl | rfl <;> decide
def MkV (K : PySem.W.Frag) (H : Hp) (ms : List Nat) (v : V) : Prop := ∃ m, v = .ref m ∧ SqT K H m (natV ms)
/-- numbers in order, none twice -/
theorem asc_nat {js : List Int} {F : List Nat} (h1 : js.Pairwise (· < ·)) (h2 : ∀ k : Int, k ∈ js ↔ k ∈ F.map fun (n : Nat) => (n : Int)) : ∃ ks : List Nat, js = ks.map (fun (n : Nat) => (n : Int)) ∧ ks.Pairwise (· < ·) ∧ ∀ n, n ∈ ks ↔ n ∈ F := by
  have e : js = (js.map Int.toNat).map fun (n : Nat) => (n : Int) := by
    rw [List.map_map]
    refine (List.map_id js).symm.trans (List.map_congr_left fun z hz => ?_)
    obtain ⟨n, _, e⟩ := List.mem_map.mp ((h2 z).mp hz)
    show z = ((z.toNat : Nat) : Int)
    rw [← e]
    rfl
  refine ⟨js.map Int.toNat, e, ?_, fun n => ?_⟩
  · rw [e] at h1
    exact (List.pairwise_map.mp h1).imp fun {a b} h => by omega
  · rw [mem_cast, ← e, h2, ← mem_cast]
section
variable {P : Program} {w : World} {K : PySem.W.Frag} {mg : Str → Option Value} {base : Heap} {C : Addr}
theorem z8 : (8 : Nat) ≤ sizeLine := by decide
abbrev s__law_right : Stmt := top 61
theorem sc__law_right : FnScope ["_law_hat_here", "_law_rows_here", "_law_table_here", "_law_book", "_law_turn", "_law_kt", "_law_marked_in", "_law_due", "_law_more", "_law_asked_here", "_law_types", "_law_number"] ["_law_hat_here"] (defScope s__law_right) := ⟨rfl, rfl, rfl, by decide +kernel, rfl, by decide +kernel, by decide +kernel⟩
def spRight : Sp := fun vs H Q _ => ∃ h : Addr, vs = [.ref h] ∧ HatOk H h ∧ ∀ H', Gw h H H' → Q (.bl true) H'
set_option maxHeartbeats 4000000 in
theorem ok_right {a0 am f_init : Addr} {fd_init : FuncData} {rs0 kw : List V} (A : At K mg "_law_right" s__law_right ["_law_hat_here"]) (B : Bi mg) (T : Bk K mg C) (R : Fr K mg a0 rs0) (kwo : KwOk kw) (M_Book : Mk K C f_init) (ham : ∀ H, SqT K H am [])
    (G_init : FnOk P w K mg base CX0 1 f_init fd_init ["self"] (spInit K C a0)) (b_init : Binds K fd_init ["self"] []) (DM_with_stamps : HasM P w K mg base C "with_stamps" ["self", "rows"] 8 (spStamps K C kw))
    (D__law_rows : Has P w K mg base "_law_rows" ["_law_hat_here"] 3 (spRows K)) (D__law_table : Has P w K mg base "_law_table" ["_law_rows_here"] 1 (spTable K)) (D__law_type : Has P w K mg base "_law_type" ["_law_hat_here", "_law_count", "_law_deep"] 6 (spType K 4)) (D2 : Has P w K mg base "_law_type" ["_law_hat_here", "_law_count", "_law_deep"] 4 (spType K 2)) (D__law_choice : Has P w K mg base "_law_choice" ["_law_hat_here", "_law_items"] 2 (spChoice K))
    (D__law_admits : Has P w K mg base "_law_admits" ["_law_table_here", "_law_kt", "_law_marked_in"] 42 (spLAdm K)) (D__law_asked : Has P w K mg base "_law_asked" ["_law_table_here", "_law_kt"] 41 (spLAsk K 40)) (DA : HasA P w K mg base 8 am (spAdm K C)) (D_put : Has P w K mg base "put" ["book", "T", "types"] 8 (spPut K C)) : Has P w K mg base "_law_right" ["_law_hat_here"] 43 spRight := by
  refine .mk A fun f fd F => ?_
  refine F.ok sc__law_right (fun vs H Q E h => ?_) (fun cdv A outer s H vs Q E hr h => ?_)
  · obtain ⟨h, rfl, _⟩ := h
    rfl
  obtain ⟨h, rfl, hh, q⟩ := h
  obtain ⟨f__law_rows, fd__law_rows, G__law_rows, b__law_rows, k__law_rows, m__law_rows⟩ := D__law_rows
  obtain ⟨f__law_table, fd__law_table, G__law_table, b__law_table, k__law_table, m__law_table⟩ := D__law_table
  obtain ⟨f__law_type, fd__law_type, G__law_type, b__law_type, k__law_type, m__law_type⟩ := D__law_type
  obtain ⟨f__law_choice, fd__law_choice, G__law_choice, b__law_choice, k__law_choice, m__law_choice⟩ := D__law_choice
  obtain ⟨f__law_admits, fd__law_admits, G__law_admits, b__law_admits, k__law_admits, m__law_admits⟩ := D__law_admits
  obtain ⟨f__law_asked, fd__law_asked, G__law_asked, b__law_asked, k__law_asked, m__law_asked⟩ := D__law_asked
  obtain ⟨f_put, fd_put, G_put, b_put, k_put, m_put⟩ := D_put
  obtain ⟨fm_with_stamps, fdm_with_stamps, GM_with_stamps, bm_with_stamps, mm_with_stamps⟩ := DM_with_stamps
  obtain ⟨f2, fd2, G2, b2, k2, m2⟩ := D2
  obtain ⟨f_admits, fd_admits, G_admits, ⟨ds, hds_admits, b_admits⟩, kb_admits, k_admits, m_admits⟩ := DA
  refine ⟨_, (pss_cons (ps_set (i := 1) sc__law_right.nd rfl (Or.inl rfl) (pe_call G__law_rows (hr.mono (by decide)) rfl m__law_rows k__law_rows b__law_rows .nil pass0 (pa_cons (pv 0) pa_nil)))
  (pss_cons (ps_asg (pe_tup (pa_cons (pe_call G__law_table (hr.mono (by decide)) rfl m__law_table k__law_table b__law_table .nil pass0 (pa_cons (pv 1) pa_nil)) (pa_cons (pe_ix (ixT K) (pe_meth (pe_make0 M_Book G_init (hr.mono (by decide)) rfl T.mgC b_init .nil pass0) T.cl mm_with_stamps GM_with_stamps (hr.mono (by decide)) bm_with_stamps .nil pass0 (pa_cons (pv 1) pa_nil)) pe_int (fun _ _ => rfl)) pa_nil))) (pg_tup rfl (pgs_cons (pg_name (i := 2) sc__law_right.nd rfl (Or.inr rfl)) (pgs_cons (pg_name (i := 3) sc__law_right.nd rfl (Or.inl rfl)) pgs_nil))))
  (pss_cons (ps_for PassesOwn.never rfl (pi_range1 (by rfl) B.range (pa_cons pe_int pa_nil)) (pg_name (i := 4) sc__law_right.nd rfl (Or.inl rfl)) (pss_cons (ps_set (i := 5) sc__law_right.nd rfl (Or.inl rfl) (pe_call G__law_type (hr.mono (by decide)) rfl m__law_type k__law_type b__law_type .nil pass0 (pa_cons (pv 0) (pa_cons pe_int (pa_cons pe_int pa_nil)))))
  (pss_cons (ps_set (i := 6) sc__law_right.nd rfl (Or.inl rfl) (pe_call G__law_choice (hr.mono (by decide)) rfl m__law_choice k__law_choice b__law_choice .nil pass0 (pa_cons (pv 0) (pa_cons (pe_lst (pa_cons (pe_tup pa_nil) (pa_cons (pe_tup (pa_cons pe_int pa_nil)) (pa_cons (pe_tup (pa_cons pe_int pa_nil)) (pa_cons (pe_tup (pa_cons pe_int (pa_cons pe_int pa_nil))) (pa_cons (pe_tup (pa_cons pe_int (pa_cons pe_int (pa_cons pe_int pa_nil)))) (pa_cons (pe_tup (pa_cons pe_int pa_nil)) (pa_cons (pe_tup (pa_cons pe_int (pa_cons pe_int pa_nil))) (pa_cons (pe_tup (pa_cons pe_int pa_nil)) pa_nil))))))))) pa_nil))))
  (pss_cons (ps_set (i := 7) sc__law_right.nd rfl (Or.inl rfl) (pe_call G__law_admits (hr.mono (by decide)) rfl m__law_admits k__law_admits b__law_admits .nil pass0 (pa_cons (pv 2) (pa_cons (pv 5) (pa_cons (pv 6) pa_nil)))))
  (pss_cons (ps_set (i := 8) sc__law_right.nd rfl (Or.inl rfl) (pe_callTy call_tuple_of (by rfl) B.tuple (by decide +kernel) (pa_cons (pe_callB (cr_sortedSet rfl) (by rfl) B.sorted (by decide +kernel) (pa_cons (pe_callTy (set_ofT rfl) (by rfl) B.set (by decide +kernel) (pa_cons (pe_op op_catC (pv 6) (pe_tup (pa_cons pe_int (pa_cons pe_int pa_nil)))) pa_nil)) pa_nil)) pa_nil)))
  (pss_cons (ps_if (PW.pt (pw_or (pt_cmpR op_ne (pe_callN G_admits (hr.mono (by decide)) (by rfl) m_admits k_admits kb_admits pass0 (pa_cons (pv 3) (pa_cons (pv 5) pa_nil)) (pk_cons (pv 6) pk_nil)) (pv 7) (nomark _)) (pw_or1 (PW.pt (pw_and (pt_val (pv 7)) (pw_and1 (pt_not (pt_val (pe_callN G_admits (hr.mono (by decide)) (by rfl) m_admits k_admits kb_admits pass0 (pa_cons (pv 3) (pa_cons (pv 5) pa_nil)) (pk_cons (pv 8) pk_nil)))))))))) (pss_one (ps_ret pe_bl)) pss_nil)
  (pss_cons (ps_set (i := 9) sc__law_right.nd rfl (Or.inl rfl) (pe_call G__law_asked (hr.mono (by decide)) rfl m__law_asked k__law_asked b__law_asked .nil pass0 (pa_cons (pv 2) (pa_cons (pv 5) pa_nil))))
  (pss_cons (ps_if (PW.pt (pw_and (pt_cmpR op_isN (pv 9) pe_non (nomark _)) (pw_and1 (pt_val (pe_callN G_admits (hr.mono (by decide)) (by rfl) m_admits k_admits kb_admits pass0 (pa_cons (pv 3) (pa_cons (pv 5) pa_nil)) (pk_cons (pe_tup (pa_cons pe_int (pa_cons pe_int (pa_cons pe_int pa_nil)))) pk_nil)))))) (pss_one (ps_ret pe_bl)) pss_nil)
  (pss_cons (ps_if (PW.pt (pw_and (pt_cmpR op_notN (pv 9) pe_non (nomark _)) (pw_and1 (pt_not (pt_val (pe_callN G_admits (hr.mono (by decide)) (by rfl) m_admits k_admits kb_admits pass0 (pa_cons (pv 3) (pa_cons (pv 5) pa_nil)) (pk_cons (pe_callTy call_tuple_of (by rfl) B.tuple (by decide +kernel) (pa_cons (pe_callB cr_sortedI (by rfl) B.sorted (by decide +kernel) (pa_cons (pv 9) pa_nil)) pa_nil)) pk_nil))))))) (pss_one (ps_ret pe_bl)) pss_nil)
  (pss_cons (ps_set (i := 10) sc__law_right.nd rfl (Or.inr rfl) (pe_callTy call_tuple_of (by rfl) B.tuple (by decide +kernel) (pa_cons (pe_lc (own := [("_law_number", 11)]) (g := gName 11) (tt := tYes) (by rfl) sc__law_right.nd (pi_range1 (by rfl) B.range (pa_cons pe_int pa_nil)) (blkOk_by (N := ["_law_hat_here", "_law_rows_here", "_law_table_here", "_law_book", "_law_turn", "_law_kt", "_law_marked_in", "_law_due", "_law_more", "_law_asked_here", "_law_types", "_law_number"]) (sc := defScope s__law_right) (by decide +kernel)) (fun _ _ _ _ _ => (pg_name (i := 11) sc__law_right.nd rfl (Or.inl rfl))) (fun _ _ _ _ _ => pts_nil) (fun _ _ _ _ _ => (pe_call G2 (hr.mono (by decide)) rfl m2 k2 b2 .nil pass0 (pa_cons (pv 0) (pa_cons pe_int (pa_cons pe_int pa_nil)))))) pa_nil)))
  (pss_cons (ps_set (i := 7) sc__law_right.nd rfl (Or.inl rfl) (pe_and (pe_cmpR op_notN (pv 9) pe_non (nomark _)) (pe_one (pe_cmpR (op_eqD hr.units) (pe_lc (own := [("_law_number", 11)]) (g := gName 11) (tt := _) (by rfl) sc__law_right.nd (pi_list (pv 9)) (blkOk_by (N := ["_law_hat_here", "_law_rows_here", "_law_table_here", "_law_book", "_law_turn", "_law_kt", "_law_marked_in", "_law_due", "_law_more", "_law_asked_here", "_law_types", "_law_number"]) (sc := defScope s__law_right) (by decide +kernel)) (fun _ _ _ _ _ => (pg_name (i := 11) sc__law_right.nd rfl (Or.inl rfl))) (fun _ _ _ _ _ => (pts_one (pt_not (pt_val (pe_call G__law_admits (hr.mono (by decide)) rfl m__law_admits k__law_admits b__law_admits .nil pass0 (pa_cons (pv 2) (pa_cons (pe_ix (ixT K) (pv 10) (pv 11) (fun _ _ => rfl)) (pa_cons (pe_tup (pa_cons pe_int pa_nil)) pa_nil)))))))) (fun _ _ _ _ _ => (pv 11))) (pe_lst pa_nil) (nomark _)))))
  (pss_cons (ps_if (pt_cmpR op_ne (pe_callN G_admits (hr.mono (by decide)) (by rfl) m_admits k_admits kb_admits pass0 (pa_cons (pv 3) (pa_cons (pe_call G_put (hr.mono (by decide)) rfl m_put k_put b_put .nil pass0 (pa_cons (pv 3) (pa_cons (pv 5) (pa_cons (pv 10) pa_nil)))) pa_nil)) (pk_cons (pe_tup (pa_cons pe_int pa_nil)) pk_nil)) (pv 7) (nomark _)) (pss_one (ps_ret pe_bl)) pss_nil)
  (pss_cons (ps_if (PW.pt (pw_or (pt_not (pt_val (pe_call G_admits (hr.mono (by decide)) rfl m_admits k_admits b_admits hds_admits pass0 (pa_cons (pv 3) (pa_cons (pe_tup (pa_cons pe_str (pa_cons pe_int (pa_cons (pe_tup (pa_cons (pv 5) pa_nil)) pa_nil)))) pa_nil))))) (pw_or1 (pt_val (pe_callN G_admits (hr.mono (by decide)) (by rfl) m_admits k_admits kb_admits pass0 (pa_cons (pv 3) (pa_cons (pe_tup (pa_cons pe_str (pa_cons (pv 5) (pa_cons (pv 5) pa_nil)))) pa_nil)) (pk_cons (pe_tup (pa_cons pe_int (pa_cons pe_int (pa_cons pe_int pa_nil)))) pk_nil)))))) (pss_one (ps_ret pe_bl)) pss_nil)
  (pss_one (ps_if (pt_cmpR op_ne (pe_callN G_admits (hr.mono (by decide)) (by rfl) m_admits k_admits kb_admits pass0 (pa_cons (pv 3) (pa_cons (pe_tup (pa_cons pe_str (pa_cons (pe_tup (pa_cons (pv 5) (pa_cons (pe_tup (pa_cons pe_str (pa_cons pe_int (pa_cons (pe_tup (pa_cons (pv 5) pa_nil)) pa_nil)))) pa_nil))) pa_nil))) pa_nil)) (pk_cons (pv 6) pk_nil)) (pe_call G__law_admits (hr.mono (by decide)) rfl m__law_admits k__law_admits b__law_admits .nil pass0 (pa_cons (pv 2) (pa_cons (pv 5) (pa_cons (pv 6) pa_nil)))) (nomark _)) (pss_one (ps_ret pe_bl)) pss_nil)))))))))))))))
  (pss_one (ps_ret pe_bl))))), ?_⟩
  refine ⟨_, rfl, h, rfl, hh, fun H1 p nrs ws g1 hdr hp hA => ?_⟩
  obtain ⟨hn3, har, hro, has5, has6, hout⟩ := drawn_facts kwo hdr
  refine ⟨_, rfl, p, nrs, ws, rfl, hp, hA, by omega, fun H2 d g2 hTab => ?_⟩
  refine fun x dx hx hdx hne => ⟨H2, x, dx, rfl, same_set (same_upd hdx _) hx _, hx, upd_same, fun H3 qa g3 hb hq => ⟨rfl, ?_⟩⟩
  have hBook : BookH K C H3 firstRows (.ref x) := ⟨x, dx, a0, qa, rs0, rfl, hb, R.sq _, R.all _, hq⟩
  have g23 := g2.trans g3
  refine ⟨x, dx, _, rfl, hb, bf_no _ _ (by decide +kernel) (by decide +kernel), _, rfl, _, p, firstRows, nrs, ws, rfl, hBook, tups_of g23 _ _ hp, hA.mono (NRowH.mono (tups_of g23)), by decide, by omega, fun r hr => by rw [har]; exact hout r hr, fun H4 t bv tv' g4 ht hBk => ?_⟩
  refine ⟨t, _, _, _, rfl, rfl, ht, atI_nat (j := 0) rfl, z2, fun tt htt => ?_⟩
  have w4 := same_upd htt (.tup [.ref d, bv])
  have g24 := g3.trans (g4.trans w4)
  have hTab := hTab.mono g24
  have hBk := hBk.mono w4
  have hh4 := g1.2.mono (g2.trans g24)
  have G4 := g1.trans (Gw.of_same g1.2 (g2.trans g24))
  refine ⟨tt, _, rfl, sq_new, rfl, _, _, rfl, _, _, rfl, rfl, ?_⟩
  obtain ⟨rows, hrows⟩ : ∃ rows, rows = firstRows ++ nrs.map NRow.row := ⟨_, rfl⟩
  rw [← hrows] at hTab hBk har hro has5 has6
  refine ⟨4, rfl, by decide, by decide, for_range (lo := 0) (n := (4 : Int).toNat) (fun i σ H3 => ∃ s4 s5 s6 s7 s8 s9 s10 s11, σ = [some (.ref h), some (.ref p), some (.ref d), some bv, s4, s5, s6, s7, s8, s9, s10, s11] ∧ Gw h H H3 ∧ TabH K H3 d rows ∧ BookH K C H3 rows bv)
    ⟨_, _, _, _, _, _, _, _, rfl, G4, hTab, hBk⟩ ?_ ?_⟩
  · clear hTab hBk hh4 G4 w4 g24 g23 hBook
    rintro i σ H5 hi ⟨s4, s5, s6, s7, s8, s9, s10, s11, rfl, G5, hTab, hBk⟩
    refine ⟨_, rfl, h, 3, 3, rfl, G5.2, by decide, by decide, rfl, fun H6 T0 v g6 hT0 hB0 => ?_⟩
    have hTab := hTab.gw G5.2 g6
    have hBk := g6.book G5.2 hBk
    have G6 := G5.trans g6
    -- the marks
    refine ⟨_, rfl, z0, fun t1 h1 => ⟨z1, fun t2 h2 => ⟨z1, fun t3 h3 => ⟨z2, fun t4 h4 => ⟨z3, fun t5 h5 => ⟨z1, fun t6 h6 => ⟨z2, fun t7 h7 => ⟨z1, fun t8 h8 => ⟨z8, fun l hl => ?_⟩⟩⟩⟩⟩⟩⟩⟩⟩
    have u1 := same_upd h1 (.tup (natV []))
    have u2 := same_upd h2 (.tup (natV [0]))
    have u3 := same_upd h3 (.tup (natV [1]))
    have u4 := same_upd h4 (.tup (natV [0, 1]))
    have u5 := same_upd h5 (.tup (natV [0, 1, 2]))
    have u6 := same_upd h6 (.tup (natV [2]))
    have u7 := same_upd h7 (.tup (natV [0, 2]))
    have u8 := same_upd h8 (.tup (natV [7]))
    have u9 := same_upd hl (.lst [.ref t1, .ref t2, .ref t3, .ref t4, .ref t5, .ref t6, .ref t7, .ref t8])
    have e8 := u8.trans u9
    have e7 := u7.trans e8
    have e6 := u6.trans e7
    have e5 := u5.trans e6
    have e4 := u4.trans e5
    have e3 := u3.trans e4
    have e2 := u2.trans e3
    have e1 := u1.trans e2
    have k7 := G6.2.mono e1
    have L1 : All2 (MkV K _) mks [.ref t1, .ref t2, .ref t3, .ref t4, .ref t5, .ref t6, .ref t7, .ref t8] := ⟨_, _, rfl, ⟨t1, rfl, tups_of e2 _ _ sq_new⟩, _, _, rfl, ⟨t2, rfl, tups_of e3 _ _ sq_new⟩, _, _, rfl, ⟨t3, rfl, tups_of e4 _ _ sq_new⟩, _, _, rfl, ⟨t4, rfl, tups_of e5 _ _ sq_new⟩,
      _, _, rfl, ⟨t5, rfl, tups_of e6 _ _ sq_new⟩, _, _, rfl, ⟨t6, rfl, tups_of e7 _ _ sq_new⟩, _, _, rfl, ⟨t7, rfl, tups_of e8 _ _ sq_new⟩, _, _, rfl, ⟨t8, rfl, tups_of u9 _ _ sq_new⟩, rfl⟩
    refine ⟨h, l, _, rfl, k7, (G6.2.mono (u1.trans (u2.trans (u3.trans (u4.trans (u5.trans (u6.trans (u7.trans u8)))))))).ne hl, SqL.of upd_same, (by show 0 < 8; decide), (by show 8 < 1000000; decide), fun H7 r x hx g7 => ?_⟩
    obtain ⟨ms, hms, hxm⟩ := drawn (R := MkV K) (H' := H7) (fun e x ⟨m, h1, h2⟩ => ⟨m, h1, g7.tups k7 _ _ h2⟩) L1 hx
    obtain ⟨m, rfl, hm⟩ := hxm
    have E : Hand K C h d bv rows T0 v m ms H7 := ⟨g7.2, (hTab.mono e1).gw k7 g7, g7.book k7 (hBk.mono e1), (hT0.mono (tups_of e1)).mono (g7.tups k7), hm⟩
    have G7 : Gw h H H7 := (G6.trans (Gw.of_same G6.2 e1)).trans g7
    clear k7 L1 hx u1 u2 u3 u4 u5 u6 u7 u8 u9 e1 e2 e3 e4 e5 e6 e7 e8 h1 h2 h3 h4 h5 h6 h7 h8 hl hTab hBk hT0 hm g7 G6 G5 g6
    have hOk : T0.Ok (arOf rows) := by rw [har]; exact hB0.ok
    have hv60 : ∀ n, n ∈ T0.vars → n < 60 := fun n hn => by have := hB0.vr n hn; omega
    have hsz : T0.sz ≤ 40 := hB0.sz
    have hTO : TyOk rows T0 := ⟨hOk, by omega, hv60⟩
    have hMO := mks_ok hms
    -- what is due
    refine ⟨_, rfl, _, rfl, _, rfl, d, v, m, rows, T0, ms, rfl, E.tab, E.ty, hOk, hro, hv60, hsz, E.mkd, fun H8 g8 => ?_⟩
    have E := E.same g8
    have G8 := G7.trans (Gw.of_same G7.2 g8)
    clear G7 g8
    -- more marks
    refine ⟨_, rfl, z2, fun t05 h05 => ?_⟩
    have u1 := same_upd h05 (.tup (natV [0, 5]))
    refine ⟨m, t05, natV ms, natV [0, 5], rfl, rfl, tups_of u1 _ _ E.mkd, sq_new, ?_, fun H9 c9 g9 hc9 => ?_⟩
    · rw [natV_len]
      have := hMO.len
      exact small300 (show ms.length + 2 ≤ 2000 by omega)
    refine ⟨c9, (ms ++ [0, 5]).map fun (n : Nat) => (n : Int), rfl, ?_, ?_, fun sp c hsp hcl => ?_⟩
    · rw [← natV_app] at hc9
      rw [List.map_map]
      exact hc9
    · rw [List.length_map, List.length_append]
      have := mks_len hms
      show ms.length + 2 ≤ 60
      omega
    have hl9 : ((ms ++ [0, 5]).map fun (n : Nat) => (n : Int)).length ≤ 5 := by
      rw [List.length_map, List.length_append]
      have := mks_len hms
      show ms.length + 2 ≤ 5
      omega
    refine ⟨sp, _, c, rfl, upd_same, by omega, fun js lp hj1 hj2 hj3 hlp => ?_⟩
    obtain ⟨ks, rfl, hk1, hk2⟩ := asc_nat hj1 (F := ms ++ [0, 5]) (fun k => by rw [hj2]; exact decide_eq_true_iff)
    have hnv : (ks.map fun (n : Nat) => (n : Int)).map V.int = natV ks := by rw [List.map_map]; rfl
    refine ⟨lp, natV ks, rfl, .inl ⟨SqL.of (by rw [upd_same, hnv]), fun mp hmp => ?_⟩⟩
    rw [hnv] at hmp ⊢
    have gE := u1.trans (g9.trans ((same_upd hsp _).trans ((same_upd hlp _).trans (same_upd hmp (.tup (natV ks))))))
    obtain ⟨E, hmore⟩ := E.new gE (x := mp) (xs := natV ks) sq_new
    have G9 := G8.trans (Gw.of_same G8.2 gE)
    have hMk : MkOk ks := ⟨fun n hn => by
      rcases List.mem_append.mp ((hk2 n).mp hn) with h | h
      · exact hMO.lt n h
      · simp only [List.mem_cons, List.not_mem_nil, or_false] at h
        omega, hk1, by rw [List.length_map] at hj3; omega⟩
    clear gE G8 hj1 hj2 hj3 hc9
    dsimp only [gName, tSeq, tAsg, tIfS]
    refine tt_res false (fun R r => ?_) (fun H10 g10 => iteF ?_)
    · refine ⟨_, rfl, _, rfl, _, rfl, rfl, rfl, adm_call hro E.bk E.ty hTO E.mkd hMO fun H1 g1 => ⟨_, rfl, rfl, _, rfl, ?_⟩⟩
      rw [decide_eq_true rfl]
      refine iteF ⟨_, rfl, _, rfl, ?_⟩
      cases hdue : adm (asOf rows) T0 ms with
      | false => exact iteF (r _ g1)
      | true =>
        refine iteT ⟨_, rfl, _, rfl, _, rfl, rfl, rfl, adm_call hro (E.bk.mono g1) (E.ty.mono (tups_of g1)) hTO (tups_of g1 _ _ hmore) hMk fun H2 g2 => ⟨_, rfl, ?_⟩⟩
        rw [adm_more hdue fun n hn => (hk2 n).mpr (List.mem_append_left _ hn)]
        exact r _ (g1.trans g2)
    have E := E.same g10
    have G10 := G9.trans (Gw.of_same G9.2 g10)
    clear hmore G9 g10
    -- what is asked
    refine ⟨_, rfl, _, rfl, ?_⟩
    dsimp only [tNil, List.append_nil]
    refine ask_both E.tab E.ty hOk hro hv60 hsz fun H12 av g12 hres hfr => ?_
    have hne : ∀ p, av = .ref p → p ≠ h := fun p e => E.hat.ne (hfr p e)
    have E := E.same g12
    have G12 := G10.trans (Gw.of_same G10.2 g12)
    clear G10 g12 hfr
    dsimp only [gName, tSeq, tAsg, tIfS]
    refine tt_res false (fun R r => ?_) (fun H13 g13 => iteF ?_)
    · rcases hres with ⟨hno, rfl⟩ | ⟨M, p', ns, hM, rfl, hp', hnd, hmem⟩
      · refine ⟨_, rfl, rfl, _, rfl, iteT ⟨_, rfl, _, rfl, z3, fun t ht => ⟨rfl, rfl, ?_⟩⟩⟩
        have w1 := same_upd ht (.tup (natV [0, 1, 2]))
        refine adm_call (ns := [0, 1, 2]) hro (E.bk.mono w1) (E.ty.mono (tups_of w1)) hTO sq_new ⟨by decide, by decide, by decide⟩ fun H2 g2 => ⟨_, rfl, ?_⟩
        rw [adm_no hno]
        exact r _ (w1.trans g2)
      · exact ⟨_, rfl, rfl, _, rfl, iteF (r _ (Same.refl _))⟩
    have E := E.same g13
    have hres := hres.same g13
    have G13 := G12.trans (Gw.of_same G12.2 g13)
    clear G12 g13
    dsimp only [gName, tSeq, tAsg, tIfS, tNext]
    refine tt_res false (fun R r => ?_) (fun H14 g14 => iteF ?_)
    · rcases hres with ⟨hno, rfl⟩ | ⟨M, p', ns, hM, rfl, hp', hnd, hmem⟩
      · exact ⟨_, rfl, rfl, _, rfl, iteF (r _ (Same.refl _))⟩
      · refine ⟨_, rfl, rfl, _, rfl, iteT ⟨_, rfl, _, rfl, _, rfl, p', ns.map (fun (n : Nat) => (n : Int)), rfl, SqL.of (by rw [hp', List.map_map]; rfl), fun js lp hperm hs hlp => ?_⟩⟩
        obtain ⟨ks, rfl, hk1, hk2, hk3⟩ := sorted_nat hperm hs hnd
        have hnv : (ks.map fun (n : Nat) => (n : Int)).map V.int = natV ks := by rw [List.map_map]; rfl
        refine ⟨lp, natV ks, rfl, .inl ⟨SqL.of (by rw [upd_same, hnv]), fun mp hmp => ⟨rfl, rfl, ?_⟩⟩⟩
        rw [hnv] at hmp ⊢
        have w1 := (same_upd hlp (.lst (natV ks))).trans (same_upd hmp (.tup (natV ks)))
        have h3 : ∀ n ∈ ks, n < 3 := fun n hn => hB0.vr n (askd_vars hM ((hmem n).mp ((hk2 n).mp hn)))
        have hl3 := len_below 3 ks (hk1.imp fun h => Nat.ne_of_lt h) h3
        refine adm_call (ns := ks) hro (E.bk.mono w1) (E.ty.mono (tups_of w1)) hTO sq_new ⟨fun n hn => by have := h3 n hn; omega, hk1, by omega⟩ fun H2 g2 => ⟨_, rfl, ?_⟩
        have ea : adm (asOf rows) T0 ks = true := (adm_iff _ _ _).mpr ⟨M, hM, fun n hn => (hk2 n).mpr ((hmem n).mpr hn)⟩
        rw [ea]
        exact r _ (w1.trans g2)
    have E := E.same g14
    have hres := hres.same g14
    have G14 := G13.trans (Gw.of_same G13.2 g14)
    clear G13 g14
    -- the types to put in
    refine ⟨3, rfl, by decide, by decide, fun D hD => ?_⟩
    have D0 := same_upd hD (.lst [])
    refine lc_range (lo := 0) (n := (3 : Int).toNat) (fun i H3 => Gw h H14 H3 ∧ ∃ ts xs, H3 D = some (.lst xs) ∧ TysH K H3 ts xs ∧ ts.length = i ∧ ∀ t ∈ ts, TyB 2 4 t)
      ⟨.of_same E.hat D0, [], [], upd_same, .nil, rfl, fun t ht => nomatch ht⟩ ?_ ?_
    · rintro i H3 hi ⟨g3, ts, xs, h3, hT, hl, hB⟩
      have hi : i < 3 := hi
      refine ⟨rfl, _, rfl, h, 2, 1, rfl, g3.2, by decide, by decide, rfl, fun H4 T1 x1 g4 hT1 hB1 => ?_⟩
      have hneD := E.hat.ne hD
      have h4 := g4.1 D _ hneD h3
      have hxl := hT.len
      refine ⟨xs, h4, small1000 (by omega), ?_⟩
      have t5 := tups_set (K := K) h4 (.lst (xs ++ [x1]))
      have g5 : Gw h H14 (upd H4 D (.lst (xs ++ [x1]))) := by
        have g34 := g3.trans g4
        refine ⟨fun b o hb e => ?_, ?_⟩
        · rw [upd_ne (ne_of_none e hD)]
          exact g34.1 b o hb e
        · obtain ⟨a, b, c', e⟩ := g34.2
          exact ⟨a, b, c', by rw [upd_ne hneD.symm]; exact e⟩
      refine ⟨g5, ts ++ [T1], xs ++ [x1], upd_same, ((hT.mono (g4.tups g3.2)).app (.cons hT1 .nil)).mono t5, by rw [List.length_append, hl]; rfl, fun t ht => ?_⟩
      rcases List.mem_append.mp ht with ht | ht
      · exact hB t ht
      · rw [List.mem_singleton.mp ht]
        exact hB1
    rintro H15 ⟨g15, us, xs, h15, hUs, hul, hUB⟩
    have hul : us.length = 3 := hul
    refine ⟨D, _, rfl, .inl ⟨SqL.of h15, fun tp htp => ?_⟩⟩
    have w1 := same_upd htp (.tup xs)
    have hres := (hres.gw E.hat hne g15).same w1
    obtain ⟨E, htp'⟩ := (E.gw g15).new w1 (x := tp) (xs := xs) sq_new
    have hUs := hUs.mono (tups_of w1)
    have G16 := (G14.trans g15).trans (Gw.of_same g15.2 w1)
    clear G14 g15 w1 htp h15 hD D0
    have usb : ∀ {n : Nat} {t : Ty}, us[n]? = some t → TyB 2 4 t := fun e => hUB _ (List.mem_of_getElem? e)
    have uok : ∀ {t : Ty}, TyB 2 4 t → t.Ok (arOf rows) := fun h => by rw [har]; exact h.ok
    have uvs : ∀ {t : Ty}, TyB 2 4 t → ∀ n, n ∈ t.vars → n < 60 := fun h n hn => by have := h.vr n hn; omega
    dsimp only [gName, tSeq, tAsg, tIfS]
    refine te_res (.bl (duePut (asOf rows) T0 us)) (fun R r => ?_) (fun H17 g17 => ?_)
    · rcases hres with ⟨hno, rfl⟩ | ⟨M, p', ns, hM, rfl, hp', hnd, hmem⟩
      · have e : duePut (asOf rows) T0 us = false := by unfold duePut; rw [hno]
        rw [e] at r
        exact ⟨_, rfl, rfl, _, rfl, iteF (r _ (Same.refl _))⟩
      · refine ⟨_, rfl, rfl, _, rfl, iteT ⟨_, rfl, p', rfl, ⟨_, SqL.of hp'⟩, fun D hD => ?_⟩⟩
        have hn3 : ∀ n ∈ ns, n < 3 := fun n hn => hB0.vr n (askd_vars hM ((hmem n).mp hn))
        have hl2 := len_below 3 ns hnd hn3
        refine lc_list (K := K) (a := p') (xs := natV ns) (fun j H5 => Same _ H5 ∧ H5 D = some (.lst (natV ((ns.take j).filter fun n => !(adm (asOf rows) (sg us n) [0]))))) ⟨same_upd hD _, upd_same⟩ (fun j H5 _ z => SqL.of (z.1 _ _ hp')) ?_ ?_
        · rintro j x H5 hx5 ⟨g5, h5⟩
          obtain ⟨n, hn, rfl⟩ := natV_at hx5
          have hnl := hn3 n (List.mem_of_getElem? hn)
          have hun : us[n]? = some us[n] := List.getElem?_eq_getElem (by omega)
          obtain ⟨y, hy, hyT⟩ := hUs.get' hun
          have hub := usb hun
          have esg : sg us n = us[n] := by
            show us[n]?.getD _ = us[n]
            rw [hun]
            rfl
          refine ⟨rfl, _, rfl, _, rfl, _, rfl, tp, xs, _, y, rfl, rfl, tups_of g5 _ _ htp', at_of (j := n) rfl hy, z1, fun t0 ht0 => ?_⟩
          have w5 := same_upd ht0 (.tup (natV [0]))
          have g6 := g5.trans w5
          refine ⟨d, y, t0, rows, us[n], [0], rfl, E.tab.mono g6, hyT.mono (tups_of g6), uok hub, hro, uvs hub, by have := hub.sz; omega, sq_new, fun H6 g7 => ⟨_, rfl, ?_⟩⟩
          have g8 := g6.trans g7
          have h6 := g7 _ _ (w5 _ _ h5)
          cases hv : adm (asOf rows) us[n] [0] with
          | true =>
            refine iteF ⟨g8, ?_⟩
            rw [take_snoc hn, List.filter_append, List.filter_cons_of_neg (by rw [esg, hv]; simp), List.filter_nil, List.append_nil]
            exact h6
          | false =>
            refine iteT ⟨_, rfl, _, h6, ?_, same_set g8 hD _, ?_⟩
            · rw [natV_len]
              refine small1000 (Nat.le_trans (List.length_filter_le _ _) ?_)
              rw [List.length_take]
              omega
            · rw [upd_same, take_snoc hn, List.filter_append, List.filter_cons_of_pos (by rw [esg, hv]; rfl), List.filter_nil, natV_app]
              rfl
        · rintro H5 ⟨g5, h5⟩
          rw [natV_len, List.take_length] at h5
          refine ⟨z0, fun l hl => ?_⟩
          have w1 := same_upd hl (.lst (natV []))
          refine ⟨_, _, dp_nat (SqL.of (w1 _ _ h5)), dp_nat (ns := []) (SqL.of upd_same), shaped_nat _, shaped_nat _, ?_⟩
          rw [eqv_nil, none_over]
          have e : ns.all (fun n => adm (asOf rows) (sg us n) [0]) = duePut (asOf rows) T0 us := by
            unfold duePut
            rw [hM]
            exact all_same hmem _
          rw [e]
          exact r _ (g5.trans w1)
    have E := E.same g17
    have hUs := hUs.mono (tups_of g17)
    have htp' := tups_of g17 _ _ htp'
    have G17 := G16.trans (Gw.of_same G16.2 g17)
    clear G16 g17 hres
    refine tt_res false (fun R r => ?_) (fun H18 g18 => iteF ?_)
    · have hsgn : ∀ n, n ∈ T0.vars → ∃ t, us[n]? = some t ∧ sg us n = t := fun n hn => by
        have hlt := hB0.vr n hn
        have hun : us[n]? = some us[n] := List.getElem?_eq_getElem (by omega)
        exact ⟨_, hun, by show us[n]?.getD _ = us[n]; rw [hun]; rfl⟩
      have hs4 : (T0.sub (sg us)).sz ≤ 160 := by
        have := sub_sz (σ := sg us) (b := 4) hOk (by decide) (sg_sz fun t ht => (hUB t ht).sz)
        omega
      have hSO : TyOk rows (T0.sub (sg us)) := by
        refine ⟨sub_ok_k _ T0 (Nat.le_refl _) hOk fun n hn => ?_, by omega, fun n hn => ?_⟩
        · obtain ⟨t, h1, h2⟩ := hsgn n hn
          rw [h2]
          exact uok (usb h1)
        · obtain ⟨m', h1, h2⟩ := sub_vars_k _ T0 (Nat.le_refl _) hn
          obtain ⟨t, h3, h4⟩ := hsgn m' h1
          rw [h4] at h2
          exact uvs (usb h3) n h2
      refine ⟨_, rfl, _, rfl, _, rfl, _, rfl, bv, v, tp, rows, T0, us, xs, rfl, E.bk, E.ty, hOk, by omega, htp', hUs, by omega, fun u hu => ⟨uok (hUB u hu), by have := (hUB u hu).sz; omega⟩, fun n hn => by have := hB0.vr n hn; omega, by omega, fun H1 y g1 hy => ⟨z1, fun t0 ht0 => ⟨rfl, rfl, ?_⟩⟩⟩
      have w1 := same_upd ht0 (.tup (natV [0]))
      refine adm_call (ns := [0]) hro (E.bk.mono (g1.trans w1)) (hy.mono (tups_of w1)) hSO sq_new ⟨by decide, by decide, by decide⟩ fun H2 g2 => ⟨_, rfl, rfl, _, rfl, ?_⟩
      rw [due_put, decide_eq_true rfl]
      exact r _ (g1.trans (w1.trans g2))
    have E := E.same g18
    have G18 := G17.trans (Gw.of_same G17.2 g18)
    clear G17 g18 hUs htp'
    try dsimp only [tSeq, tIfS, tNext]
    refine tt_res false (fun R r => ?_) (fun H19 g19 => iteF ?_)
    · refine ⟨_, rfl, _, rfl, z1, fun t1 h1 => ⟨z3, fun t2 h2 => ?_⟩⟩
      have w1 := same_upd h1 (.tup [v])
      have w2 := same_upd h2 (.tup [.str "made", .int 6, .ref t1])
      have w3 := w1.trans w2
      dsimp only [tNil, List.cons_append, List.nil_append]
      refine adm_call (m := am) (ns := []) hro (E.bk.mono w3) (TyH.made (s := 6) sq_new (tups_of w2 _ _ sq_new) (.cons (E.ty.mono (tups_of w3)) .nil)) ((hB0.md2 (.inr rfl)).tyok har (by decide) (by decide)) (ham _) ⟨fun n h => (nomatch h), List.Pairwise.nil, by decide⟩ fun H1 g1 => ⟨_, rfl, ?_⟩
      rw [adm_ref has6]
      refine iteF ⟨_, rfl, _, rfl, _, rfl, z3, fun t3 h3 => ⟨z3, fun t4 h4 => ⟨rfl, rfl, ?_⟩⟩⟩
      have w4 := same_upd h3 (.tup [.str "fn", v, v])
      have w5 := same_upd h4 (.tup (natV [0, 1, 2]))
      have g3 := w3.trans g1
      have g5 := g3.trans (w4.trans w5)
      refine adm_call (ns := [0, 1, 2]) hro (E.bk.mono g5) (TyH.fn (tups_of w5 _ _ sq_new) (E.ty.mono (tups_of g5)) (E.ty.mono (tups_of g5))) ((TyB.two (l := .fn) hB0 hB0 rfl rfl).tyok har (by decide) (by decide)) sq_new ⟨by decide, by decide, by decide⟩ fun H2 g2 => ⟨_, rfl, ?_⟩
      rw [adm_fn]
      exact r _ (g5.trans g2)
    have E := E.same g19
    have G19 := G18.trans (Gw.of_same G18.2 g19)
    clear G18 g19
    try dsimp only [tSeq, tIfS, tNext]
    refine tt_res false (fun R r => ?_) (fun H20 g20 => iteF ?_)
    · refine ⟨_, rfl, _, rfl, _, rfl, z1, fun t1 h1 => ⟨z3, fun t2 h2 => ⟨z2, fun t3 h3 => ⟨z2, fun t4 h4 => ⟨_, rfl, rfl, rfl, ?_⟩⟩⟩⟩⟩
      have w1 := same_upd h1 (.tup [v])
      have w2 := same_upd h2 (.tup [.str "made", .int 5, .ref t1])
      have w3 := same_upd h3 (.tup [v, .ref t2])
      have w4 := same_upd h4 (.tup [.str "tuple", .ref t3])
      have w34 := w3.trans w4
      have w24 := w2.trans w34
      have w14 := w1.trans w24
      have hT' := E.ty.mono (tups_of w14)
      refine adm_call (ns := ms) hro (E.bk.mono w14) (TyH.tup sq_new (tups_of w4 _ _ sq_new) (.cons hT' (.cons (TyH.made (s := 5) (tups_of w34 _ _ sq_new) (tups_of w24 _ _ sq_new) (.cons hT' .nil)) .nil)))
        ((TyB.two (l := .tup) (b := 1 + 40) (hB0.up (by decide)) (hB0.md2 (.inl rfl)) (show (2 : Nat) ≠ 1 by decide) rfl).tyok har (by decide) (by decide)) (tups_of w14 _ _ E.mkd) hMO fun H1 g1 => ?_
      have g2 := w14.trans g1
      refine ⟨_, rfl, _, rfl, _, rfl, d, v, m, rows, T0, ms, rfl, E.tab.mono g2, E.ty.mono (tups_of g2), hOk, hro, hv60, hsz, tups_of g2 _ _ E.mkd, fun H2 g3 => ⟨rfl, _, rfl, ?_⟩⟩
      rw [adm_pair has5, decide_eq_true rfl]
      exact r _ (g2.trans g3)
    have E := E.same g20
    have G20 := G19.trans (Gw.of_same G19.2 g20)
    exact ⟨_, _, _, _, _, _, _, _, rfl, G20, E.tab, E.bk⟩
  · rintro σ H3 ⟨s4, s5, s6, s7, s8, s9, s10, s11, rfl, G5, _⟩
    exact q H3 G5
end
end Lq
namespace Lq
open PySem L2
theorem first_ok : RowsOk firstRows := by
  intro row hrow l hl
  simp only [firstRows, List.mem_cons, List.not_mem_nil, or_false] at hrow
  rcases hrow with rfl | rfl | rfl | rfl | rfl | rfl
  · cases hl; exact .inl rfl
  · cases hl; exact .inl rfl
  · cases hl; exact .inl rfl
  · cases hl
  · cases hl; exact .inr (.inl ⟨rfl, Nat.le_refl _⟩)
  · cases hl; exact .inl rfl
def someT : Ty := tmd 5 [tmd 4 []]
theorem one_mem {α : Type} {p : α → Prop} {a : α} (h : p a) : ∀ t ∈ [a], p t := fun t ht => by rw [List.mem_singleton.mp ht]; exact h
theorem no_mem {α : Type} {p : α → Prop} : ∀ t ∈ ([] : List α), p t := fun t ht => nomatch ht
theorem exn_ok : (tmd 4 []).Ok (arOf firstRows) := .node ⟨by decide, by decide, rfl⟩ no_mem
theorem some_ok : someT.Ok (arOf firstRows) := .node ⟨by decide, by decide, rfl⟩ (one_mem exn_ok)
theorem no_vars {l : Lab} {ts : List Ty} (h : l.num = none) (hs : ∀ t ∈ ts, t.vars = []) : (Ty.node l ts).vars = [] := List.eq_nil_iff_forall_not_mem.mpr fun n hn => by
  rcases vars_node hn with e | ⟨t, h1, h2⟩
  · rw [h] at e
    cases e
  · rw [hs t h1] at h2
    cases h2
theorem exn_vars : (tmd 4 []).vars = [] := no_vars rfl no_mem
theorem some_vars : someT.vars = [] := no_vars rfl (one_mem exn_vars)
theorem tyok_unit : TyOk firstRows (ttup []) := ⟨.node (show (0 : Nat) ≠ 1 by decide) no_mem, by rw [Ty.sz, szs_nil]; decide, by rw [no_vars (l := .tup) rfl no_mem]; exact fun n h => nomatch h⟩
theorem some_sz : someT.sz = 2 := by rw [show someT = Ty.node (.made 5) [tmd 4 []] from rfl, Ty.sz, szs_cons, szs_nil, Ty.sz, szs_nil]
theorem tyok_some : TyOk firstRows someT := ⟨some_ok, by rw [some_sz]; decide, by rw [some_vars]; exact fun n h => nomatch h⟩
theorem tyok_ref : TyOk firstRows (tmd 6 [someT]) := ⟨.node ⟨by decide, by decide, rfl⟩ (one_mem some_ok), by rw [Ty.sz, szs_cons, szs_nil, some_sz]; decide, by rw [no_vars (l := .made 6) rfl (one_mem some_vars)]; exact fun n h => nomatch h⟩
theorem tyok_var : TyOk firstRows (tv 2) := ⟨.node (show 0 = 0 ∧ ((2 : Nat) : Int) < 10 ^ 60 from ⟨rfl, by decide⟩) no_mem, by rw [Ty.sz, szs_nil]; decide, fun n hn => by
  rcases vars_node hn with e | ⟨t, h1, _⟩
  · cases e
    decide
  · cases h1⟩
theorem adm_unit : adm (asOf firstRows) (ttup []) [] = true := (adm_iff _ _ _).mpr ((Adm_need (T := ttup []) rfl).mpr ⟨[], rfl, no_mem⟩)
theorem not_adm {as : Nat → Option (List Nat)} {T : Ty} {ms : List Nat} (h : ¬ Adm as T (· ∈ ms)) : adm as T ms = false := by
  cases e : adm as T ms with
  | false => rfl
  | true => exact absurd ((adm_iff _ _ _).mp e) h
theorem adm_some : adm (asOf firstRows) someT [] = false := not_adm fun h => by
  obtain ⟨us, h1, h2⟩ := (Adm_need (T := someT) rfl).mp h
  have h1 : some [tmd 4 []] = some us := h1
  cases h1
  obtain ⟨us, h3, _⟩ := (Adm_need (T := tmd 4 []) rfl).mp (h2 _ List.mem_cons_self)
  have h3 : (none : Option (List Ty)) = some us := h3
  cases h3
theorem adm_var0 : adm (asOf firstRows) (tv 2) [] = false := not_adm fun h => nomatch (Adm_var (T := tv 2) rfl).mp h
theorem adm_var2 : adm (asOf firstRows) (tv 2) [2] = true := (adm_iff _ _ _).mpr ((Adm_var (T := tv 2) rfl).mpr (List.mem_singleton_self _))
theorem mk_nil : MkOk [] := ⟨fun n h => (nomatch h), List.Pairwise.nil, by decide⟩
theorem mk_two : MkOk [2] := ⟨by decide, by decide, by decide⟩
def blsD : List PyData := [.bool true, .bool false, .bool true, .bool false, .bool true]
theorem told_shaped : SeqAt.shaped (.list blsD) = true := by
  show (PyData.canLay0 _ && decide (PyData.depth _ ≤ 64)) = true
  simp [blsD, PyData.canLay0, PyData.canLayAll0, PyData.depth, PyData.depthAll]
theorem told_eqv : PyData.eqv (.list blsD) (.list blsD) = true := by simp [blsD, PyData.eqv, PyData.eqvAll]
section
variable {P : Program} {w : World} {K : PySem.W.Frag} {mg : Str → Option Value} {base : Heap} {C : Addr}
abbrev s_law : Stmt := top 62
theorem sc_law : FnScope ["_law_script", "_law_spot", "_law_book", "_law_some", "_law_told"] ["_law_script"] (defScope s_law) := ⟨rfl, rfl, rfl, by decide +kernel, rfl, by decide +kernel, by decide +kernel⟩
def spLaw (K : PySem.W.Frag) : Sp := fun vs H Q _ => ∃ (a : Addr) (ns : List Int), vs = [.ref a] ∧ SqL K H a (ns.map V.int) ∧ ns.length ≤ 63 ∧ ∀ H', Q (.bl true) H'
theorem ok_law {a0 am f_init e : Addr} {fd_init ed : FuncData} {rs0 : List V} (F : Fun K "law" "law" s_law e ed) (B : Bi mg) (T : Bk K mg C) (R : Fr K mg a0 rs0) (M_Book : Mk K C f_init) (ham : ∀ H, SqT K H am [])
    (G_init : FnOk P w K mg base CX0 1 f_init fd_init ["self"] (spInit K C a0)) (b_init : Binds K fd_init ["self"] [])
    (D__law_hat : Has P w K mg base "_law_hat" ["_law_script", "_law_spot"] 1 (spHat K)) (D__law_right : Has P w K mg base "_law_right" ["_law_hat_here"] 43 spRight) (DA : HasA P w K mg base 8 am (spAdm K C)) : FnOk P w K mg base CX0 44 e ed ["_law_script"] (spLaw K) := by
  refine F.ok sc_law (fun vs H Q E h => ?_) (fun cdv A outer s H vs Q E hr h => ?_)
  · obtain ⟨a, ns, rfl, _⟩ := h
    rfl
  obtain ⟨a, ns, rfl, hS, h63, q⟩ := h
  obtain ⟨f__law_hat, fd__law_hat, G__law_hat, b__law_hat, k__law_hat, m__law_hat⟩ := D__law_hat
  obtain ⟨f__law_right, fd__law_right, G__law_right, b__law_right, k__law_right, m__law_right⟩ := D__law_right
  obtain ⟨f_admits, fd_admits, G_admits, ⟨ds, hds_admits, b_admits⟩, kb_admits, k_admits, m_admits⟩ := DA
  refine ⟨_, (pss_cons (ps_for PassesOwn.never rfl (pi_range1 (by rfl) B.range (pa_cons (pe_callB (call_max2 rfl) (by rfl) B.max (by decide +kernel) (pa_cons pe_int (pa_cons (pe_callB (call_min2 rfl) (by rfl) B.min (by decide +kernel) (pa_cons pe_int (pa_cons (pe_callB (lenS K) (by rfl) B.len (by decide +kernel) (pa_cons (pv 0) pa_nil)) pa_nil))) pa_nil))) pa_nil)) (pg_name (i := 1) sc_law.nd rfl (Or.inl rfl)) (pss_one (ps_if (pt_not (pt_val (pe_call G__law_right (hr.mono (by decide)) rfl m__law_right k__law_right b__law_right .nil pass0 (pa_cons (pe_call G__law_hat (hr.mono (by decide)) rfl m__law_hat k__law_hat b__law_hat .nil pass0 (pa_cons (pv 0) (pa_cons (pv 1) pa_nil))) pa_nil)))) (pss_one (ps_ret pe_bl)) pss_nil)))
  (pss_cons (ps_par (i := 2) (j := 3) rfl sc_law.nd rfl rfl (by decide) rfl rfl (pa_cons (pe_make0 M_Book G_init (hr.mono (by decide)) rfl T.mgC b_init .nil pass0) (pa_cons (pe_tup (pa_cons pe_str (pa_cons pe_int (pa_cons (pe_tup (pa_cons (pe_tup (pa_cons pe_str (pa_cons pe_int (pa_cons (pe_tup pa_nil) pa_nil)))) pa_nil)) pa_nil)))) pa_nil)) rfl)
  (pss_cons (ps_set (i := 4) sc_law.nd rfl (Or.inl rfl) (pe_lst (pa_cons (pe_call G_admits (hr.mono (by decide)) rfl m_admits k_admits b_admits hds_admits pass0 (pa_cons (pv 2) (pa_cons (pe_tup (pa_cons pe_str (pa_cons (pe_tup pa_nil) pa_nil))) pa_nil))) (pa_cons (pe_call G_admits (hr.mono (by decide)) rfl m_admits k_admits b_admits hds_admits pass0 (pa_cons (pv 2) (pa_cons (pv 3) pa_nil))) (pa_cons (pe_call G_admits (hr.mono (by decide)) rfl m_admits k_admits b_admits hds_admits pass0 (pa_cons (pv 2) (pa_cons (pe_tup (pa_cons pe_str (pa_cons pe_int (pa_cons (pe_tup (pa_cons (pv 3) pa_nil)) pa_nil)))) pa_nil))) (pa_cons (pe_call G_admits (hr.mono (by decide)) rfl m_admits k_admits b_admits hds_admits pass0 (pa_cons (pv 2) (pa_cons (pe_tup (pa_cons pe_str (pa_cons pe_int pa_nil))) pa_nil))) pa_nil))))))
  (pss_one (ps_ret (pe_cmpR (op_eqD hr.units) (pe_op op_cat (pv 4) (pe_lst (pa_cons (pe_callN G_admits (hr.mono (by decide)) (by rfl) m_admits k_admits kb_admits pass0 (pa_cons (pv 2) (pa_cons (pe_tup (pa_cons pe_str (pa_cons pe_int pa_nil))) pa_nil)) (pk_cons (pe_tup (pa_cons pe_int pa_nil)) pk_nil)) pa_nil))) (pe_lst (pa_cons pe_bl (pa_cons pe_bl (pa_cons pe_bl (pa_cons pe_bl (pa_cons pe_bl pa_nil)))))) (nomark _))))))), ?_⟩
  refine ⟨_, rfl, a, _, rfl, .inl hS, _, _, rfl, _, _, rfl, _, rfl, ?_, ?_, ?_⟩
  · split <;> split <;> omega
  · rw [List.length_map]
    split <;> split <;> omega
  refine for_range (lo := 0) (fun i σ H3 => ∃ s1 s2 s3 s4, σ = [some (.ref a), s1, s2, s3, s4] ∧ Same H H3) ⟨_, _, _, _, rfl, Same.refl _⟩ ?_ ?_
  · rintro i σ H3 hi ⟨s1, s2, s3, s4, rfl, g3⟩
    have hi63 : i < 1000 := by
      refine Nat.lt_of_lt_of_le hi ?_
      rw [List.length_map]
      split <;> split <;> omega
    refine ⟨_, rfl, _, rfl, a, ns, i, congrArg (fun z => [V.ref a, V.int z]) (Int.zero_add (i : Int)), g3.seq hS, hi63, fun H4 h g4 hn hat => ?_⟩
    refine ⟨h, rfl, hat, fun H5 g5 => ⟨_, rfl, iteF ⟨_, _, _, _, rfl, g3.trans fun b o e => g5.1 b o (fun z => ?_) (g4 b o e)⟩⟩⟩
    rw [z, hn] at e
    cases e
  rintro σ H3 ⟨s1, s2, s3, s4, rfl, _⟩
  refine fun x dx hx hdx hne => ⟨H3, x, dx, rfl, same_set (same_upd hdx _) hx _, hx, upd_same, fun H4 qa g4 hb hq => ⟨rfl, ?_⟩⟩
  have hBk : BookH K C H4 firstRows (.ref x) := ⟨x, dx, a0, qa, rs0, rfl, hb, R.sq _, R.all _, hq⟩
  refine ⟨z0, fun t1 h1 => ⟨z3, fun t2 h2 => ⟨z1, fun t3 h3 => ⟨z3, fun t4 h4 => ⟨_, _, rfl, ?_⟩⟩⟩⟩⟩
  have w1 := same_upd h1 (.tup [])
  have w2 := same_upd h2 (.tup [.str "made", .int 4, .ref t1])
  have w3 := same_upd h3 (.tup [.ref t2])
  have w4 := same_upd h4 (.tup [.str "made", .int 5, .ref t3])
  have w34 := w3.trans w4
  have w24 := w2.trans w34
  have hS5 : TyH K _ someT (.ref t4) := TyH.made (s := 5) sq_new (tups_of w4 _ _ sq_new) (.cons (TyH.made (s := 4) (tups_of w34 _ _ sq_new) (tups_of w24 _ _ sq_new) .nil) .nil)
  have hBk := hBk.mono (w1.trans w24)
  refine ⟨_, rfl, z0, fun t5 h5 => ⟨z2, fun t6 h6 => ?_⟩⟩
  have u5 := same_upd h5 (.tup [])
  have u6 := same_upd h6 (.tup [.str "tuple", .ref t5])
  have u56 := u5.trans u6
  dsimp only [tNil, List.cons_append, List.nil_append]
  refine adm_call (m := am) (ns := []) first_ok (hBk.mono u56) (TyH.tup sq_new (tups_of u6 _ _ sq_new) .nil) tyok_unit (ham _) mk_nil fun H5 g5 => ?_
  rw [adm_unit]
  have k5 := u56.trans g5
  have hBk := hBk.mono k5
  have hS5 := hS5.mono (tups_of k5)
  refine ⟨_, rfl, _, rfl, ?_⟩
  dsimp only [tNil, List.cons_append, List.nil_append]
  refine adm_call (m := am) (ns := []) first_ok hBk hS5 tyok_some (ham _) mk_nil fun H6 g6 => ?_
  rw [adm_some]
  have hBk := hBk.mono g6
  have hS5 := hS5.mono (tups_of g6)
  refine ⟨_, rfl, _, rfl, z1, fun t7 h7 => ⟨z3, fun t8 h8 => ?_⟩⟩
  have u7 := same_upd h7 (.tup [.ref t4])
  have u8 := same_upd h8 (.tup [.str "made", .int 6, .ref t7])
  have u78 := u7.trans u8
  dsimp only [tNil, List.cons_append, List.nil_append]
  refine adm_call (m := am) (ns := []) first_ok (hBk.mono u78) (TyH.made (s := 6) sq_new (tups_of u8 _ _ sq_new) (.cons (hS5.mono (tups_of u78)) .nil)) tyok_ref (ham _) mk_nil fun H7 g7 => ?_
  rw [adm_ref (T := someT) (as := asOf firstRows) rfl]
  have hBk := hBk.mono (u78.trans g7)
  refine ⟨_, rfl, z2, fun t9 h9 => ?_⟩
  have u9 := same_upd h9 (.tup [.str "var", .int 2])
  dsimp only [tNil, List.cons_append, List.nil_append]
  refine adm_call (m := am) (ns := []) first_ok (hBk.mono u9) (TyH.var (n := 2) sq_new) tyok_var (ham _) mk_nil fun H8 g8 => ?_
  rw [adm_var0]
  have hBk := hBk.mono (u9.trans g8)
  refine ⟨z4, fun l hl => ?_⟩
  have ul := same_upd hl (.lst [.bl true, .bl false, .bl true, .bl false])
  refine ⟨_, rfl, _, rfl, z2, fun t10 h10 => ⟨z1, fun t11 h11 => ⟨rfl, rfl, ?_⟩⟩⟩
  have u10 := same_upd h10 (.tup [.str "var", .int 2])
  have u11 := same_upd h11 (.tup (natV [2]))
  have ul2 := u10.trans u11
  refine adm_call (ns := [2]) first_ok (hBk.mono (ul.trans ul2)) (TyH.var (n := 2) (tups_of u11 _ _ sq_new)) tyok_var sq_new mk_two fun H9 g9 => ?_
  rw [adm_var2]
  refine ⟨z1, fun l2 hl2 => ?_⟩
  have v1 := same_upd hl2 (.lst [.bl true])
  refine ⟨l, l2, _, _, rfl, rfl, (ul2.trans (g9.trans v1)) _ _ upd_same, upd_same, (by show 4 + 1 ≤ sizeLine; decide), fun l3 hl3 => ⟨(by show 5 ≤ sizeLine; decide), fun l4 hl4 => ?_⟩⟩
  have v2 := same_upd hl4 (.lst [.bl true, .bl false, .bl true, .bl false, .bl true])
  have all5 : ∀ Hx : Hp, DpAll K Hx [.bl true, .bl false, .bl true, .bl false, .bl true] blsD := fun Hx => .cons (.bl true) (.cons (.bl false) (.cons (.bl true) (.cons (.bl false) (.cons (.bl true) .nil))))
  refine ⟨.list blsD, .list blsD, .lst (SqL.of (v2 _ _ upd_same)) (all5 _), .lst (SqL.of upd_same) (all5 _), told_shaped, told_shaped, ?_⟩
  rw [told_eqv]
  exact q _
end
end Lq
namespace Lq
open PySem L2
section
variable {P : Program} {w : World} {K : PySem.W.Frag} {mg : Str → Option Value} {base : Heap} {C : Addr}
/-! ### all together -/
theorem law_all {a0 am ak f_init e : Addr} {fd_init ed : FuncData} {rs0 kw : List V} (F : Fun K "law" "law" s_law e ed) (F_init : Fun K "__init__" "Book.__init__" s_Book___init__ f_init fd_init) (b_init : Binds K fd_init ["self"] [])
    (A_is_integer : At K mg "is_integer" s_is_integer ["value"])
    (A_is_whole : At K mg "is_whole" s_is_whole ["value"])
    (A_is_place : At K mg "is_place" s_is_place ["value"])
    (A_is_ascending : At K mg "is_ascending" s_is_ascending ["value"])
    (A__is_word : At K mg "_is_word" s__is_word ["value"])
    (A_is_low : At K mg "is_low" s_is_low ["value"])
    (A_is_high : At K mg "is_high" s_is_high ["value"])
    (A_children : At K mg "children" sChildren ["T"])
    (A_with_children : At K mg "with_children" s_with_children ["T", "parts"])
    (A__parts_of : At K mg "_parts_of" s__parts_of ["value"])
    (A__made_in : At K mg "_made_in" s__made_in ["value"])
    (A_is_shape : At K mg "is_shape" s_is_shape ["value", "arities"])
    (A_nodes_of : At K mg "nodes_of" s_nodes_of ["T"])
    (A_variables_in : At K mg "variables_in" s_variables_in ["T"])
    (A_size_with : At K mg "size_with" s_size_with ["T", "sizes"])
    (A_replaced : At K mg "replaced" s_replaced ["T", "images"])
    (A_is_arity : At K mg "is_arity" s_is_arity ["value"])
    (A_is_carried : At K mg "is_carried" s_is_carried ["value", "arity", "arities"])
    (A__is_outline : At K mg "_is_outline" s__is_outline ["value"])
    (A_are_constructors : At K mg "are_constructors" s_are_constructors ["value", "arity", "arities"])
    (A_check_book : At K mg "check_book" s_check_book ["book"])
    (A_is_type : At K mg "is_type" s_is_type ["book", "value"])
    (A_check_type : At K mg "check_type" s_check_type ["book", "T"])
    (A_are_types : At K mg "are_types" s_are_types ["book", "value"])
    (A_check_marked : At K mg "check_marked" s_check_marked ["marked"])
    (A_put_in : At K mg "put_in" s_put_in ["T", "images"])
    (A_put : At K mg "put" s_put ["book", "T", "types"])
    (A__needed_parts : At K mg "_needed_parts" s__needed_parts ["book", "T"])
    (A_asked_variables : At K mg "asked_variables" s_asked_variables ["book", "types"])
    (A_admits_with : At K mg "admits_with" s_admits_with ["book", "T", "marked"])
    (A__law_hat : At K mg "_law_hat" s__law_hat ["_law_script", "_law_spot"])
    (A__law_lift : At K mg "_law_lift" s__law_lift ["_law_hat_here", "_law_total"])
    (A__law_choice : At K mg "_law_choice" s__law_choice ["_law_hat_here", "_law_items"])
    (A__law_rows : At K mg "_law_rows" s__law_rows ["_law_hat_here"])
    (A__law_table : At K mg "_law_table" s__law_table ["_law_rows_here"])
    (A__law_type : At K mg "_law_type" s__law_type ["_law_hat_here", "_law_count", "_law_deep"])
    (A__law_asked : At K mg "_law_asked" s__law_asked ["_law_table_here", "_law_kt"])
    (A__law_admits : At K mg "_law_admits" s__law_admits ["_law_table_here", "_law_kt", "_law_marked_in"])
    (A__law_right : At K mg "_law_right" s__law_right ["_law_hat_here"])
    (M__row : AtM K C "_row" "Book._row" s_Book__row ["self", "stamp"])
    (M_asks : AtM K C "asks" "Book.asks" s_Book_asks ["self", "stamp"])
    (M_with_stamps : AtM K C "with_stamps" "Book.with_stamps" s_Book_with_stamps ["self", "rows"])
    (M__extended : AtM K C "_extended" "Book._extended" s_Book__extended ["self", "rows"])
    (A_admits : AtD K mg "admits" s_admits [("marked", .ref am)]) (B : Bi mg) (Cc : Ct K mg) (T : Bk K mg C) (W : Kw K mg ak kw) (kwo : KwOk kw) (R : Fr K mg a0 rs0) (M_Book : Mk K C f_init) (ham : ∀ H, SqT K H am []) : FnOk P w K mg base CX0 44 e ed ["_law_script"] (spLaw K) := by
  have d_int := ok_is_integer (P := P) (w := w) (base := base) A_is_integer B Cc
  have d_whole := ok_is_whole A_is_whole d_int
  have d_place := ok_is_place A_is_place B d_whole
  have d_asc := ok_is_ascending A_is_ascending B d_place
  have d_word := ok_is_word (P := P) (w := w) (base := base) A__is_word B Cc
  have d_low := ok_is_low A_is_low B Cc W d_word
  have d_high := ok_is_high A_is_high B Cc d_word
  have d_children := ok_children (P := P) (w := w) (base := base) A_children
  have d_with := ok_with (P := P) (w := w) (base := base) A_with_children
  have d_parts := ok_parts_of A__parts_of B d_int d_whole
  have d_made := ok_made_in A__made_in B Cc d_parts
  have d_shape := ok_is_shape A_is_shape B d_made
  have d_nodes := ok_nodes_of A_nodes_of B d_children
  have d_vars := ok_variables_in A_variables_in B d_nodes
  have d_size := ok_size_with A_size_with B d_nodes
  have d_repl := ok_replaced A_replaced B d_children d_with
  have d_arity := ok_is_arity A_is_arity B Cc d_int
  have d_carried := ok_is_carried A_is_carried B d_shape d_vars
  have d_outline := ok_is_outline A__is_outline B d_low d_arity d_asc
  have d_cons := ok_are_constructors A_are_constructors B d_high d_carried
  have d_row := ok_row M__row B T d_int
  have d_asks := ok_asks M_asks B T d_row
  have d_cb := ok_check_book (P := P) (w := w) (base := base) A_check_book B T
  have d_it := ok_is_type A_is_type B T d_cb d_shape
  have d_ct := ok_check_type A_check_type d_it
  have d_ats := ok_are_types A_are_types B d_it
  have d_cm := ok_check_marked A_check_marked d_asc
  have d_pin := ok_put_in A_put_in B Cc d_nodes d_size d_repl
  have d_put := ok_put A_put B d_ct d_ats d_vars d_pin
  have d_need := ok_needed A__needed_parts B T d_asks
  have d_av := ok_asked_variables A_asked_variables B d_need
  have d_aw := ok_admits_with A_admits_with B d_av
  have d_adm := ok_admits A_admits d_ct d_cm d_aw
  have g_init := ok_init (P := P) (w := w) (base := base) F_init B T R
  have d_ext := ok_extended M__extended B T R M_Book g_init b_init
  have d_st := ok_with_stamps M_with_stamps B T d_outline d_cons d_ext
  have d_hat := ok_hat (P := P) (w := w) (base := base) A__law_hat B
  have d_lift := ok_lift (P := P) (w := w) (base := base) A__law_lift B
  have d_choice := ok_choice A__law_choice B d_lift
  have d_rows := ok_rows A__law_rows B d_choice
  have d_table := ok_table (P := P) (w := w) (base := base) A__law_table B
  have d_t4 := ok_type A__law_type B d_lift d_choice 4
  have d_t2 := ok_type A__law_type B d_lift d_choice 2
  have d_asked := ok_asked (P := P) (w := w) (base := base) A__law_asked B 40
  have d_ladm := ok_ladmits A__law_admits B d_asked
  have d_right := ok_right A__law_right B T R kwo M_Book ham g_init b_init d_st d_rows d_table d_t4 d_t2 d_choice d_ladm d_asked d_adm d_put
  exact ok_law F B T R M_Book ham g_init b_init d_hat d_right d_adm
end
/-! ### what the top has left -/
theorem at_mk {K : PySem.W.Frag} {h : Heap} {mg : Str → Option Value} {x : Str} {st : Stmt} {ps : List Str} {f : Addr} {od an : Option Addr} {sl : Array (Option Value)} {oc kV dc pm cd ct : Value} (X : K.In h) (G : h.Ns mainGlobals mg)
    (a : PySem.W.nsIn K mainGlobals x = some (some (.ref f))) (l : K.lookup f = some ⟨oc, od, .func (PySem.W.fnOf x x (defArgs st) (defBody st) (defScope st) .none kV dc pm an cd ct), sl⟩) (c : PySem.W.codeIn K cd x = true) (k : PySem.W.keepIn K (.ref f) = true)
    (b : ∀ (kV doc pm : Value) (an : Option Addr) (cdv ct : Value) (us : List Value), us.length = ps.length → bindArgs (PySem.W.fnOf x x (defArgs st) (defBody st) (defScope st) .none kV doc pm an cdv ct) ⟨us, []⟩ = pure (ps.zip us)) : At K mg x st ps :=
  ⟨f, _, fun_mk (st := st) l c k, PySem.W.mg_of X G a, (fun_mk (st := st) l c k).binds b⟩
theorem atm_mk {K : PySem.W.Frag} {x q : Str} {st : Stmt} {ps : List Str} {C f : Addr} {od an : Option Addr} {sl : Array (Option Value)} {oc kV dc pm cd ct : Value}
    (a : PySem.W.findIn K (.ref C) x = some (some (.ref f))) (i : PySem.W.isFn K (.ref f) = true) (l : K.lookup f = some ⟨oc, od, .func (PySem.W.fnOf x q (defArgs st) (defBody st) (defScope st) .none kV dc pm an cd ct), sl⟩) (c : PySem.W.codeIn K cd q = true) (k : PySem.W.keepIn K (.ref f) = true)
    (b : ∀ (kV doc pm : Value) (an : Option Addr) (cdv ct : Value) (us : List Value), us.length = ps.length → bindArgs (PySem.W.fnOf x q (defArgs st) (defBody st) (defScope st) .none kV doc pm an cdv ct) ⟨us, []⟩ = pure (ps.zip us)) : AtM K C x q st ps :=
  ⟨f, _, fun_mk (st := st) l c k, ⟨a, i, k⟩, (fun_mk (st := st) l c k).binds b⟩
theorem atd_mk {K : PySem.W.Frag} {h : Heap} {mg : Str → Option Value} {x y : Str} {st : Stmt} {f D am : Addr} {od an : Option Addr} {sl : Array (Option Value)} {oc dc pm cd ct : Value} (X : K.In h) (G : h.Ns mainGlobals mg)
    (a : PySem.W.nsIn K mainGlobals x = some (some (.ref f))) (l : K.lookup f = some ⟨oc, od, .func (PySem.W.fnOf x x (defArgs st) (defBody st) (defScope st) .none (.ref D) dc pm an cd ct), sl⟩) (c : PySem.W.codeIn K cd x = true) (k : PySem.W.keepIn K (.ref f) = true)
    (n : PySem.W.nsIn K D y = some (some (.ref am))) : AtD K mg x st [(y, .ref am)] :=
  ⟨f, _, ⟨⟨oc, od, .none, .ref D, dc, pm, an, cd, ct, sl, rfl, l, c, .inl ⟨rfl, rfl⟩, .inr ⟨D, rfl, fun q hq => by
    rw [List.mem_singleton.mp hq]
    exact ⟨_, n, rfl⟩⟩⟩, k⟩, PySem.W.mg_of X G a⟩
/-- a tuple that the top has made -/
theorem tup_mk {K : PySem.W.Frag} {a : Addr} {od : Option Addr} {its : Array Value} {n : Nat} {sl : Array (Option Value)} {xs : List V} (l : K.lookup a = some ⟨.type "tuple", od, .seq its n, sl⟩) (hv : Vals xs its.toList) (hs : its.size ≤ sizeLine) : ∀ H, SqT K H a xs := fun H => .inr ⟨_, its, n, l, rfl, rfl, hs, hv⟩
theorem kit_self {K : PySem.W.Frag} {C : Addr} : PySem.W.kitOne K (.ref C) (.ref C) = some true := if_pos (by simp)
def kwds : List V := [.str "and", .str "andalso", .str "as", .str "case", .str "datatype", .str "div", .str "do", .str "else", .str "end", .str "eqtype", .str "exception", .str "fn", .str "functor", .str "handle", .str "if", .str "in", .str "include", .str "let", .str "mod", .str "of", .str "open", .str "orelse", .str "print", .str "raise", .str "read", .str "rec", .str "ref", .str "sig", .str "signature", .str "struct", .str "structure", .str "text", .str "then", .str "type", .str "unit", .str "val", .str "when", .str "where", .str "while"]
theorem kw_ok : KwOk kwds := ⟨by decide +kernel, by decide +kernel, by decide +kernel⟩
theorem kw_flat : kwds.all flatV = true := by decide +kernel
theorem walk {l : PySem.W.OpenLaw} {q : Program} {loose : List Str} {XP : (Str → Option Value) → Heap → Prop} {YP : World → Heap → Prop} {d : DefRec} {K : Params → PySem.W.Frag} (hn : l.most = some 63) (hdf : d.params.defaults = [])
    (hY : ∀ (w : World) (h : Heap), YP w h → (K w.params).In h)
    (F : ∀ (w : World) (mg : Str → Option Value) (fa : Addr) (h : Heap), (K w.params).In h → h.Ns mainGlobals mg → mg d.name = some (.ref fa) →
      ∃ fd : FuncData, (∀ (s : Shared) (u : Value), BindsTo s fd ⟨[u], []⟩ [("_law_script", u)]) ∧ ∀ base : Heap, (K w.params).In base → base.Ns mainGlobals mg → FnOk l.prog w (K w.params) mg base CX0 44 fa fd ["_law_script"] (spLaw (K w.params))) :
    PySem.W.WalkO q loose XP YP l.row.toRowW d [] (fun f vs => PySem.call f vs) :=
  L2.walk_of (n := 63) (k := 44) (x := "_law_script") (CX := fun _ => CX0) (sp := fun w => spLaw (K w.params)) hn (by decide) hdf ⟨rfl, by decide, by decide⟩ hY F
    (fun _ _ a ns hl _ hS => ⟨a, ns, rfl, hS, hl, fun _ => rfl⟩) fun _ _ _ _ _ z => z
end Lq
namespace Lq
open PySem L2
theorem ct_mk {K : PySem.W.Frag} {h : Heap} {mg : Str → Option Value} {t1 t2 t3 t4 t5 t6 : Tok} (X : K.In h) (G : h.Ns mainGlobals mg) (b : PySem.W.nsIn K mainGlobals "BEYOND" = some (some (.int 1000000000000000000000000000000000000000000000000000000000000 t1))) (s : PySem.W.nsIn K mainGlobals "MAX_SIZE" = some (some (.int 300 t2)))
    (a : PySem.W.nsIn K mainGlobals "MAX_ARITY" = some (some (.int 4 t3))) (n : PySem.W.nsIn K mainGlobals "LONGEST_NAME" = some (some (.int 8 t4))) (lo : PySem.W.nsIn K mainGlobals "LOW_LETTERS" = some (some (.str "abcdefghijklmnopqrstuvwxyz" t5)))
    (hi : PySem.W.nsIn K mainGlobals "HIGH_LETTERS" = some (some (.str "ABCDEFGHIJKLMNOPQRSTUVWXYZ" t6))) : Ct K mg :=
  ⟨⟨t1, by rw [show ((10 : Int) ^ 60) = 1000000000000000000000000000000000000000000000000000000000000 by decide +kernel]; exact PySem.W.mg_of X G b⟩, ⟨t2, PySem.W.mg_of X G s⟩, ⟨t3, PySem.W.mg_of X G a⟩, ⟨t4, PySem.W.mg_of X G n⟩, ⟨t5, PySem.W.mg_of X G lo⟩, ⟨t6, PySem.W.mg_of X G hi⟩⟩
theorem fr_mk {K : PySem.W.Frag} {h : Heap} {mg : Str → Option Value} {a0 p1 p2 p3 p4 p5 p6 e1 e2 e3 e5 e6 c3 c5 : Addr} {d0 d1 d2 d3 d4 d5 d6 dm1 dm2 dm3 dm5 dm6 : Option Addr} {n0 n1 n2 n3 n4 n5 n6 nm1 nm2 nm3 nm5 nm6 : Nat} {s0 s1 s2 s3 s4 s5 s6 sm1 sm2 sm3 sm5 sm6 : Array (Option Value)} {t1 u1 t2 u2 t3 u3 t4 u4 t5 u5 x5 t6 u6 : Tok} (X : K.In h) (G : h.Ns mainGlobals mg)
    (a : PySem.W.nsIn K mainGlobals "FIRST_ROWS" = some (some (.ref a0)))
    (l0 : K.lookup a0 = some ⟨.type "tuple", d0, .seq #[.ref p1, .ref p2, .ref p3, .ref p4, .ref p5, .ref p6] n0, s0⟩)
    (l1 : K.lookup p1 = some ⟨.type "tuple", d1, .seq #[.str "int" t1, .int 0 u1, .ref e1, .none] n1, s1⟩)
    (m1 : K.lookup e1 = some ⟨.type "tuple", dm1, .seq #[] nm1, sm1⟩)
    (l2 : K.lookup p2 = some ⟨.type "tuple", d2, .seq #[.str "string" t2, .int 0 u2, .ref e2, .none] n2, s2⟩)
    (m2 : K.lookup e2 = some ⟨.type "tuple", dm2, .seq #[] nm2, sm2⟩)
    (l3 : K.lookup p3 = some ⟨.type "tuple", d3, .seq #[.str "bool" t3, .int 0 u3, .ref e3, .ref c3] n3, s3⟩)
    (m3 : K.lookup e3 = some ⟨.type "tuple", dm3, .seq #[] nm3, sm3⟩)
    (l4 : K.lookup p4 = some ⟨.type "tuple", d4, .seq #[.str "exn" t4, .int 0 u4, .none, .none] n4, s4⟩)
    (l5 : K.lookup p5 = some ⟨.type "tuple", d5, .seq #[.str "list" t5, .int 1 u5, .ref e5, .ref c5] n5, s5⟩)
    (m5 : K.lookup e5 = some ⟨.type "tuple", dm5, .seq #[.int 0 x5] nm5, sm5⟩)
    (l6 : K.lookup p6 = some ⟨.type "tuple", d6, .seq #[.str "ref" t6, .int 1 u6, .ref e6, .none] n6, s6⟩)
    (m6 : K.lookup e6 = some ⟨.type "tuple", dm6, .seq #[] nm6, sm6⟩) : Fr K mg a0 [.ref p1, .ref p2, .ref p3, .ref p4, .ref p5, .ref p6] :=
  ⟨PySem.W.mg_of X G a, tup_mk (xs := [.ref p1, .ref p2, .ref p3, .ref p4, .ref p5, .ref p6]) l0 (.cons rfl (.cons rfl (.cons rfl (.cons rfl (.cons rfl (.cons rfl .nil)))))) (by show 6 ≤ sizeLine; decide), fun H => ⟨_, _, rfl, ⟨p1, .str "int", .ref e1, .non, rfl, tup_mk (xs := [.str "int", .int 0, .ref e1, .non]) l1 (.cons ⟨_, rfl⟩ (.cons ⟨_, rfl⟩ (.cons rfl (.cons rfl .nil)))) (by show 4 ≤ sizeLine; decide) H, ⟨e1, rfl, tup_mk (xs := []) m1 (.nil) (by show 0 ≤ sizeLine; decide) H⟩⟩,
    _, _, rfl, ⟨p2, .str "string", .ref e2, .non, rfl, tup_mk (xs := [.str "string", .int 0, .ref e2, .non]) l2 (.cons ⟨_, rfl⟩ (.cons ⟨_, rfl⟩ (.cons rfl (.cons rfl .nil)))) (by show 4 ≤ sizeLine; decide) H, ⟨e2, rfl, tup_mk (xs := []) m2 (.nil) (by show 0 ≤ sizeLine; decide) H⟩⟩,
    _, _, rfl, ⟨p3, .str "bool", .ref e3, .ref c3, rfl, tup_mk (xs := [.str "bool", .int 0, .ref e3, .ref c3]) l3 (.cons ⟨_, rfl⟩ (.cons ⟨_, rfl⟩ (.cons rfl (.cons rfl .nil)))) (by show 4 ≤ sizeLine; decide) H, ⟨e3, rfl, tup_mk (xs := []) m3 (.nil) (by show 0 ≤ sizeLine; decide) H⟩⟩,
    _, _, rfl, ⟨p4, .str "exn", .non, .non, rfl, tup_mk (xs := [.str "exn", .int 0, .non, .non]) l4 (.cons ⟨_, rfl⟩ (.cons ⟨_, rfl⟩ (.cons rfl (.cons rfl .nil)))) (by show 4 ≤ sizeLine; decide) H, rfl⟩,
    _, _, rfl, ⟨p5, .str "list", .ref e5, .ref c5, rfl, tup_mk (xs := [.str "list", .int 1, .ref e5, .ref c5]) l5 (.cons ⟨_, rfl⟩ (.cons ⟨_, rfl⟩ (.cons rfl (.cons rfl .nil)))) (by show 4 ≤ sizeLine; decide) H, ⟨e5, rfl, tup_mk (xs := [.int 0]) m5 (.cons ⟨_, rfl⟩ .nil) (by show 1 ≤ sizeLine; decide) H⟩⟩,
    _, _, rfl, ⟨p6, .str "ref", .ref e6, .non, rfl, tup_mk (xs := [.str "ref", .int 1, .ref e6, .non]) l6 (.cons ⟨_, rfl⟩ (.cons ⟨_, rfl⟩ (.cons rfl (.cons rfl .nil)))) (by show 4 ≤ sizeLine; decide) H, ⟨e6, rfl, tup_mk (xs := []) m6 (.nil) (by show 0 ≤ sizeLine; decide) H⟩⟩, rfl⟩⟩
theorem fin {l : PySem.W.OpenLaw} {w : World} {K : PySem.W.Frag} {h : Heap} {mg : Str → Option Value} {fa C a0 am ak fL fI : Addr} {rs0 : List V} {odL anL odI anI odM : Option Addr} {slL slI slM : Array (Option Value)} {ocL kVL dcL pmL cdL ctL ocI kVI dcI pmI cdI ctI : Value} {nM : Nat}
    (X : K.In h) (G : h.Ns mainGlobals mg) (hfa : mg "law" = some (.ref fa))
    (aL : PySem.W.nsIn K mainGlobals "law" = some (some (.ref fL))) (lL : K.lookup fL = some ⟨ocL, odL, .func (PySem.W.fnOf "law" "law" (defArgs s_law) (defBody s_law) (defScope s_law) .none kVL dcL pmL anL cdL ctL), slL⟩) (cL : PySem.W.codeIn K cdL "law" = true) (kL : PySem.W.keepIn K (.ref fL) = true)
    (aC : PySem.W.nsIn K mainGlobals "Book" = some (some (.ref C)))
    (aI : PySem.W.findIn K (.ref C) "__init__" = some (some (.ref fI))) (iI : PySem.W.isFn K (.ref fI) = true) (lI : K.lookup fI = some ⟨ocI, odI, .func (PySem.W.fnOf "__init__" "Book.__init__" (defArgs s_Book___init__) (defBody s_Book___init__) (defScope s_Book___init__) .none kVI dcI pmI anI cdI ctI), slI⟩) (cI : PySem.W.codeIn K cdI "Book.__init__" = true) (kI : PySem.W.keepIn K (.ref fI) = true)
    (mk : PySem.W.makesIn K C = true) (kC : PySem.W.keepIn K (.ref C) = true)
    (A_admits : AtD K mg "admits" s_admits [("marked", .ref am)]) (lM : K.lookup am = some ⟨.type "tuple", odM, .seq #[] nM, slM⟩)
    (A_is_integer : At K mg "is_integer" s_is_integer ["value"])
    (A_is_whole : At K mg "is_whole" s_is_whole ["value"])
    (A_is_place : At K mg "is_place" s_is_place ["value"])
    (A_is_ascending : At K mg "is_ascending" s_is_ascending ["value"])
    (A__is_word : At K mg "_is_word" s__is_word ["value"])
    (A_is_low : At K mg "is_low" s_is_low ["value"])
    (A_is_high : At K mg "is_high" s_is_high ["value"])
    (A_children : At K mg "children" sChildren ["T"])
    (A_with_children : At K mg "with_children" s_with_children ["T", "parts"])
    (A__parts_of : At K mg "_parts_of" s__parts_of ["value"])
    (A__made_in : At K mg "_made_in" s__made_in ["value"])
    (A_is_shape : At K mg "is_shape" s_is_shape ["value", "arities"])
    (A_nodes_of : At K mg "nodes_of" s_nodes_of ["T"])
    (A_variables_in : At K mg "variables_in" s_variables_in ["T"])
    (A_size_with : At K mg "size_with" s_size_with ["T", "sizes"])
    (A_replaced : At K mg "replaced" s_replaced ["T", "images"])
    (A_is_arity : At K mg "is_arity" s_is_arity ["value"])
    (A_is_carried : At K mg "is_carried" s_is_carried ["value", "arity", "arities"])
    (A__is_outline : At K mg "_is_outline" s__is_outline ["value"])
    (A_are_constructors : At K mg "are_constructors" s_are_constructors ["value", "arity", "arities"])
    (A_check_book : At K mg "check_book" s_check_book ["book"])
    (A_is_type : At K mg "is_type" s_is_type ["book", "value"])
    (A_check_type : At K mg "check_type" s_check_type ["book", "T"])
    (A_are_types : At K mg "are_types" s_are_types ["book", "value"])
    (A_check_marked : At K mg "check_marked" s_check_marked ["marked"])
    (A_put_in : At K mg "put_in" s_put_in ["T", "images"])
    (A_put : At K mg "put" s_put ["book", "T", "types"])
    (A__needed_parts : At K mg "_needed_parts" s__needed_parts ["book", "T"])
    (A_asked_variables : At K mg "asked_variables" s_asked_variables ["book", "types"])
    (A_admits_with : At K mg "admits_with" s_admits_with ["book", "T", "marked"])
    (A__law_hat : At K mg "_law_hat" s__law_hat ["_law_script", "_law_spot"])
    (A__law_lift : At K mg "_law_lift" s__law_lift ["_law_hat_here", "_law_total"])
    (A__law_choice : At K mg "_law_choice" s__law_choice ["_law_hat_here", "_law_items"])
    (A__law_rows : At K mg "_law_rows" s__law_rows ["_law_hat_here"])
    (A__law_table : At K mg "_law_table" s__law_table ["_law_rows_here"])
    (A__law_type : At K mg "_law_type" s__law_type ["_law_hat_here", "_law_count", "_law_deep"])
    (A__law_asked : At K mg "_law_asked" s__law_asked ["_law_table_here", "_law_kt"])
    (A__law_admits : At K mg "_law_admits" s__law_admits ["_law_table_here", "_law_kt", "_law_marked_in"])
    (A__law_right : At K mg "_law_right" s__law_right ["_law_hat_here"])
    (M__row : AtM K C "_row" "Book._row" s_Book__row ["self", "stamp"])
    (M_asks : AtM K C "asks" "Book.asks" s_Book_asks ["self", "stamp"])
    (M_with_stamps : AtM K C "with_stamps" "Book.with_stamps" s_Book_with_stamps ["self", "rows"])
    (M__extended : AtM K C "_extended" "Book._extended" s_Book__extended ["self", "rows"])
    (B : Bi mg) (Cc : Ct K mg) (T : Bk K mg C) (W : Kw K mg ak kwds) (R : Fr K mg a0 rs0) :
    ∃ fd : FuncData, (∀ (s : Shared) (v : Value), BindsTo s fd ⟨[v], []⟩ [("_law_script", v)]) ∧ ∀ base : Heap, K.In base → base.Ns mainGlobals mg → FnOk l.prog w K mg base CX0 44 fa fd ["_law_script"] (spLaw K) := by
  have e := hfa.symm.trans (PySem.W.mg_of X G aL)
  cases e
  have FI := fun_mk (st := s_Book___init__) lI cI kI
  have bI := FI.binds (ps := ["self"]) fun _ _ _ _ _ _ us hl => match us, hl with | [_], _ => rfl
  refine ⟨PySem.W.fnOf "law" "law" (defArgs s_law) (defBody s_law) (defScope s_law) .none kVL dcL pmL anL cdL ctL, fun s v => .of_eq rfl, fun base _ _ => ?_⟩
  exact law_all (fun_mk (st := s_law) lL cL kL) FI bI A_is_integer A_is_whole A_is_place A_is_ascending A__is_word A_is_low A_is_high A_children A_with_children A__parts_of A__made_in A_is_shape A_nodes_of A_variables_in A_size_with A_replaced A_is_arity A_is_carried A__is_outline A_are_constructors A_check_book A_is_type A_check_type A_are_types A_check_marked A_put_in A_put A__needed_parts A_asked_variables A_admits_with A__law_hat A__law_lift A__law_choice A__law_rows A__law_table A__law_type A__law_asked A__law_admits A__law_right M__row M_asks M_with_stamps M__extended A_admits B Cc T W kw_ok R ⟨mk, aI, iI, kC⟩ (tup_mk (xs := []) lM .nil (by show 0 ≤ sizeLine; decide))
end Lq
open PySem PySem.W PyProof.Rows
set_option maxRecDepth 100000 in
set_option maxHeartbeats 0 in
theorem PySem.Challenge.cw_letquay_k10_whole_equality_admitted_holds : PySem.Challenge.rw_letquay_k10_whole_equality_admitted.Holds := by
  w_on; o_law; k_head; (case hw => w_witness2)
  k_fill
  refine Lq.walk (l := PySem.Challenge.rw_letquay_k10_whole_equality_admitted) rfl rfl (fun w h Y => PySem.W.kIn_of Y) ?F
  case F =>
    intro w mg fa h KX G hmg
    refine' Lq.fin KX G hmg ?aL ?lL ?cL ?kL ?aC ?aI ?iI ?lI ?cI ?kI ?mk ?kC ?A_admits ?lM ?A_is_integer ?A_is_whole ?A_is_place ?A_is_ascending ?A__is_word ?A_is_low ?A_is_high ?A_children ?A_with_children ?A__parts_of ?A__made_in ?A_is_shape ?A_nodes_of ?A_variables_in ?A_size_with ?A_replaced ?A_is_arity ?A_is_carried ?A__is_outline ?A_are_constructors ?A_check_book ?A_is_type ?A_check_type ?A_are_types ?A_check_marked ?A_put_in ?A_put ?A__needed_parts ?A_asked_variables ?A_admits_with ?A__law_hat ?A__law_lift ?A__law_choice ?A__law_rows ?A__law_table ?A__law_type ?A__law_asked ?A__law_admits ?A__law_right ?M__row ?M_asks ?M_with_stamps ?M__extended ?B ?Cc ?T ?W ?R
    (case aL => k_is)
    (case lL => k_is)
    (case cL => k_is)
    (case kL => k_is)
    (case aC => k_is)
    (case aI => k_is)
    (case iI => k_is)
    (case lI => k_is)
    (case cI => k_is)
    (case kI => k_is)
    (case mk => k_is)
    (case kC => k_is)
    (case A_admits => refine' Lq.atd_mk KX G ?a ?l ?c ?k ?n; (case a => k_is); (case l => k_is); (case c => k_is); (case k => k_is); (case n => k_is))
    (case lM => k_is)
    (case A_is_integer => refine' Lq.at_mk KX G ?a ?l ?c ?k ?b; (case a => k_is); (case l => k_is); (case c => k_is); (case k => k_is); (case b => exact fun _ _ _ _ _ _ us hl => match us, hl with | [_], _ => rfl))
    (case A_is_whole => refine' Lq.at_mk KX G ?a ?l ?c ?k ?b; (case a => k_is); (case l => k_is); (case c => k_is); (case k => k_is); (case b => exact fun _ _ _ _ _ _ us hl => match us, hl with | [_], _ => rfl))
    (case A_is_place => refine' Lq.at_mk KX G ?a ?l ?c ?k ?b; (case a => k_is); (case l => k_is); (case c => k_is); (case k => k_is); (case b => exact fun _ _ _ _ _ _ us hl => match us, hl with | [_], _ => rfl))
    (case A_is_ascending => refine' Lq.at_mk KX G ?a ?l ?c ?k ?b; (case a => k_is); (case l => k_is); (case c => k_is); (case k => k_is); (case b => exact fun _ _ _ _ _ _ us hl => match us, hl with | [_], _ => rfl))
    (case A__is_word => refine' Lq.at_mk KX G ?a ?l ?c ?k ?b; (case a => k_is); (case l => k_is); (case c => k_is); (case k => k_is); (case b => exact fun _ _ _ _ _ _ us hl => match us, hl with | [_], _ => rfl))
    (case A_is_low => refine' Lq.at_mk KX G ?a ?l ?c ?k ?b; (case a => k_is); (case l => k_is); (case c => k_is); (case k => k_is); (case b => exact fun _ _ _ _ _ _ us hl => match us, hl with | [_], _ => rfl))
    (case A_is_high => refine' Lq.at_mk KX G ?a ?l ?c ?k ?b; (case a => k_is); (case l => k_is); (case c => k_is); (case k => k_is); (case b => exact fun _ _ _ _ _ _ us hl => match us, hl with | [_], _ => rfl))
    (case A_children => refine' Lq.at_mk KX G ?a ?l ?c ?k ?b; (case a => k_is); (case l => k_is); (case c => k_is); (case k => k_is); (case b => exact fun _ _ _ _ _ _ us hl => match us, hl with | [_], _ => rfl))
    (case A_with_children => refine' Lq.at_mk KX G ?a ?l ?c ?k ?b; (case a => k_is); (case l => k_is); (case c => k_is); (case k => k_is); (case b => exact fun _ _ _ _ _ _ us hl => match us, hl with | [_, _], _ => rfl))
    (case A__parts_of => refine' Lq.at_mk KX G ?a ?l ?c ?k ?b; (case a => k_is); (case l => k_is); (case c => k_is); (case k => k_is); (case b => exact fun _ _ _ _ _ _ us hl => match us, hl with | [_], _ => rfl))
    (case A__made_in => refine' Lq.at_mk KX G ?a ?l ?c ?k ?b; (case a => k_is); (case l => k_is); (case c => k_is); (case k => k_is); (case b => exact fun _ _ _ _ _ _ us hl => match us, hl with | [_], _ => rfl))
    (case A_is_shape => refine' Lq.at_mk KX G ?a ?l ?c ?k ?b; (case a => k_is); (case l => k_is); (case c => k_is); (case k => k_is); (case b => exact fun _ _ _ _ _ _ us hl => match us, hl with | [_, _], _ => rfl))
    (case A_nodes_of => refine' Lq.at_mk KX G ?a ?l ?c ?k ?b; (case a => k_is); (case l => k_is); (case c => k_is); (case k => k_is); (case b => exact fun _ _ _ _ _ _ us hl => match us, hl with | [_], _ => rfl))
    (case A_variables_in => refine' Lq.at_mk KX G ?a ?l ?c ?k ?b; (case a => k_is); (case l => k_is); (case c => k_is); (case k => k_is); (case b => exact fun _ _ _ _ _ _ us hl => match us, hl with | [_], _ => rfl))
    (case A_size_with => refine' Lq.at_mk KX G ?a ?l ?c ?k ?b; (case a => k_is); (case l => k_is); (case c => k_is); (case k => k_is); (case b => exact fun _ _ _ _ _ _ us hl => match us, hl with | [_, _], _ => rfl))
    (case A_replaced => refine' Lq.at_mk KX G ?a ?l ?c ?k ?b; (case a => k_is); (case l => k_is); (case c => k_is); (case k => k_is); (case b => exact fun _ _ _ _ _ _ us hl => match us, hl with | [_, _], _ => rfl))
    (case A_is_arity => refine' Lq.at_mk KX G ?a ?l ?c ?k ?b; (case a => k_is); (case l => k_is); (case c => k_is); (case k => k_is); (case b => exact fun _ _ _ _ _ _ us hl => match us, hl with | [_], _ => rfl))
    (case A_is_carried => refine' Lq.at_mk KX G ?a ?l ?c ?k ?b; (case a => k_is); (case l => k_is); (case c => k_is); (case k => k_is); (case b => exact fun _ _ _ _ _ _ us hl => match us, hl with | [_, _, _], _ => rfl))
    (case A__is_outline => refine' Lq.at_mk KX G ?a ?l ?c ?k ?b; (case a => k_is); (case l => k_is); (case c => k_is); (case k => k_is); (case b => exact fun _ _ _ _ _ _ us hl => match us, hl with | [_], _ => rfl))
    (case A_are_constructors => refine' Lq.at_mk KX G ?a ?l ?c ?k ?b; (case a => k_is); (case l => k_is); (case c => k_is); (case k => k_is); (case b => exact fun _ _ _ _ _ _ us hl => match us, hl with | [_, _, _], _ => rfl))
    (case A_check_book => refine' Lq.at_mk KX G ?a ?l ?c ?k ?b; (case a => k_is); (case l => k_is); (case c => k_is); (case k => k_is); (case b => exact fun _ _ _ _ _ _ us hl => match us, hl with | [_], _ => rfl))
    (case A_is_type => refine' Lq.at_mk KX G ?a ?l ?c ?k ?b; (case a => k_is); (case l => k_is); (case c => k_is); (case k => k_is); (case b => exact fun _ _ _ _ _ _ us hl => match us, hl with | [_, _], _ => rfl))
    (case A_check_type => refine' Lq.at_mk KX G ?a ?l ?c ?k ?b; (case a => k_is); (case l => k_is); (case c => k_is); (case k => k_is); (case b => exact fun _ _ _ _ _ _ us hl => match us, hl with | [_, _], _ => rfl))
    (case A_are_types => refine' Lq.at_mk KX G ?a ?l ?c ?k ?b; (case a => k_is); (case l => k_is); (case c => k_is); (case k => k_is); (case b => exact fun _ _ _ _ _ _ us hl => match us, hl with | [_, _], _ => rfl))
    (case A_check_marked => refine' Lq.at_mk KX G ?a ?l ?c ?k ?b; (case a => k_is); (case l => k_is); (case c => k_is); (case k => k_is); (case b => exact fun _ _ _ _ _ _ us hl => match us, hl with | [_], _ => rfl))
    (case A_put_in => refine' Lq.at_mk KX G ?a ?l ?c ?k ?b; (case a => k_is); (case l => k_is); (case c => k_is); (case k => k_is); (case b => exact fun _ _ _ _ _ _ us hl => match us, hl with | [_, _], _ => rfl))
    (case A_put => refine' Lq.at_mk KX G ?a ?l ?c ?k ?b; (case a => k_is); (case l => k_is); (case c => k_is); (case k => k_is); (case b => exact fun _ _ _ _ _ _ us hl => match us, hl with | [_, _, _], _ => rfl))
    (case A__needed_parts => refine' Lq.at_mk KX G ?a ?l ?c ?k ?b; (case a => k_is); (case l => k_is); (case c => k_is); (case k => k_is); (case b => exact fun _ _ _ _ _ _ us hl => match us, hl with | [_, _], _ => rfl))
    (case A_asked_variables => refine' Lq.at_mk KX G ?a ?l ?c ?k ?b; (case a => k_is); (case l => k_is); (case c => k_is); (case k => k_is); (case b => exact fun _ _ _ _ _ _ us hl => match us, hl with | [_, _], _ => rfl))
    (case A_admits_with => refine' Lq.at_mk KX G ?a ?l ?c ?k ?b; (case a => k_is); (case l => k_is); (case c => k_is); (case k => k_is); (case b => exact fun _ _ _ _ _ _ us hl => match us, hl with | [_, _, _], _ => rfl))
    (case A__law_hat => refine' Lq.at_mk KX G ?a ?l ?c ?k ?b; (case a => k_is); (case l => k_is); (case c => k_is); (case k => k_is); (case b => exact fun _ _ _ _ _ _ us hl => match us, hl with | [_, _], _ => rfl))
    (case A__law_lift => refine' Lq.at_mk KX G ?a ?l ?c ?k ?b; (case a => k_is); (case l => k_is); (case c => k_is); (case k => k_is); (case b => exact fun _ _ _ _ _ _ us hl => match us, hl with | [_, _], _ => rfl))
    (case A__law_choice => refine' Lq.at_mk KX G ?a ?l ?c ?k ?b; (case a => k_is); (case l => k_is); (case c => k_is); (case k => k_is); (case b => exact fun _ _ _ _ _ _ us hl => match us, hl with | [_, _], _ => rfl))
    (case A__law_rows => refine' Lq.at_mk KX G ?a ?l ?c ?k ?b; (case a => k_is); (case l => k_is); (case c => k_is); (case k => k_is); (case b => exact fun _ _ _ _ _ _ us hl => match us, hl with | [_], _ => rfl))
    (case A__law_table => refine' Lq.at_mk KX G ?a ?l ?c ?k ?b; (case a => k_is); (case l => k_is); (case c => k_is); (case k => k_is); (case b => exact fun _ _ _ _ _ _ us hl => match us, hl with | [_], _ => rfl))
    (case A__law_type => refine' Lq.at_mk KX G ?a ?l ?c ?k ?b; (case a => k_is); (case l => k_is); (case c => k_is); (case k => k_is); (case b => exact fun _ _ _ _ _ _ us hl => match us, hl with | [_, _, _], _ => rfl))
    (case A__law_asked => refine' Lq.at_mk KX G ?a ?l ?c ?k ?b; (case a => k_is); (case l => k_is); (case c => k_is); (case k => k_is); (case b => exact fun _ _ _ _ _ _ us hl => match us, hl with | [_, _], _ => rfl))
    (case A__law_admits => refine' Lq.at_mk KX G ?a ?l ?c ?k ?b; (case a => k_is); (case l => k_is); (case c => k_is); (case k => k_is); (case b => exact fun _ _ _ _ _ _ us hl => match us, hl with | [_, _, _], _ => rfl))
    (case A__law_right => refine' Lq.at_mk KX G ?a ?l ?c ?k ?b; (case a => k_is); (case l => k_is); (case c => k_is); (case k => k_is); (case b => exact fun _ _ _ _ _ _ us hl => match us, hl with | [_], _ => rfl))
    (case M__row => refine' Lq.atm_mk ?a ?i ?l ?c ?k ?b; (case a => k_is); (case i => k_is); (case l => k_is); (case c => k_is); (case k => k_is); (case b => exact fun _ _ _ _ _ _ us hl => match us, hl with | [_, _], _ => rfl))
    (case M_asks => refine' Lq.atm_mk ?a ?i ?l ?c ?k ?b; (case a => k_is); (case i => k_is); (case l => k_is); (case c => k_is); (case k => k_is); (case b => exact fun _ _ _ _ _ _ us hl => match us, hl with | [_, _], _ => rfl))
    (case M_with_stamps => refine' Lq.atm_mk ?a ?i ?l ?c ?k ?b; (case a => k_is); (case i => k_is); (case l => k_is); (case c => k_is); (case k => k_is); (case b => exact fun _ _ _ _ _ _ us hl => match us, hl with | [_, _], _ => rfl))
    (case M__extended => refine' Lq.atm_mk ?a ?i ?l ?c ?k ?b; (case a => k_is); (case i => k_is); (case l => k_is); (case c => k_is); (case k => k_is); (case b => exact fun _ _ _ _ _ _ us hl => match us, hl with | [_, _], _ => rfl))
    (case B => refine' ⟨mg_none_of KX G ?_, mg_none_of KX G ?_, mg_none_of KX G ?_, mg_none_of KX G ?_, mg_none_of KX G ?_, mg_none_of KX G ?_, mg_none_of KX G ?_, mg_none_of KX G ?_, mg_none_of KX G ?_, mg_none_of KX G ?_, mg_none_of KX G ?_, mg_none_of KX G ?_, mg_none_of KX G ?_, mg_none_of KX G ?_, mg_none_of KX G ?_, mg_none_of KX G ?_, mg_none_of KX G ?_⟩ <;> k_is)
    (case Cc => refine' Lq.ct_mk KX G ?b ?s ?a ?n ?lo ?hi; (case b => k_is); (case s => k_is); (case a => k_is); (case n => k_is); (case lo => k_is); (case hi => k_is))
    (case T => refine' ⟨⟨?_, ?_, ?_, ?_⟩, ?_, ?_, mg_of KX G ?_, ?_, ?_, ?_, ?_, Lq.kit_self⟩ <;> first | k_is | (unfold L2.NoAttr; k_is))
    (case W => refine' ⟨mg_of KX G ?a, Lq.tup_mk ?l ?v ?s, Lq.kw_flat⟩; (case a => k_is); (case l => k_is); (case v => exact (.cons ⟨_, rfl⟩ (.cons ⟨_, rfl⟩ (.cons ⟨_, rfl⟩ (.cons ⟨_, rfl⟩ (.cons ⟨_, rfl⟩ (.cons ⟨_, rfl⟩ (.cons ⟨_, rfl⟩ (.cons ⟨_, rfl⟩ (.cons ⟨_, rfl⟩ (.cons ⟨_, rfl⟩ (.cons ⟨_, rfl⟩ (.cons ⟨_, rfl⟩ (.cons ⟨_, rfl⟩ (.cons ⟨_, rfl⟩ (.cons ⟨_, rfl⟩ (.cons ⟨_, rfl⟩ (.cons ⟨_, rfl⟩ (.cons ⟨_, rfl⟩ (.cons ⟨_, rfl⟩ (.cons ⟨_, rfl⟩ (.cons ⟨_, rfl⟩ (.cons ⟨_, rfl⟩ (.cons ⟨_, rfl⟩ (.cons ⟨_, rfl⟩ (.cons ⟨_, rfl⟩ (.cons ⟨_, rfl⟩ (.cons ⟨_, rfl⟩ (.cons ⟨_, rfl⟩ (.cons ⟨_, rfl⟩ (.cons ⟨_, rfl⟩ (.cons ⟨_, rfl⟩ (.cons ⟨_, rfl⟩ (.cons ⟨_, rfl⟩ (.cons ⟨_, rfl⟩ (.cons ⟨_, rfl⟩ (.cons ⟨_, rfl⟩ (.cons ⟨_, rfl⟩ (.cons ⟨_, rfl⟩ (.cons ⟨_, rfl⟩ .nil)))))))))))))))))))))))))))))))))))))))); (case s => decide))
    (case R => refine' Lq.fr_mk KX G ?a ?l0 ?l1 ?m1 ?l2 ?m2 ?l3 ?m3 ?l4 ?l5 ?m5 ?l6 ?m6; (case a => k_is); (case l0 => k_is); (case l1 => k_is); (case m1 => k_is); (case l2 => k_is); (case m2 => k_is); (case l3 => k_is); (case m3 => k_is); (case l4 => k_is); (case l5 => k_is); (case m5 => k_is); (case l6 => k_is); (case m6 => k_is))
#print axioms PySem.Challenge.cw_letquay_k10_whole_equality_admitted_holds

