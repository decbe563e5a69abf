import PyProof.Rows.All
import Wide.All
import OpenK.AllK
import Wide.FinOn
import HandS.ForMost
import HandS.Star
import HandS.Style
import HandS.IsInst
import HandS.DictComp
import HandS.TupAny
import HandS.Conv
import HandS.More
import HandS.Strs
import HandS.SetFor
import HandS.Zip
import KE.GoesMore
import HandS.ClsMeth
import HandS.Defaults
import HandS.FStr
import PyProof.StrLaws
import HandS.Codes
import PySem.Challenge.RW_letquay_k11_whole_texts_of_types
set_option Elab.async false
set_option maxRecDepth 100000
namespace Lq
open PySem PyProof.Rows
section
open PySem.AutoSeq1 (wpAny_loadPart' idx_int)
theorem ext_tuple (l : Addr) (its : Array Value) (n : Nat) (b : Addr) (its2 : Array Value) (n2 : Nat) (dd : Option Addr) (sl : Array (Option Value))
    (hs0 : ¬(!its.isEmpty && Builtin.List.listTooLong (its.size + its2.size)) = true) (hs1 : its.size ≤ sizeLine) (hs2 : its.size + its2.size ≤ sizeLine + 1) :
    Meets (Builtin.«list.extend» ⟨[.ref l, .ref b], []⟩) (fun _ R s =>
      s.heap.get? l = some { cls := .type "list", data := .seq its n } ∧
      s.heap.get? b = some { cls := .type "tuple", dict := dd, data := .seq its2 n2, slots := sl } ∧
      R (.ok (.ret Value.none)) { s with heap := s.heap.update l (Obj.mapSeq fun x => x ++ its2), toks := s.toks }) :=
  .of_wp fun prog w A R s h => by
    obtain ⟨hp, g, d, tk, os⟩ := s
    obtain ⟨hl, hb, h⟩ := h
    have q1 := idx_int
    have q2 := AutoSeq1.sub_tuple_tuple
    have q3 := AutoSeq1.sub_list_list
    have q4 := AutoSeq1.sub_tuple_list
    have q5 := AutoSeq1.sub_list_tuple
    have hz : (its ++ its2).size ≤ sizeLine + 1 := by
      rw [Array.size_append]
      exact hs2
    wp_walk using (wpAny_updateSeq hl rfl (hz := hs1) (_hz' := hz)), wpAny_loadPart' hl, wpAny_loadPart' hb
    exact ⟨_, rfl, h⟩
end
end Lq
namespace Lq
open PySem L2
section
variable {X : Cx}
/-- xs.extend(t), t a tuple -/
def rExtT (K : PySem.W.Frag) : V → List V → Hp → VK → Prop := fun x vs H Q => ∃ l b xs zs, x = .ref l ∧ vs = [.ref b] ∧ H l = some (.lst xs) ∧ SqT K H b zs ∧
  xs.length + zs.length ≤ sizeLine ∧ Q .non (upd H l (.lst (xs ++ zs)))
theorem mt_extT : MtM X "list.extend" (rExtT X.K) := by
  intro pins s σ H x vs v us Q I rx rv h
  obtain ⟨l, b, xs, zs, rfl, rfl, hH, hB, hz, q⟩ := h
  cases rx
  obtain ⟨u, rfl, ru⟩ := rv.one
  cases ru
  obtain ⟨z, its, n, r, hl, e⟩ := I.lstM hH
  obtain ⟨its2, r2, ⟨⟨cls, dd, data, sl⟩, e2, hc, n2, hd⟩, z2⟩ := I.tuple hB
  simp only at hc hd
  subst hc hd
  have hl2 := r2.length
  have hsz : its.toArray.size + its2.toArray.size ≤ sizeLine := by
    rw [List.size_toArray, List.size_toArray]
    omega
  have hlong : ¬ (!its.toArray.isEmpty && Builtin.List.listTooLong (its.toArray.size + its2.toArray.size)) = true := by
    rw [notLongL hsz, Bool.and_false]
    exact Bool.false_ne_true
  refine call_meets PySem.F.slot_list_extend ⟨_, e, rfl⟩ PySem.F.entry_list_extend (PySem.F.args_list_extend_2 _ _)
    (Lq.ext_tuple l its.toArray n b its2.toArray n2 dd sl hlong (by rw [List.size_toArray]; omega) (by omega)) ⟨e, e2, ?_⟩
  refine ⟨.non, _, I.lset (its' := its ++ its2) hH e (by simp) (r.append r2) ?_, rfl, q⟩
  rw [List.length_append]
  omega
end
end Lq
namespace Lq
open PySem PyProof.Rows HT
section
variable {prog : Program} {w : World} {A : Around} {E : Value → Shared → Prop} {s : Shared}
theorem adjust_back (n : Nat) : Builtin.Slice.sliceAdjust none none (-1) (n : Int) = ((n : Int) - 1, -1) := by
  unfold Builtin.Slice.sliceAdjust
  rfl
theorem places_back (n : Nat) : Builtin.Slice.slicePlaces ((n : Int) - 1) (-1) (-1) = n := by
  unfold Builtin.Slice.slicePlaces
  rw [if_neg (by decide)]
  by_cases h : (n : Int) - 1 > -1
  · rw [if_pos h, show (-(-1) : Int) = 1 from rfl, Int.ediv_one]
    omega
  · rw [if_neg h]
    omega
theorem fm_congr {α β : Type} {g h : α → Option β} : ∀ {l : List α}, (∀ x ∈ l, g x = h x) → l.filterMap g = l.filterMap h
  | [], _ => rfl
  | x :: r, q => by
    rw [List.filterMap_cons, List.filterMap_cons, q x (List.mem_cons_self), fm_congr fun y hy => q y (List.mem_cons_of_mem _ hy)]
theorem pick_back (xs : List Value) : (List.range xs.length).filterMap (fun (k : Nat) => xs.toArray[((xs.length : Int) - 1 + (k : Int) * (-1)).toNat]?) = xs.reverse := by
  have e : (List.range xs.length).filterMap (fun (k : Nat) => xs.toArray[((xs.length : Int) - 1 + (k : Int) * (-1)).toNat]?) =
      (List.range xs.length).filterMap (some ∘ fun k => xs.getD (xs.length - 1 - k) .none) := by
    refine fm_congr fun k hk => ?_
    have hk' := List.mem_range.mp hk
    have e1 : ((xs.length : Int) - 1 + (k : Int) * (-1)).toNat = xs.length - 1 - k := by omega
    rw [e1]
    have h2 : xs.length - 1 - k < xs.length := by omega
    simp [List.getElem?_eq_getElem h2, List.getD_eq_getElem?_getD]
  rw [e, List.filterMap_eq_map]
  apply List.ext_getElem?
  intro i
  by_cases hi : i < xs.length
  · have h2 : xs.length - 1 - i < xs.length := by omega
    rw [List.getElem?_map, List.getElem?_range hi, List.getElem?_reverse hi]
    simp [List.getElem?_eq_getElem h2, List.getD_eq_getElem?_getD]
  · rw [List.getElem?_eq_none (by simp; omega), List.getElem?_eq_none (by simp; omega)]
theorem sliceApplied_back {sl : Addr} {vs : Value} {n : Nat} {Q : Int × Int × Nat → Shared → Prop} (hs : s.heap.IsSliceOf sl .none .none vs) (ps : IsPart vs (some (-1)))
    (h : Q ((n : Int) - 1, -1, n) s) : wpAny (model prog w) A (Builtin.Slice.sliceApplied (.ref sl) (pure (n : Int))) Q E s := by
  obtain ⟨os, hos, hcs, hds⟩ := id hs
  unfold Builtin.Slice.sliceApplied Builtin.Slice.sliceFields
  refine wpAny_bind (wpAny_bind (wpAny_field hos hds (x := .none) rfl
    (wpAny_bind (wpAny_field hos hds (x := .none) rfl (wpAny_bind (wpAny_field hos hds (x := vs) rfl (wpAny_pure ?_)))))))
  refine wpAny_bind (slicePart_ ps ?_)
  show wpAny _ _ (if ((-1 : Int) == 0) = true then _ else _) _ _ s
  rw [if_neg (by decide)]
  refine wpAny_bind (slicePart_ .none (wpAny_bind (slicePart_ .none (wpAny_bind (wpAny_pure ?_)))))
  show wpAny _ _ (match Builtin.Slice.sliceAdjust none none (-1) (n : Int) with
    | (lo, hi) => pure (lo, (-1 : Int), Builtin.Slice.slicePlaces lo hi (-1))) _ _ s
  rw [adjust_back n]
  show wpAny _ _ (pure ((n : Int) - 1, (-1 : Int), Builtin.Slice.slicePlaces ((n : Int) - 1) (-1) (-1))) _ _ s
  rw [places_back]
  exact wpAny_pure h
theorem tuple_back {t sl : Addr} {xs : List Value} {vs : Value} {Q : Value → Shared → Prop} (ht : IsTup s.heap t xs.toArray) (hs : s.heap.IsSliceOf sl .none .none vs) (ps : IsPart vs (some (-1)))
    (h : Q (.ref s.heap.objs.size) { s with heap := s.heap.push { cls := .type "tuple", data := .seq xs.reverse.toArray } })
    (hsz : xs.length ≤ sizeLine) : wpAny (model prog w) A (getItem (.ref t) (.ref sl)) Q E s := by
  have hok : sizeOk (.seq xs.reverse.toArray) := by
    show xs.reverse.toArray.size ≤ sizeLine
    rw [List.size_toArray, List.length_reverse]
    exact hsz
  obtain ⟨os, hos, hcs, hds⟩ := id hs
  have hTs : s.TypeIs (.ref sl) "slice" := ⟨os, hos, hcs⟩
  unfold getItem
  try with_reducible refine wpAny_holding ?_
  first | refine wpAny_bind (wpAny_pure ?_) | skip
  refine wpAny_bind (wpAny_sequenceKey ht.typeIs (by decide) ?_)
  refine wpAny_bind (wpAny_callSpecial?_slot (name := Str.ofString "__getitem__") ht.typeIs slot_tuple_getitem
    (wpAny_call_entry slot_tuple_getitem ht.typeIs entry_tuple_getitem ?_ (args_tuple_getitem _ _)))
  show wpAny _ _ (Builtin.Tuple.tupleItemsOf (.ref t) >>= _) _ _ s
  refine wpAny_bind (tupleItemsOf_ ht ?_)
  refine wpAny_bind (wpAny_typeOf hTs ?_)
  rw [if_pos (by decide)]
  refine wpAny_bind (sliceApplied_back (n := xs.toArray.size) hs ps ?_)
  have hno : ¬ ((((xs.toArray.size : Nat) : Int) - 1 == 0 && (-1 : Int) == 1 && xs.toArray.size == xs.toArray.size) = true) := by
    rw [show ((-1 : Int) == 1) = false from rfl, Bool.and_false, Bool.false_and]
    exact Bool.false_ne_true
  show wpAny _ _ (if (((xs.toArray.size : Nat) : Int) - 1 == 0 && (-1 : Int) == 1 && xs.toArray.size == xs.toArray.size) = true then _ else _) _ _ s
  rw [if_neg hno, List.size_toArray, pick_back]
  first
    | exact wpAny_bind (m := Builtin.Tuple.tupleExact _) (wpAny_newObj_type (wpAny_pure ⟨_, rfl, wpAny_pure h⟩) hok)
    | exact wpAny_bind (m := Builtin.Tuple.tupleExact _) (wpAny_newObj_type (wpAny_bind (wpAny_pure (wpAny_pure ⟨_, rfl, wpAny_pure h⟩))) hok)
    | exact wpAny_bind (wpAny_bind (m := Builtin.Tuple.tupleExact _) (wpAny_newObj_type (wpAny_pure (wpAny_pure ⟨_, rfl, wpAny_pure h⟩)) hok))
    | exact wpAny_bind (wpAny_bind (m := Builtin.Tuple.tupleExact _) (wpAny_newObj_type (wpAny_pure ⟨_, rfl, wpAny_pure h⟩) hok))
end
end Lq
namespace Lq
open PySem PySem.Spec PyProof.Rows L2
section
variable {X : Cx}
/-- t[::-1], t a tuple -/
def tBackT (K : PySem.W.Frag) (te : TE) : TE := fun σ H Q => te σ H fun x H1 => ∃ a xs, x = .ref a ∧ SqT K H1 a xs ∧ ∀ p, H1 p = none → Q (.ref p) (upd H1 p (.tup xs.reverse))
theorem pe_backT {e : Expr} {te : TE} {k : Nat} {p1 p2 p3 pos : Pos} (he : PE X e te) :
    PE X (.Subscript e (.Slice none none (some (.UnaryOp .USub (.Constant (.int 1) k p1) p2)) p3) pos) (tBackT X.K te) := by
  refine ⟨fun pins s σ H Q I h => ?_⟩
  refine Subscript_ (thn (he.run pins s σ H _ I h) fun v s1 ⟨x, H1, I1, r1, q1⟩ => ?_)
  obtain ⟨a, xs, ex, hx, q⟩ := q1
  subst ex
  cases r1
  have hst : PO X (some (.UnaryOp .USub (.Constant (.int 1) k p1) p2)) (tPart (tUn (rU fun i => .int (-i)) (tC (.int 1)))) :=
    po_some (pe_un un_neg pe_int)
  refine wpAny_Slice (thn (po_none.run pins s1 σ H1 (fun o H2 => o = none ∧ H2 = H1) I1 ⟨rfl, rfl⟩)
    fun vl s2 ⟨l, H2, I2, pl, el, e2⟩ => ?_)
  subst el e2
  refine thn (po_none.run pins s2 σ H2 (fun o H3 => o = none ∧ H3 = H2) I2 ⟨rfl, rfl⟩)
    fun vu s3 ⟨u, H3, I3, pu, eu, e3⟩ => ?_
  subst eu e3
  refine thn (hst.run pins s3 σ H3 (fun o H4 => o = some (-1) ∧ H4 = H3) I3 ⟨1, rfl, -1, rfl, rfl, rfl⟩)
    fun vs s4 ⟨o, H4, I4, ps, eo, e4⟩ => ?_
  subst eo e4
  cases pl
  cases pu
  let s5 : Shared := { s4 with heap := s4.heap.push { cls := .type "slice", data := .fields #[.none, .none, vs] } }
  have I5 : Inv X pins σ H4 s5 := I4.kept (t' := s4.toks) fun b ob q => Heap.get?_push_of_some _ q
  obtain ⟨its, r, ht, hz⟩ := I5.tuple hx
  have hlen := r.length
  show wpAny (model X.prog X.w) X.A (subscriptTail e (.Slice none none (some (.UnaryOp .USub (.Constant (.int 1) k p1) p2)) p3) (.ref a) (.ref s4.heap.objs.size))
    (EP X pins σ Q) X.xe s5
  refine tail_any (ops := [.ref a, .ref s4.heap.objs.size]) ht.typeIs (PyProof.Rows.slot_tuple_getitem.lookup) ?_ (by with_unfolding_all rfl)
  refine tuple_back ht (Heap.IsSliceOf.new _ _ _ vs) ps ?_ (by omega)
  refine ⟨.ref _, _, I5.laid (t' := s4.toks) (o := .tup xs.reverse) (fun b ob q => Heap.get?_push_of_some _ q) (Nat.le_refl _) ?_, rfl, q _ (I5.hok.fresh (Nat.le_refl _))⟩
  exact ⟨by rw [List.length_reverse]; exact hz, _, r.reverse, IsTup.new _ _⟩
end
end Lq
namespace Lq
open PySem PyProof.Rows
theorem none_left (a N : Nat) (sel : Nat → Bool) (hs : ∀ k, k < N → sel k = decide (a ≤ k)) : ∀ (ys : List Value) (m : Nat), a ≤ m → m + ys.length ≤ N →
    (ys.zipIdx m).filterMap (fun p => if sel p.2 = true then none else some p.1) = []
  | [], _, _, _ => rfl
  | y :: r, m, hm, hN => by
    rw [List.length_cons] at hN
    have e : sel (y, m).snd = true := (hs m (by omega)).trans (decide_eq_true hm)
    rw [List.zipIdx_cons, List.filterMap_cons]
    rw [if_pos e]
    exact none_left a N sel hs r (m + 1) (by omega) (by omega)
theorem take_zip (a N : Nat) (sel : Nat → Bool) (hs : ∀ k, k < N → sel k = decide (a ≤ k)) : ∀ (xs : List Value) (n : Nat), n ≤ a → n + xs.length ≤ N →
    (xs.zipIdx n).filterMap (fun p => if sel p.2 = true then none else some p.1) = xs.take (a - n)
  | [], n, _, _ => by simp
  | x :: r, n, hn, hN => by
    by_cases h : a = n
    · rw [h, Nat.sub_self, List.take_zero]
      exact none_left n N sel (by rw [← h]; exact hs) _ n (Nat.le_refl _) hN
    · rw [List.length_cons] at hN
      have hlt : ¬ a ≤ n := by omega
      have e1 : a - n = (a - (n + 1)) + 1 := by omega
      have e : ¬ sel (x, n).snd = true := by rw [hs n (by omega), decide_eq_false hlt]; exact Bool.false_ne_true
      rw [e1, List.take_succ_cons, List.zipIdx_cons, List.filterMap_cons]
      rw [if_neg e]
      show x :: _ = _
      rw [take_zip a N sel hs r (n + 1) (by omega) (by omega)]
section
open PySem.AutoSeq1 (wpAny_loadPart' idx_int)
variable {prog : Program} {w : World} {A : Around} {E : Value → Shared → Prop} {s : Shared}
theorem bounds_tail {a n : Nat} (h : a ≤ n) : sliceBounds (some (a : Int)) none none n = ((a : Int), (n : Int), 1) := by
  simp only [sliceBounds, Option.getD_none]
  have h1 : ¬ ((a : Int) < 0) := by omega
  simp only [h1, if_false, show (1 : Int) > 0 by decide, if_true]
  congr 1
  omega
theorem delItem_tail {l sl : Addr} {its : Array Value} {n : Nat} {vl : Value} {a : Nat} {Q : Unit → Shared → Prop}
    (e : s.heap.get? l = some { cls := .type "list", data := .seq its n }) (hs : s.heap.IsSliceOf sl vl .none .none)
    (pl : IsPart vl (some (a : Int))) (ha : a ≤ its.size) (hsz : its.size ≤ sizeLine)
    (h : ∀ F : Array Value → Array Value, F its = (its.toList.take a).toArray → Q () { s with heap := s.heap.update l (Obj.mapSeq F) }) :
    wpAny (model prog w) A (delItem (.ref l) (.ref sl)) Q E s := by
  have hl : s.heap.IsList l its := PySem.IsL.isList e
  obtain ⟨os, hos, hcs, hds⟩ := id hs
  have hTs : s.TypeIs (.ref sl) "slice" := ⟨os, hos, hcs⟩
  have hstep : ¬ ((rawPart none == rawInt 0) = true) := Bool.false_ne_true
  refine wpAny_delItem_slot ⟨_, e, rfl⟩ (by decide) PySem.F.slot_list_delitem ?_
  refine wpAny_call_entry PySem.F.slot_list_delitem ⟨_, e, rfl⟩ PySem.F.entry_list_delitem ?_ (PySem.F.args_list_delitem_2 _ _)
  show wpAny _ _ (Builtin.List.listSubscript? (.ref sl) >>= _) _ _ s
  refine wpAny_bind ?_
  unfold Builtin.List.listSubscript?
  refine wpAny_bind (wpAny_specialOf hTs slice_no_index ?_)
  simp only [Option.isNone_none, if_true]
  refine wpAny_pure ?_
  show wpAny _ _ (typeOf (.ref sl) >>= _) _ _ s
  refine wpAny_bind (wpAny_typeOf hTs ?_)
  first
    | rw [if_neg (by decide)]
    | refine PySem.W.KFB.if_not (by decide) ?_
  rw [listSliceParts_eq]
  refine wpAny_bind (wpAny_bind (wpAny_field hos hds (x := .none) rfl (wpAny_bind (wpAny_listPart .none ?_))))
  rw [if_neg hstep]
  refine wpAny_bind (wpAny_field hos hds (x := vl) rfl (wpAny_bind (wpAny_listPart pl ?_)))
  refine wpAny_bind (wpAny_field hos hds (x := .none) rfl (wpAny_bind (wpAny_listPart .none (wpAny_pure ?_))))
  unfold Builtin.List.listItems
  refine wpAny_bind (wpAny_bind (wpAny_seqItems e rfl (wpAny_pure ?_)))
  refine wpAny_bind (wpAny_of_eq ((sliceIndices_raw (some (a : Int)) none none its.size (by simp)).trans
    (congrArg (pure : Int × Int × Int → Sem (Int × Int × Int)) (bounds_tail ha))) ?_)
  refine wpAny_bind (wpAny_rule ?_)
  unfold Builtin.List.listUpdate
  have key : ∀ f : Nat → Bool, (∀ k, k < its.size → f k = decide (a ≤ k)) →
      (List.filterMap (fun x : Value × Nat => if f x.snd = true then none else some x.fst) its.toList.zipIdx).toArray = (its.toList.take a).toArray := fun f hf =>
    congrArg List.toArray (take_zip a its.size f hf its.toList 0 (Nat.zero_le _) (by rw [Array.length_toList]; omega))
  have hsel : ∀ k, k < its.size → (if (1 : Int) > 0 then decide ((a : Int) ≤ (k : Int)) && decide ((k : Int) < (its.size : Int)) && ((k : Int) - (a : Int)) % 1 == 0
      else decide ((its.size : Int) < (k : Int)) && decide ((k : Int) ≤ (a : Int)) && ((a : Int) - (k : Int)) % (-1) == 0) = decide (a ≤ k) := by
    intro k hk
    rw [if_pos (by decide), Int.emod_one, show ((0 : Int) == 0) = true from rfl, Bool.and_true, show decide ((k : Int) < (its.size : Int)) = true from decide_eq_true (by omega), Bool.and_true]
    exact decide_eq_decide.mpr (by omega)
  refine wpAny_bind (m := updateSeq l _) (wpAny_updateSeq (hz := hsz) (_hz' := ?hz) e rfl ?_)
  case hz =>
    refine Nat.le_trans (Nat.le_of_eq (congrArg Array.size (key _ hsel))) ?_
    rw [List.size_toArray, List.length_take, Array.length_toList]
    omega
  refine wpAny_bind (wpAny_letGo ?_)
  first
    | exact wpAny_bind (wpAny_pure (wpAny_pure ⟨.none, rfl, wpAny_pure (h _ (key _ hsel))⟩))
    | exact wpAny_pure ⟨.none, rfl, wpAny_pure (h _ (key _ hsel))⟩
    | exact wpAny_pure ⟨.none, rfl, (h _ (key _ hsel))⟩
end
end Lq
namespace Lq
open PySem PySem.Spec PyProof.Rows L2
section
variable {X : Cx}
/-- del xs[a:] -/
def tDelT (tO : TE) (tl : TO) : TS := fun D σ H => tO σ H fun x H1 => tl σ H1 fun i H2 => ∃ (l : Addr) (xs : List V) (a : Nat),
  x = .ref l ∧ i = some (a : Int) ∧ H2 l = some (.lst xs) ∧ a ≤ xs.length ∧ D.nx σ (upd H2 l (.lst (xs.take a)))
theorem ps_delT {o lo : Expr} {tO : TE} {tl : TO} {p2 tpos pos : Pos} (ho : PE X o tO) (hl : PO X (some lo) tl) :
    PS X (.Delete [.Subscript o (.Slice (some lo) none none p2) tpos] pos) (tDelT tO tl) := by
  refine ⟨fun pins s σ H D I h => ?_⟩
  refine wpAny_Delete (wpAny_deleteEach_cons (wpAny_delete_Subscript (thn (ho.run pins s σ H _ I h) fun u s1 ⟨x, H1, I1, rx, q1⟩ => ?_)))
  refine wpAny_Slice (thn (hl.run pins s1 σ H1 _ I1 q1) fun vl s2 ⟨i, H2, I2, pl, q2⟩ =>
    thn (po_none.run pins s2 σ H2 (fun o H3 => o = none ∧ H3 = H2) I2 ⟨rfl, rfl⟩) fun vu s3 ⟨j, H3, I3, pu, ej, e3⟩ => ?_)
  subst ej e3
  cases pu
  rw [evalPart_none]
  refine wpAny_pure ?_
  obtain ⟨l, xs, a, ex, ei, hH, ha, q⟩ := q2
  subst ex ei
  cases (show u = Value.ref l from rx)
  let s4 : Shared := { s3 with heap := s3.heap.push { cls := .type "slice", data := .fields #[vl, .none, .none] } }
  have I4 : Inv X pins σ H3 s4 := I3.kept (t' := s3.toks) fun b ob q => Heap.get?_push_of_some _ q
  obtain ⟨z, its, n, r, hlen, e⟩ := I4.lstM hH
  refine delItem_tail (s := s4) (a := a) e (Heap.IsSliceOf.new _ vl _ _) pl (by rw [List.size_toArray]; omega) (by rw [List.size_toArray]; omega) fun F hF => ?_
  refine wpAny_deleteEach_nil ⟨σ, _, I4.lset (its' := its.take a) (t' := s4.toks) hH e hF (r.take a) ?_, q⟩
  rw [List.length_take]
  omega
end
end Lq
/-! rules with the written part named (for the blocks of comprehensions) -/
namespace Lq
open PySem PySem.Spec PyProof.Rows L2
section
variable {X : Cx}
theorem ixT (K : PySem.W.Frag) (h : X.K = K := by rfl) : IxR X (rIxT K) := by subst h; exact ix_tup
theorem ixL (K : PySem.W.Frag) (h : X.K = K := by rfl) : IxR X (rIxL K) := by subst h; exact ix_list
theorem lenS (K : PySem.W.Frag) (h : X.K = K := by rfl) : CallR X (.builtin "len") (fun xs H Q => ∃ p ys, xs = [.ref p] ∧ (SqL K H p ys ∨ SqT K H p ys) ∧ Q (.int ys.length) H) := by subst h; exact call_len_seq
theorem isiK (K : PySem.W.Frag) (h : X.K = K := by rfl) : CallR X (.builtin "isinstance") (rIsi K) := by subst h; exact call_isi
theorem inS (K : PySem.W.Frag) (h : X.K = K := by rfl) : OpR X (compareOp .In) (rIn K false) := by subst h; exact op_in_seq
theorem notInS (K : PySem.W.Frag) (h : X.K = K := by rfl) : OpR X (compareOp .NotIn) (rIn K true) := by subst h; exact op_notIn_seq
end
end Lq
/-! tuple(d), and y = {k: v for ..} -/
namespace Lq
open PySem PySem.Spec PyProof.Rows PySem.W L2
section
variable {prog : Program} {w : World} {A : Around} {E : Value → Shared → Prop} {s : Shared} {T : String} {r d : Addr} {n : Nat} {P : Nat → Value → Prop} {OK : Heap → Prop}
theorem collectK {Q : List Value → Shared → Prop} (K : KdlSrc prog w T r d n P OK) (hh : A.handled = none) (hok : OK s.heap) (hn : n ≤ sizeLine)
    (hQ : ∀ (h' : Heap) (tk : Nat) (acc : Array Value), (∀ b o, s.heap.get? b = some o → h'.get? b = some o) → ItemsOf P acc n → Q acc.toList { s with heap := h', toks := tk }) :
    wpAny (model prog w) A (collect (.ref r)) Q E s := by
  have hlt := K.there _ hok
  unfold collect
  refine wpAny_bind (wpAny_runValue (codeAny_builtin F.entry_proto_collect ?_))
  rw [Around.under_plainId F.plain_proto_collect _]
  show wpAny _ A.in1 (newList [] >>= fun l =>
    again (.builtin "list.__iadd__" ⟨[l, .ref r], []⟩)) _ _ s
  refine wpAny_bind (wpAny_newObj_type ?_)
  refine wpAny_pure ⟨plainId_quiet F.plain_list_iadd _, codeAny_builtin F.entry_list_iadd ?_⟩
  rw [Around.under_plainId F.plain_list_iadd _]
  let s1 : Shared := { s with heap := s.heap.push { cls := .type "list", data := .seq ([] : List Value).toArray } }
  show wpAny _ A.in1 (Builtin.List.listExtendWith (.ref s.heap.objs.size) (.ref r) (.ref s.heap.objs.size)) _ _ s1
  have hS : s1.heap.get? s.heap.objs.size = some { cls := .type "list", data := .seq #[] 0 } := Heap.get?_push_size _ rfl
  refine wpAny_mono (kdl_extend (A := A) (s := s1) (R := fun rr s' => rr = .ok (.ret (.ref s.heap.objs.size)) ∧
      ∃ (h' : Heap) (tk : Nat) (acc : Array Value) (c' : Nat), s' = { s with heap := h', toks := tk } ∧ (∀ b o, s.heap.get? b = some o → h'.get? b = some o) ∧
        h'.get? s.heap.objs.size = some { cls := .type "list", data := .seq acc c' } ∧ ItemsOf P acc n)
    K hh (K.keep _ _ hok fun b _ o e => Heap.get?_push_of_some _ e) _ (Nat.ne_of_gt hlt.1) (Nat.ne_of_gt hlt.2) _ 0 hS
    (fun h' tk acc c' hk e hi => ⟨rfl, h', tk, acc, c', rfl, fun b o q => hk b o (Nat.ne_of_lt (Heap.lt_size q)) (Heap.get?_push_of_some _ q), e, hi⟩) hn) (fun fin s' h => ?_) (fun e s' h => ?_)
  · cases fin with
    | done f =>
      obtain ⟨e, h', tk, acc, c', rfl, hk, hS', hi⟩ := h
      cases e
      show wpAny _ A (load s.heap.objs.size >>= _) _ _ _
      exact wpAny_bind (wpAny_load hS' (wpAny_pure (hQ h' tk acc hk hi)))
    | again c' =>
      refine ⟨h.1, codeAny_mono h.2 fun rr s'' hr' => ?_⟩
      obtain ⟨rfl, h', tk, acc, c', rfl, hk, hS', hi⟩ := hr'
      show wpAny _ A (load s.heap.objs.size >>= _) _ _ _
      exact wpAny_bind (wpAny_load hS' (wpAny_pure (hQ h' tk acc hk hi)))
  · exact absurd h.1 (by simp)
theorem tuple_newK {Q₁ : Value → Shared → Prop} (K : KdlSrc prog w "dict" r d n P OK) (hh : A.handled = none) (hok : OK s.heap) (hn : n ≤ sizeLine)
    (h : ∀ (h' : Heap) (tk : Nat) (acc : Array Value), (∀ b o, s.heap.get? b = some o → h'.get? b = some o) → ItemsOf P acc n →
      Q₁ (.ref h'.objs.size) { s with heap := h'.push { cls := .type "tuple", data := .seq acc }, toks := tk }) :
    codeAny (model prog w) A (.call (.builtin "tuple.__new__") ⟨[.type "tuple", .ref r], []⟩) (wants Q₁ E) s := by
  refine codeAny_of_tree ?_
  show wpAny _ A.in1 (do
    checkBuiltinCall "tuple.__new__" ⟨[.type "tuple", .ref r], []⟩
    again (.builtin "tuple.__new__" ⟨[.type "tuple", .ref r], []⟩)) _ _ s
  refine wpAny_bind (wpAny_of_eq (F.newCall_tuple_1 _) (wpAny_pure ⟨plainId_quiet F.plain_tuple_new _, codeAny_builtin F.entry_tuple_new ?_⟩))
  rw [Around.under_plainId F.plain_tuple_new _]
  have hsub := sub_tuple_self
  have hinit := init_tuple_lookup
  have hmh := madeHere_tuple
  have hTI : s.TypeIs (.ref r) "dict" := K.type s hok
  have hh1 : A.in1.handled = none := hh
  wp_walk using wpAny_typeOf hTI, collectK (A := A.in1) K hh1 hok hn
  intro h' tk acc hk hacc
  show wpAny _ _ (Builtin.Tuple.tupleExact acc.toList.toArray >>= fun v => ret v) _ _ _
  unfold Builtin.Tuple.tupleExact
  refine wpAny_bind (wpAny_newObj_type ?_ (by
    show acc.toList.toArray.size ≤ sizeLine
    simp only [Array.toArray_toList]
    rw [hacc.1]
    exact hn))
  refine wpAny_pure ?_
  have e : acc.toList.toArray = acc := by simp
  rw [e]
  exact h h' tk acc hk hacc
theorem tuple_callK {Q : Value → Shared → Prop} (K : KdlSrc prog w "dict" r d n P OK) (hh : A.handled = none) (hok : OK s.heap) (hn : n ≤ sizeLine)
    (hQ : ∀ (h' : Heap) (tk : Nat) (acc : Array Value), (∀ b o, s.heap.get? b = some o → h'.get? b = some o) → ItemsOf P acc n →
      Q (.ref h'.objs.size) { s with heap := h'.push { cls := .type "tuple", data := .seq acc }, toks := tk }) :
    wpAny (model prog w) A (call (.type "tuple") [.ref r]) Q E s := by
  refine callType_codes (Q₁ := fun obj s₁ => s₁.TypeIs obj "tuple" ∧ Q obj s₁) F.called_tuple (F.typeCall_tuple_1 _) F.entry_object_init
    (tuple_newK (A := A.in1) K hh hok hn fun h' tk acc hk hacc => ⟨⟨_, Heap.get?_push_size _ rfl, rfl⟩, hQ h' tk acc hk hacc⟩) fun obj s₁ h₁ => ?_
  exact ⟨h₁.1, F.args_object_init_2 obj _, object_init_meets F.called_tuple.init.lookup F.called_tuple.made (by decide) prog w A.in1 _ s₁ ⟨h₁.1, rfl, h₁.2⟩⟩
end
/-- tuple(d): the keys -/
def rTupD : List V → Hp → VK → Prop := fun xs H Q => ∃ p kvs, xs = [.ref p] ∧ H p = some (.dK kvs) ∧ ∀ q, H q = none → Q (.ref q) (upd H q (.tup (kvs.map fun kv => kV kv.1)))
theorem tuple_dK {X : Cx} (hc : X.calm = true) : CallR X (.type "tuple") rTupD := by
  intro pins s σ H xs us Q I r h
  obtain ⟨p, kvs, e, hk, q⟩ := h
  subst e
  obtain ⟨u, eu, rx⟩ := vals1 r
  subst eu
  obtain rfl : u = Value.ref p := rx
  obtain ⟨z, lo, vs, rk, hd⟩ := (show ObjOk X.prog X.w H s.heap p (.dK kvs) from I.hok p _ hk)
  obtain ⟨ep, hat⟩ := hd.dictAt
  have hl : kvs.length = vs.length := Paired.length rk
  refine tuple_callK (PySem.W.kdl_dict (knd := mixKind X.prog X.w) (kvs := vs) (ep := ep) lo) (I.ok.hd hc) hat (by rw [← hl]; exact z) fun h' tk acc' hkeep hacc => ?_
  have I2 : Inv X pins σ H { s with heap := h', toks := tk } := I.kept hkeep
  refine ⟨.ref h'.objs.size, upd H h'.objs.size (.tup (kvs.map fun kv => kV kv.1)),
    I2.laid (t' := tk) (fun c o e => Heap.get?_push_of_some _ e) (Nat.le_refl _) (show ObjOk X.prog X.w _ _ _ (.tup (kvs.map fun kv => kV kv.1)) from ⟨?_, acc'.toList, ?_, ?_⟩), rfl, q _ (I2.hok.fresh (Nat.le_refl _))⟩
  · rw [List.length_map]
    exact z
  · have el : acc'.toList.length = acc'.size := by simp
    refine vals_of_at (by rw [List.length_map, el, hacc.1, hl]) fun j x w h1 h2 => ?_
    obtain ⟨k, y, hky, hi⟩ := hacc.2 j w (by rw [← Array.getElem?_toList]; exact h2)
    have e1 : (kvs.map (·.1))[j]? = some k := by
      rw [KV.keys rk, List.getElem?_map, hky] <;> rfl
    have e2 : (kvs.map fun kv => kV kv.1)[j]? = some (kV k) := by
      have e3 : (kvs.map fun kv => kV kv.1) = (kvs.map (·.1)).map kV := by rw [List.map_map] <;> rfl
      rw [e3, List.getElem?_map, e1] <;> rfl
    rw [e2] at h1
    cases h1
    exact keyIs_rel hi
  · rw [Array.toArray_toList]
    exact IsTup.new _ _
end Lq
namespace Lq
open PySem PySem.Spec PyProof.Rows L2
section
variable {X : Cx}
/-- y = {k: v for target in iter ..} -/
theorem ps_setDc {i : Nat} {y : Str} {py : Pos} {kx vx tg iter : Expr} {ifs : List Expr} {scope : Scope} {own : List (Str × Nat)} {pos spos : Pos} {wi : TI} {g : TG} {tt : TT} {tk tv : TE}
    (hc : X.calm = true) (hN : X.N.Nodup) (hy : X.N[i]? = some y) (hyl : X.env.scope.names.lookup y = some .local)
    (hsw : swapsWith (.DictComp kx vx [⟨tg, iter, ifs, 0⟩] scope pos) (some (.Name y py)) spos.line X.env = pure true) (hi : PI X tg iter wi) (ok : BlkOk X.N X.env.scope scope own)
    (hg : ∀ (s : Shared) (H : Hp) (C : Addr) (cl : List (Str × Addr)) (fp : List Addr), PG (X.blk s H scope (compEnvC scope cl C X.env) fp) tg g)
    (ht : ∀ (s : Shared) (H : Hp) (C : Addr) (cl : List (Str × Addr)) (fp : List Addr), PTs (X.blk s H scope (compEnvC scope cl C X.env) fp) ifs tt)
    (hk : ∀ (s : Shared) (H : Hp) (C : Addr) (cl : List (Str × Addr)) (fp : List Addr), PE (X.blk s H scope (compEnvC scope cl C X.env) fp) kx tk)
    (he : ∀ (s : Shared) (H : Hp) (C : Addr) (cl : List (Str × Addr)) (fp : List Addr), PE (X.blk s H scope (compEnvC scope cl C X.env) fp) vx tv)
    (hs : ∀ x, foldedSetIterable iter X.env x = pure x := by intro _; rfl) :
    PS X (.Assign [.Name y py] (.DictComp kx vx [⟨tg, iter, ifs, 0⟩] scope pos) spos) (tAsg (tDc wi g tt tk tv (own.map (·.2))) (gName i)) := by
  refine ⟨fun pins s σ H D I h => ?_⟩
  rw [exec_Assign_Name_used _ _ _ _ hsw]
  refine wpAny_bind (wpAny_standAt (wpAny_bind ?_))
  show wpAny _ X.A (do
    let _ ← comprehension (.DictComp kx vx [⟨tg, iter, ifs, 0⟩] scope pos) scope X.env (firstIterPos [⟨tg, iter, ifs, 0⟩] pos) newDict false (eval iter X.env) (some (assign (.Name y py) X.env))) _ _ s
  have h : tDc wi g tt tk tv (own.map (·.2)) σ H (fun x H1 => gName i x σ H1 D.nx) := h
  refine wpAny_bind (thn (dc_core (Qf := fun _ s' => SP X pins D .next s') hc hN I hi ok hg ht hk he hs h fun L C s' m H' I' q hn f => ?_) fun _ s' hq => wpAny_pure (wpAny_pure hq))
  show wpAny _ _ (assign (.Name y py) X.env (.ref L)) _ _ _
  refine wpAny_assign_Name (store_ok2 (v := V.ref L) I' hN hy (.inl hyl) rfl (fun s2 I2 ⟨a, sb, ha⟩ => ?_) (.inr hyl))
  obtain ⟨f0, f1, f2, f3, f4, f5⟩ := f
  have haC : C ≠ a := by
    rcases ha with z | z
    · rw [z]
      exact f1
    · exact fun e => f4 y a z e.symm
  refine ⟨m, hn.sameBut sb haC, fun h3 sb3 => ?_⟩
  exact ⟨_, H', I2.turned (t' := s2.toks) (fun b o hb e => (sb3.2 b hb).trans e) f0 f1 f3 f4 f5, q⟩
theorem sw_dict {kx vx : Expr} {gs : List Comprehension} {scope : Scope} {pos py : Pos} {y : Str} {l : Nat} {env : Env} (hk : env.scope.kind = .function) (hy : env.scope.names.lookup y = some .local) (hl : (py.line == pos.line) = true)
    (ha : (scope.names.any fun (n, k) => n == y && (k == .local || k == .cell)) = false) : swapsWith (.DictComp kx vx gs scope pos) (some (.Name y py)) l env = pure true := by
  have ky : env.kindOf y = some .local := hy
  have hb : env.blockKind = .function := by
    unfold Env.blockKind
    rw [hk]
    rfl
  unfold swapsWith
  simp only [hb, ky, ha, Expr.pos, hl]
  rfl
/-- the turns of a dict comprehension over a list that stays -/
theorem dc_list {K : PySem.W.Frag} {a : Addr} {xs : List V} {g : TG} {tt : TT} {tk tv : TE} {vs : List Nat} {σ : L2.St} {H1 : Hp} {D : Addr} {Qd : Hp → Prop} (Pv : Nat → Hp → Prop) (h0 : Pv 0 (upd H1 D (.dK [])))
    (hl : ∀ i H, i ≤ xs.length → Pv i H → SqL K H a xs)
    (hs : ∀ i x H, xs[i]? = some x → Pv i H → g x (wipe σ vs) H fun σ2 H2 => wipe σ2 vs = wipe σ vs ∧ tt σ2 H2 fun b H3 =>
      if b = true then tk σ2 H3 fun y H4 => tv σ2 H4 fun z H5 => ∃ kvs k, y = kV k ∧ H5 D = some (.dK kvs) ∧ kvs.length < sizeLine ∧ Pv (i + 1) (upd H5 D (.dK (putK kvs k z))) else Pv (i + 1) H3)
    (hd : ∀ H, Pv xs.length H → Qd H) :
    ∃ W : Nat → Nat → Hp → Prop, (∃ m, W 0 m (upd H1 D (.dK []))) ∧ ∀ i m H, W i m H →
      ((Itl K a).stop i H ∧ Qd H) ∨ ((Itl K a).go i H ∧ ∃ Nx : Hp → Prop, (∀ H', Nx H' → ∃ m', m' < m ∧ W (i + 1) m' H') ∧ ∀ x H', (Itl K a).yld i H x H' → g x (wipe σ vs) H' fun σ2 H2 => wipe σ2 vs = wipe σ vs ∧ tt σ2 H2 fun b H3 =>
        if b = true then tk σ2 H3 fun y H4 => tv σ2 H4 fun z H5 => ∃ kvs k, y = kV k ∧ H5 D = some (.dK kvs) ∧ kvs.length < sizeLine ∧ Nx (upd H5 D (.dK (putK kvs k z))) else Nx H3) := by
  refine ⟨fun i m H => m = xs.length - i ∧ i ≤ xs.length ∧ Pv i H, ⟨xs.length, by simp, Nat.zero_le _, h0⟩, ?_⟩
  rintro i m H ⟨rfl, hi, p⟩
  have q := hl i H hi p
  by_cases hlt : i < xs.length
  · refine .inr ⟨⟨xs, xs[i], q, by simp [hlt]⟩, Pv (i + 1), fun H' p' => ⟨xs.length - (i + 1), by omega, rfl, hlt, p'⟩, fun x H' y => ?_⟩
    obtain ⟨e, y⟩ := y
    subst e
    exact hs i x _ (y xs q) p
  · have e : i = xs.length := by omega
    subst e
    exact .inl ⟨⟨xs, q, Nat.le_refl _⟩, hd H p⟩
end
end Lq
namespace Lq
open PySem L2
def top (i : Nat) : Stmt := PySem.Challenge.pw_letquay_k11_whole_texts_of_types.main.body.getD i (.Pass ⟨0, 0, 0, 0⟩)
/-! ### types as trees -/
inductive Lab where
  | var (n : Nat) | fn | tup | made (s : Nat)
inductive Ty where
  | node (l : Lab) (ts : List Ty)
def Lab.word : Lab → Str
  | .var _ => "var" | .fn => "fn" | .tup => "tuple" | .made _ => "made"
def Lab.isVar : Lab → Bool
  | .var _ => true | _ => false
def Ty.lab : Ty → Lab
  | .node l _ => l
def Ty.kids : Ty → List Ty
  | .node _ ts => ts
theorem Ty.eta (T : Ty) : T = .node T.lab T.kids := by cases T; rfl
mutual
def Ty.sz : Ty → Nat
  | .node _ ts => Ty.szs ts + 1
def Ty.szs : List Ty → Nat
  | [] => 0
  | t :: r => Ty.sz t + Ty.szs r
end
theorem Ty.sz_eq (T : Ty) : T.sz = Ty.szs T.kids + 1 := by cases T; rw [Ty.sz]; rfl
theorem szs_nil : Ty.szs [] = 0 := by rw [Ty.szs]
theorem szs_cons (t : Ty) (r : List Ty) : Ty.szs (t :: r) = t.sz + Ty.szs r := by rw [Ty.szs]
theorem szs_app : ∀ (a b : List Ty), Ty.szs (a ++ b) = Ty.szs a + Ty.szs b
  | [], b => by rw [szs_nil, List.nil_append]; omega
  | t :: a, b => by rw [List.cons_append, szs_cons, szs_cons, szs_app a b]; omega
theorem szs_rev : ∀ (a : List Ty), Ty.szs a.reverse = Ty.szs a
  | [] => rfl
  | t :: a => by rw [List.reverse_cons, szs_app, szs_rev a, szs_cons, szs_cons, szs_nil]; omega
theorem sz_pos (T : Ty) : 0 < T.sz := by rw [T.sz_eq]; omega
/-- what stands in a type's tuple behind its word -/
def Rest (K : PySem.W.Frag) (H : Hp) (xs r : List V) : Lab → Prop
  | .var n => xs = [] ∧ r = [.int (n : Int)]
  | .fn => xs = r ∧ r.length = 2
  | .tup => ∃ b, r = [.ref b] ∧ SqT K H b xs
  | .made s => ∃ b, r = [.int (s : Int), .ref b] ∧ SqT K H b xs
def HeadH (K : PySem.W.Frag) (H : Hp) (a : Addr) (l : Lab) (xs : List V) : Prop := ∃ r, SqT K H a (.str l.word :: r) ∧ Rest K H xs r l
mutual
def TyH (K : PySem.W.Frag) (H : Hp) : Ty → V → Prop
  | .node l ts, v => ∃ (a : Addr) (xs : List V), v = .ref a ∧ HeadH K H a l xs ∧ TysH K H ts xs
def TysH (K : PySem.W.Frag) (H : Hp) : List Ty → List V → Prop
  | [], xs => xs = []
  | t :: r, xs => ∃ x ys, xs = x :: ys ∧ TyH K H t x ∧ TysH K H r ys
end
theorem TyH.out {K : PySem.W.Frag} {H : Hp} {T : Ty} {v : V} (h : TyH K H T v) : ∃ (a : Addr) (xs : List V), v = .ref a ∧ HeadH K H a T.lab xs ∧ TysH K H T.kids xs := by
  cases T
  unfold TyH at h
  exact h
theorem TyH.mk {K : PySem.W.Frag} {H : Hp} {l : Lab} {ts : List Ty} {a : Addr} {xs : List V} (h : HeadH K H a l xs) (hs : TysH K H ts xs) : TyH K H (.node l ts) (.ref a) := by
  unfold TyH
  exact ⟨a, xs, rfl, h, hs⟩
theorem TysH.nil {K : PySem.W.Frag} {H : Hp} : TysH K H [] [] := by unfold TysH; rfl
theorem TysH.cons {K : PySem.W.Frag} {H : Hp} {t : Ty} {ts : List Ty} {x : V} {xs : List V} (h : TyH K H t x) (hs : TysH K H ts xs) : TysH K H (t :: ts) (x :: xs) := by
  unfold TysH
  exact ⟨x, xs, rfl, h, hs⟩
theorem TysH.nil_inv {K : PySem.W.Frag} {H : Hp} {xs : List V} (h : TysH K H [] xs) : xs = [] := by
  unfold TysH at h
  exact h
theorem TysH.cons_inv {K : PySem.W.Frag} {H : Hp} {t : Ty} {ts : List Ty} {xs : List V} (h : TysH K H (t :: ts) xs) : ∃ x ys, xs = x :: ys ∧ TyH K H t x ∧ TysH K H ts ys := by
  unfold TysH at h
  exact h
theorem TysH.len {K : PySem.W.Frag} {H : Hp} : ∀ {ts : List Ty} {xs : List V}, TysH K H ts xs → xs.length = ts.length
  | [], xs, h => by rw [h.nil_inv]; rfl
  | t :: r, xs, h => by
    obtain ⟨x, ys, rfl, _, h2⟩ := h.cons_inv
    rw [List.length_cons, List.length_cons, TysH.len h2]
theorem TysH.app {K : PySem.W.Frag} {H : Hp} : ∀ {ts us : List Ty} {xs ys : List V}, TysH K H ts xs → TysH K H us ys → TysH K H (ts ++ us) (xs ++ ys)
  | [], us, xs, ys, h, h' => by rw [h.nil_inv]; exact h'
  | t :: r, us, xs, ys, h, h' => by
    obtain ⟨x, zs, rfl, h1, h2⟩ := h.cons_inv
    exact .cons h1 (TysH.app h2 h')
theorem TysH.rev {K : PySem.W.Frag} {H : Hp} : ∀ {ts : List Ty} {xs : List V}, TysH K H ts xs → TysH K H ts.reverse xs.reverse
  | [], xs, h => by rw [h.nil_inv]; exact .nil
  | t :: r, xs, h => by
    obtain ⟨x, ys, rfl, h1, h2⟩ := h.cons_inv
    rw [List.reverse_cons, List.reverse_cons]
    exact (TysH.rev h2).app (.cons h1 .nil)
/-- the last of a list that is not empty -/
theorem TysH.last {K : PySem.W.Frag} {H : Hp} {ts : List Ty} {xs : List V} (h : TysH K H ts xs) (hne : xs ≠ []) : ∃ us t ys y, ts = us ++ [t] ∧ xs = ys ++ [y] ∧ TysH K H us ys ∧ TyH K H t y := by
  have r := h.rev
  cases e : ts.reverse with
  | nil =>
    rw [e] at r
    exact absurd (by rw [← List.reverse_reverse xs, r.nil_inv]; rfl) hne
  | cons t us =>
    rw [e] at r
    obtain ⟨y, ys, e2, h1, h2⟩ := r.cons_inv
    refine ⟨us.reverse, t, ys.reverse, y, ?_, ?_, h2.rev, h1⟩
    · rw [← List.reverse_reverse ts, e, List.reverse_cons]
    · rw [← List.reverse_reverse xs, e2, List.reverse_cons]
theorem TysH.get {K : PySem.W.Frag} {H : Hp} : ∀ {ts : List Ty} {xs : List V}, TysH K H ts xs → ∀ {i : Nat} {x : V}, xs[i]? = some x → ∃ t, ts[i]? = some t ∧ TyH K H t x
  | [], xs, h, i, x, e => by rw [h.nil_inv] at e; cases e
  | t :: r, xs, h, 0, x, e => by
    obtain ⟨y, ys, rfl, h1, h2⟩ := h.cons_inv
    cases e
    exact ⟨t, rfl, h1⟩
  | t :: r, xs, h, i + 1, x, e => by
    obtain ⟨y, ys, rfl, h1, h2⟩ := h.cons_inv
    exact TysH.get h2 e
theorem TysH.get' {K : PySem.W.Frag} {H : Hp} : ∀ {ts : List Ty} {xs : List V}, TysH K H ts xs → ∀ {i : Nat} {t : Ty}, ts[i]? = some t → ∃ x, xs[i]? = some x ∧ TyH K H t x
  | [], xs, h, i, t, e => by cases e
  | t :: r, xs, h, 0, u, e => by
    obtain ⟨y, ys, rfl, h1, h2⟩ := h.cons_inv
    cases e
    exact ⟨y, rfl, h1⟩
  | t :: r, xs, h, i + 1, u, e => by
    obtain ⟨y, ys, rfl, h1, h2⟩ := h.cons_inv
    exact TysH.get' h2 e
/-- tuples stay -/
def Tups (K : PySem.W.Frag) (H H' : Hp) : Prop := ∀ a xs, SqT K H a xs → SqT K H' a xs
theorem tups_of {K : PySem.W.Frag} {H H' : Hp} (e : Same H H') : Tups K H H' := by
  intro a xs h
  rcases h with (h | ⟨o, h⟩) | h
  · exact .inl (.inl (e _ _ h))
  · exact .inl (.inr ⟨o, e _ _ h⟩)
  · exact .inr h
theorem Rest.mono {K : PySem.W.Frag} {H H' : Hp} (e : Tups K H H') {xs r : List V} {l : Lab} (h : Rest K H xs r l) : Rest K H' xs r l := by
  cases l with
  | var n => exact h
  | fn => exact h
  | tup => obtain ⟨b, h1, h2⟩ := h; exact ⟨b, h1, e _ _ h2⟩
  | made s => obtain ⟨b, h1, h2⟩ := h; exact ⟨b, h1, e _ _ h2⟩
theorem HeadH.mono {K : PySem.W.Frag} {H H' : Hp} (e : Tups K H H') {a : Addr} {l : Lab} {xs : List V} (h : HeadH K H a l xs) : HeadH K H' a l xs := by
  obtain ⟨r, h1, h2⟩ := h
  exact ⟨r, e _ _ h1, h2.mono e⟩
mutual
theorem TyH.mono {K : PySem.W.Frag} {H H' : Hp} (e : Tups K H H') : ∀ {T : Ty} {v : V}, TyH K H T v → TyH K H' T v
  | .node l ts, v, h => by
    unfold TyH at h ⊢
    obtain ⟨a, xs, h1, h2, h3⟩ := h
    exact ⟨a, xs, h1, h2.mono e, TysH.mono e h3⟩
theorem TysH.mono {K : PySem.W.Frag} {H H' : Hp} (e : Tups K H H') : ∀ {ts : List Ty} {xs : List V}, TysH K H ts xs → TysH K H' ts xs
  | [], xs, h => by unfold TysH at h ⊢; exact h
  | t :: r, xs, h => by
    unfold TysH at h ⊢
    obtain ⟨x, ys, h1, h2, h3⟩ := h
    exact ⟨x, ys, h1, TyH.mono e h2, TysH.mono e h3⟩
end
theorem same_upd {H : Hp} {p : Addr} (h : H p = none) (o : HO) : Same H (upd H p o) := fun b u q => by rw [upd_ne (ne_of_none q h)]; exact q
/-! ### defs -/
def At (K : PySem.W.Frag) (mg : Str → Option Value) (x : Str) (st : Stmt) (ps : List Str) : Prop := ∃ f fd, Fun K x x st f fd ∧ mg x = some (.ref f) ∧ Binds K fd ps []
def Has (P : Program) (w : World) (K : PySem.W.Frag) (mg : Str → Option Value) (base : Heap) (x : Str) (ps : List Str) (k : Nat) (sp : Sp) : Prop :=
  ∃ f fd, FnOk P w K mg base CX0 k f fd ps sp ∧ Binds K fd ps [] ∧ PySem.W.keepIn K (.ref f) = true ∧ mg x = some (.ref f)
structure Bi (mg : Str → Option Value) : Prop where
  len : mg "len" = none
  isinstance : mg "isinstance" = none
  all : mg "all" = none
  sum : mg "sum" = none
  int : mg "int" = none
  bool : mg "bool" = none
  str : mg "str" = none
  tuple : mg "tuple" = none
  list : mg "list" = none
  set : mg "set" = none
  sorted : mg "sorted" = none
  range : mg "range" = none
  zip : mg "zip" = none
  abs : mg "abs" = none
  max : mg "max" = none
  min : mg "min" = none
  enumerate : mg "enumerate" = none
section
variable {P : Program} {w : World} {K : PySem.W.Frag} {mg : Str → Option Value} {base : Heap}
theorem Has.mk {x : Str} {st : Stmt} {ps : List Str} {k : Nat} {sp : Sp} (A : At K mg x st ps) (h : ∀ f fd, Fun K x x st f fd → FnOk P w K mg base CX0 k f fd ps sp) : Has P w K mg base x ps k sp := by
  obtain ⟨f, fd, F, m, b⟩ := A
  exact ⟨f, fd, h f fd F, b, F.kp, m⟩
/-! ### words of types -/
theorem w_var : ∀ (l : Lab), decide (V.str l.word = V.str "var") = l.isVar
  | .var _ => (by decide +kernel : decide (V.str (Str.ofString "var") = V.str (Str.ofString "var")) = true)
  | .fn => (by decide +kernel : decide (V.str (Str.ofString "fn") = V.str (Str.ofString "var")) = false)
  | .tup => (by decide +kernel : decide (V.str (Str.ofString "tuple") = V.str (Str.ofString "var")) = false)
  | .made _ => (by decide +kernel : decide (V.str (Str.ofString "made") = V.str (Str.ofString "var")) = false)
def Lab.isFn : Lab → Bool
  | .fn => true | _ => false
def Lab.isTup : Lab → Bool
  | .tup => true | _ => false
def Lab.isMade : Lab → Bool
  | .made _ => true | _ => false
theorem w_fn : ∀ (l : Lab), decide (V.str l.word = V.str "fn") = l.isFn
  | .var _ => (by decide +kernel : decide (V.str (Str.ofString "var") = V.str (Str.ofString "fn")) = false)
  | .fn => (by decide +kernel : decide (V.str (Str.ofString "fn") = V.str (Str.ofString "fn")) = true)
  | .tup => (by decide +kernel : decide (V.str (Str.ofString "tuple") = V.str (Str.ofString "fn")) = false)
  | .made _ => (by decide +kernel : decide (V.str (Str.ofString "made") = V.str (Str.ofString "fn")) = false)
theorem w_tup : ∀ (l : Lab), decide (V.str l.word = V.str "tuple") = l.isTup
  | .var _ => (by decide +kernel : decide (V.str (Str.ofString "var") = V.str (Str.ofString "tuple")) = false)
  | .fn => (by decide +kernel : decide (V.str (Str.ofString "fn") = V.str (Str.ofString "tuple")) = false)
  | .tup => (by decide +kernel : decide (V.str (Str.ofString "tuple") = V.str (Str.ofString "tuple")) = true)
  | .made _ => (by decide +kernel : decide (V.str (Str.ofString "made") = V.str (Str.ofString "tuple")) = false)
theorem w_made : ∀ (l : Lab), decide (V.str l.word = V.str "made") = l.isMade
  | .var _ => (by decide +kernel : decide (V.str (Str.ofString "var") = V.str (Str.ofString "made")) = false)
  | .fn => (by decide +kernel : decide (V.str (Str.ofString "fn") = V.str (Str.ofString "made")) = false)
  | .tup => (by decide +kernel : decide (V.str (Str.ofString "tuple") = V.str (Str.ofString "made")) = false)
  | .made _ => (by decide +kernel : decide (V.str (Str.ofString "made") = V.str (Str.ofString "made")) = true)
/-! ### children -/
abbrev sChildren : Stmt := top 24
theorem sc23 : FnScope ["T"] ["T"] (defScope sChildren) := ⟨rfl, rfl, rfl, by decide +kernel, rfl, by decide +kernel, by decide +kernel⟩
def spChildren (K : PySem.W.Frag) : Sp := fun vs H Q _ => ∃ (T : Ty) (v : V), vs = [v] ∧ TyH K H T v ∧
  ∀ (H' : Hp) (c : Addr) (xs : List V), Same H H' → SqT K H' c xs → TysH K H' T.kids xs → Q (.ref c) H'
theorem ok_children (A : At K mg "children" sChildren ["T"]) : Has P w K mg base "children" ["T"] 1 (spChildren K) := by
  refine .mk A fun f fd F => ?_
  refine F.ok sc23 (fun vs H Q E h => ?_) (fun cdv A outer s H vs Q E hr h => ?_)
  · obtain ⟨T, v, rfl, _⟩ := h
    rfl
  obtain ⟨T, v, rfl, hT, q⟩ := h
  refine ⟨_, pss_cons (ps_if (pt_cmpR op_eq (pe_ix ix_tup (pv 0) pe_int (fun _ _ => rfl)) pe_str (nomark _)) (pss_one (ps_ret (pe_tup pa_nil))) pss_nil)
    (pss_cons (ps_if (pt_cmpR op_eq (pe_ix ix_tup (pv 0) pe_int (fun _ _ => rfl)) pe_str (nomark _)) (pss_one (ps_ret (pe_slice sl_tup (pv 0) (po_some pe_int) po_none))) pss_nil)
    (pss_one (ps_ret (pe_ifExp (pt_cmpR op_eq (pe_ix ix_tup (pv 0) pe_int (fun _ _ => rfl)) pe_str (nomark _)) (pe_ix ix_tup (pv 0) pe_int (fun _ _ => rfl)) (pe_ix ix_tup (pv 0) pe_int (fun _ _ => rfl)))))), ?_⟩
  obtain ⟨a, xs, rfl, ⟨r, hS, hR⟩, hK⟩ := hT.out
  have i0 : atI (V.str T.lab.word :: r) 0 = some (V.str T.lab.word) := atI_nat (j := 0) rfl
  refine ⟨_, rfl, a, _, _, _, rfl, rfl, hS, i0, rfl, _, rfl, ?_⟩
  rw [w_var]
  obtain ⟨l, ts⟩ := T
  have e0 : (Ty.node l ts).kids = ts := rfl
  cases l with
  | var n =>
    refine iteT ⟨by show 0 ≤ sizeLine; decide, fun t ht => ?_⟩
    obtain ⟨rfl, rfl⟩ := hR
    exact q _ t [] (same_upd ht _) (.inl (.inl upd_same)) (hK.mono (tups_of (same_upd ht _)))
  | fn =>
    refine iteF ?_
    refine ⟨_, rfl, a, _, _, _, rfl, rfl, hS, i0, rfl, _, rfl, iteT ?_⟩
    obtain ⟨rfl, hl⟩ := hR
    match xs, hl with
    | [x, y], _ =>
      refine ⟨_, rfl, _, rfl, a, _, rfl, hS, (show ¬ (HT.sIx 3 0 (some 1) = 0 ∧ HT.sIx 3 3 none = 3) by decide), fun t ht => ?_⟩
      exact q _ t [x, y] (same_upd ht _) (.inl (.inl upd_same)) (hK.mono (tups_of (same_upd ht _)))
  | tup =>
    refine iteF ⟨_, rfl, a, _, _, _, rfl, rfl, hS, i0, rfl, _, rfl, iteF ⟨_, rfl, a, _, _, _, rfl, rfl, hS, i0, rfl, _, rfl, iteT ?_⟩⟩
    obtain ⟨b, rfl, hb⟩ := hR
    exact ⟨_, rfl, a, _, _, _, rfl, rfl, hS, atI_nat (j := 1) rfl, q _ b xs (Same.refl _) hb hK⟩
  | made n =>
    refine iteF ⟨_, rfl, a, _, _, _, rfl, rfl, hS, i0, rfl, _, rfl, iteF ⟨_, rfl, a, _, _, _, rfl, rfl, hS, i0, rfl, _, rfl, iteF ?_⟩⟩
    obtain ⟨b, rfl, hb⟩ := hR
    exact ⟨_, rfl, a, _, _, _, rfl, rfl, hS, atI_nat (j := 2) rfl, q _ b xs (Same.refl _) hb hK⟩
end
end Lq
namespace Lq
open PySem L2
/-! ### heaps and lists -/
theorem same_set {H H' : Hp} {t : Addr} (e : Same H H') (h : H t = none) (o : HO) : Same H (upd H' t o) := fun b u q => by
  rw [upd_ne (ne_of_none q h)]
  exact e b u q
theorem tups_set {K : PySem.W.Frag} {H : Hp} {t : Addr} {xs : List V} (h : H t = some (.lst xs)) (o : HO) : Tups K H (upd H t o) := by
  intro a ys q
  rcases q with (q | ⟨u, q⟩) | q
  · exact .inl (.inl (by rw [upd_ne (ne_of q h (by intro z; cases z))]; exact q))
  · exact .inl (.inr ⟨u, by rw [upd_ne (ne_of q h (by intro z; cases z))]; exact q⟩)
  · exact .inr q
theorem Tups.trans {K : PySem.W.Frag} {H H1 H2 : Hp} (a : Tups K H H1) (b : Tups K H1 H2) : Tups K H H2 := fun c xs h => b c xs (a c xs h)
theorem Tups.refl {K : PySem.W.Frag} {H : Hp} : Tups K H H := fun _ _ h => h
theorem sq_new {K : PySem.W.Frag} {H : Hp} {p : Addr} {xs : List V} : SqT K (upd H p (.tup xs)) p xs := .inl (.inl upd_same)
theorem while_m {c : TT} {tb : TS} {D : Ends} {σ : St} {H : Hp} (Pv : Nat → St → Hp → Prop) {m : Nat} (h0 : Pv m σ H)
    (hs : ∀ m σ H, Pv m σ H → c σ H fun b H1 => if b = true then
      tb { D with nx := fun σ' H' => ∃ m', m' < m ∧ Pv m' σ' H', ct := fun σ' H' => ∃ m', m' < m ∧ Pv m' σ' H', bk := D.nx } σ H1 else D.nx σ H1)
    (mono : ∀ σ H Q Q', (∀ b H1, Q b H1 → Q' b H1) → c σ H Q → c σ H Q') :
    tWhile c tb D σ H := by
  refine ⟨Pv, ⟨m, h0⟩, fun m σ H p => ?_⟩
  refine mono σ H _ _ (fun b H1 q => ?_) (hs m σ H p)
  cases b with
  | true => exact ⟨_, fun σ' H' h => h, q⟩
  | false => exact q
theorem last_of {xs : List V} (h : xs ≠ []) : ∃ ys y, xs = ys ++ [y] := ⟨xs.dropLast, xs.getLast h, (List.dropLast_concat_getLast h).symm⟩
theorem last_at (ys : List V) (y : V) : (ys ++ [y])[(ys ++ [y]).length - 1]? = some y := by
  rw [List.length_append, List.length_singleton, Nat.add_sub_cancel]
  simp
theorem drop_at (ys : List V) (y : V) : (ys ++ [y]).dropLast = ys := by simp
theorem tyx_tup {K : PySem.W.Frag} {H : Hp} {a : Addr} {xs : List V} (h : SqT K H a xs) : TyX K H (.ref a) (.type "tuple") := by
  rcases h with (h | ⟨o, h⟩) | ⟨o, its, n, h1, h2, _⟩
  · exact .base (.tup h)
  · exact .fTuple h
  · exact .kTuple h1 h2
theorem small300 {n : Nat} (h : n ≤ 2000) : n ≤ sizeLine := Nat.le_trans h (by decide)
theorem r_int {i : Int} {t : Tok} : RelV (.int i) (.int i t) := ⟨t, rfl⟩
theorem r_str {x : Str} {t : Tok} : RelV (.str x) (.str x t) := ⟨t, rfl⟩
theorem r_ref {a : Addr} : RelV (.ref a) (.ref a) := rfl
structure Ct (K : PySem.W.Frag) (mg : Str → Option Value) : Prop where
  BEYOND : ∃ t, mg "BEYOND" = some (.int (10 ^ 60) t)
  MAX_SIZE : ∃ t, mg "MAX_SIZE" = some (.int 300 t)
  MAX_ARITY : ∃ t, mg "MAX_ARITY" = some (.int 4 t)
  LONGEST : ∃ t, mg "LONGEST_NAME" = some (.int 8 t)
  LOW : ∃ t, mg "LOW_LETTERS" = some (.str "abcdefghijklmnopqrstuvwxyz" t)
  HIGH : ∃ t, mg "HIGH_LETTERS" = some (.str "ABCDEFGHIJKLMNOPQRSTUVWXYZ" t)
section
variable {P : Program} {w : World} {K : PySem.W.Frag} {mg : Str → Option Value} {base : Heap}
/-! ### with_children -/
abbrev s_with_children : Stmt := top 25
theorem sc_with_children : FnScope ["T", "parts"] ["T", "parts"] (defScope s_with_children) := ⟨rfl, rfl, rfl, by decide +kernel, rfl, by decide +kernel, by decide +kernel⟩
def spWith (K : PySem.W.Frag) : Sp := fun vs H Q _ => ∃ (T : Ty) (v : V) (b : Addr) (us : List Ty) (ys : List V), vs = [v, .ref b] ∧ TyH K H T v ∧ SqT K H b ys ∧ TysH K H us ys ∧
  T.lab.isVar = false ∧ (T.lab.isFn = true → us.length = 2) ∧ us.length ≤ 1000 ∧ ∀ (H' : Hp) (c : Addr), Same H H' → TyH K H' (.node T.lab us) (.ref c) → Q (.ref c) H'
theorem ok_with (A : At K mg "with_children" s_with_children ["T", "parts"]) : Has P w K mg base "with_children" ["T", "parts"] 1 (spWith K) := by
  refine .mk A fun f fd F => ?_
  refine F.ok sc_with_children (fun vs H Q E h => ?_) (fun cdv A outer s H vs Q E hr h => ?_)
  · obtain ⟨T, v, b, us, ys, rfl, _⟩ := h
    rfl
  obtain ⟨T, v, b, us, ys, rfl, hT, hb, hU, nv, f2, u1, q⟩ := h
  refine ⟨_, (pss_cons (ps_if (pt_cmpR op_eq (pe_ix (ixT K) (pv 0) pe_int (fun _ _ => rfl)) pe_str (nomark _)) (pss_one (ps_ret (pe_tup (pa_cons pe_str (StX.pa_star (pv 1) pa_nil))))) pss_nil)
  (pss_one (ps_ret (pe_ifExp (pt_cmpR op_eq (pe_ix (ixT K) (pv 0) pe_int (fun _ _ => rfl)) pe_str (nomark _)) (pe_tup (pa_cons pe_str (pa_cons (pv 1) pa_nil))) (pe_tup (pa_cons pe_str (pa_cons (pe_ix (ixT K) (pv 0) pe_int (fun _ _ => rfl)) (pa_cons (pv 1) pa_nil)))))))), ?_⟩
  obtain ⟨a, xs, rfl, ⟨r, hS, hR⟩, hK⟩ := hT.out
  have i0 : atI (V.str T.lab.word :: r) 0 = some (V.str T.lab.word) := atI_nat (j := 0) rfl
  have hz : (ys.length : Nat) ≤ 1000 := by rw [hU.len]; exact u1
  refine ⟨_, rfl, a, _, _, _, rfl, rfl, hS, i0, rfl, _, rfl, ?_⟩
  rw [w_fn]
  obtain ⟨l, ts⟩ := T
  have two : ∀ (l : Lab) (r' : List V) (t : Addr) (H1 : Hp), Same H H1 → H1 t = none → TysH K (upd H1 t (.tup (V.str l.word :: r'))) us ys := fun l r' t H1 g ht =>
    hU.mono ((tups_of g).trans (tups_of (same_upd ht _)))
  cases l with
  | var n => cases nv
  | fn =>
    refine iteT ⟨_, rfl, b, ys, rfl, .inl hb, ?_, fun t ht => ?_⟩
    · show (V.str _ :: (ys ++ [])).length ≤ sizeLine
      rw [List.length_cons, List.append_nil]
      exact small300 (by omega)
    · have ha : ys ++ [] = ys := List.append_nil ys
      exact q _ t (same_upd ht _) (.mk (xs := ys ++ []) ⟨ys ++ [], sq_new, rfl, by rw [ha, hU.len]; exact f2 rfl⟩ (by rw [ha]; exact two .fn ys t H (Same.refl _) ht))
  | tup =>
    refine iteF ⟨_, rfl, a, _, _, _, rfl, rfl, hS, i0, rfl, _, rfl, ?_⟩
    refine iteT ⟨_, rfl, by show 2 ≤ sizeLine; decide, fun t ht => ?_⟩
    exact q _ t (same_upd ht _) (.mk ⟨[.ref b], sq_new, b, rfl, tups_of (same_upd ht _) _ _ hb⟩ (two .tup _ t H (Same.refl _) ht))
  | made n =>
    obtain ⟨c, rfl, hc⟩ := hR
    refine iteF ⟨_, rfl, a, _, _, _, rfl, rfl, hS, i0, rfl, _, rfl, ?_⟩
    refine iteF ⟨_, rfl, a, _, _, _, rfl, rfl, hS, atI_nat (j := 1) rfl, _, rfl, by show 3 ≤ sizeLine; decide, fun t ht => ?_⟩
    exact q _ t (same_upd ht _) (.mk ⟨[.int n, .ref b], sq_new, b, rfl, tups_of (same_upd ht _) _ _ hb⟩ (two (.made n) _ t H (Same.refl _) ht))
/-! ### is_integer, is_whole -/
abbrev s_is_integer : Stmt := top 3
theorem sc_is_integer : FnScope ["value"] ["value"] (defScope s_is_integer) := ⟨rfl, rfl, rfl, by decide +kernel, rfl, by decide +kernel, by decide +kernel⟩
def spInt : Sp := fun vs H Q _ => ∃ i : Int, vs = [.int i] ∧ -(10 ^ 60) < i ∧ i < 10 ^ 60 ∧ Q (.bl true) H
theorem ok_is_integer (A : At K mg "is_integer" s_is_integer ["value"]) (B : Bi mg) (C : Ct K mg) : Has P w K mg base "is_integer" ["value"] 1 spInt := by
  refine .mk A fun f fd F => ?_
  refine F.ok sc_is_integer (fun vs H Q E h => ?_) (fun cdv A outer s H vs Q E hr h => ?_)
  · obtain ⟨i, rfl, _⟩ := h
    rfl
  obtain ⟨i, rfl, h1, h2, q⟩ := h
  obtain ⟨tB, T_BEYOND⟩ := C.BEYOND
  refine ⟨_, (pss_one (ps_ret (pe_and (pe_callB (isiK K) (by rfl) B.isinstance (by decide +kernel) (pa_cons (pv 0) (pa_cons (pe_bltn (v := .ty "int") rfl B.int (by decide +kernel) rfl) pa_nil))) (pe_and (pe_not (pe_callB (isiK K) (by rfl) B.isinstance (by decide +kernel) (pa_cons (pv 0) (pa_cons (pe_bltn (v := .ty "bool") rfl B.bool (by decide +kernel) rfl) pa_nil)))) (pe_one (pe_chain op_lt op_lt (pe_un un_neg (pe_glob rfl T_BEYOND r_int)) (pv 0) (pe_glob rfl T_BEYOND r_int))))))), ?_⟩
  refine ⟨_, rfl, _, _, _, _, true, rfl, .ty _, .base (.int i), kit_ty (by decide +kernel), _, rfl, iteT ?_⟩
  refine ⟨_, rfl, _, _, _, _, false, rfl, .ty _, .base (.int i), kit_ty (by decide +kernel), _, rfl, _, rfl, iteT ?_⟩
  refine ⟨_, rfl, _, rfl, _, _, rfl, rfl, _, rfl, ?_⟩
  rw [decide_eq_true h1]
  refine iteT ⟨_, _, rfl, rfl, ?_⟩
  have d : Q (.bl (decide (i < 10 ^ 60))) H := by
    rw [decide_eq_true h2]
    exact q
  exact d
abbrev s_is_whole : Stmt := top 4
theorem sc_is_whole : FnScope ["value"] ["value"] (defScope s_is_whole) := ⟨rfl, rfl, rfl, by decide +kernel, rfl, by decide +kernel, by decide +kernel⟩
def spWhole : Sp := fun vs H Q _ => ∃ i : Int, vs = [.int i] ∧ 0 ≤ i ∧ i < 10 ^ 60 ∧ Q (.bl true) H
theorem ok_is_whole (A : At K mg "is_whole" s_is_whole ["value"]) (D_is_integer : Has P w K mg base "is_integer" ["value"] 1 spInt) : Has P w K mg base "is_whole" ["value"] 2 spWhole := by
  refine .mk A fun f fd F => ?_
  refine F.ok sc_is_whole (fun vs H Q E h => ?_) (fun cdv A outer s H vs Q E hr h => ?_)
  · obtain ⟨i, rfl, _⟩ := h
    rfl
  obtain ⟨i, rfl, h1, h2, q⟩ := h
  obtain ⟨f_is_integer, fd_is_integer, G_is_integer, b_is_integer, k_is_integer, m_is_integer⟩ := D_is_integer
  refine ⟨_, (pss_one (ps_ret (pe_and (pe_call G_is_integer (hr.mono (by decide)) rfl m_is_integer k_is_integer b_is_integer .nil pass0 (pa_cons (pv 0) pa_nil)) (pe_one (pe_cmpR op_ge (pv 0) pe_int (nomark _)))))), ?_⟩
  refine ⟨_, rfl, i, rfl, by omega, h2, _, rfl, iteT ⟨_, rfl, _, _, rfl, rfl, ?_⟩⟩
  have d : Q (.bl (decide (i ≥ 0))) H := by
    rw [decide_eq_true (show i ≥ 0 from h1)]
    exact q
  exact d
end
end Lq
namespace Lq
open PySem L2
mutual
def Ty.pre : Ty → List Ty
  | .node l ts => .node l ts :: Ty.pres ts
def Ty.pres : List Ty → List Ty
  | [] => []
  | t :: r => Ty.pre t ++ Ty.pres r
end
theorem pre_eq (T : Ty) : T.pre = T :: Ty.pres T.kids := by cases T; rw [Ty.pre]; rfl
theorem pres_nil : Ty.pres [] = [] := by rw [Ty.pres]
theorem pres_cons (t : Ty) (r : List Ty) : Ty.pres (t :: r) = t.pre ++ Ty.pres r := by rw [Ty.pres]
theorem pres_app : ∀ (a b : List Ty), Ty.pres (a ++ b) = Ty.pres a ++ Ty.pres b
  | [], b => by rw [pres_nil, List.nil_append, List.nil_append]
  | t :: a, b => by rw [List.cons_append, pres_cons, pres_cons, pres_app a b, List.append_assoc]
mutual
theorem pre_len : ∀ (T : Ty), T.pre.length = T.sz
  | .node l ts => by rw [Ty.pre, Ty.sz, List.length_cons, pres_len ts]
theorem pres_len : ∀ (ts : List Ty), (Ty.pres ts).length = Ty.szs ts
  | [] => by rw [pres_nil, szs_nil]; rfl
  | t :: r => by rw [pres_cons, szs_cons, List.length_append, pre_len t, pres_len r]
end
theorem len_szs : ∀ (ts : List Ty), ts.length ≤ Ty.szs ts
  | [] => Nat.zero_le _
  | t :: r => by
    have h1 := len_szs r
    have h2 := sz_pos t
    rw [szs_cons, List.length_cons]
    omega
theorem kids_len (T : Ty) : T.kids.length < T.sz := by
  have h := len_szs T.kids
  rw [T.sz_eq]
  omega
section
variable {P : Program} {w : World} {K : PySem.W.Frag} {mg : Str → Option Value} {base : Heap}
abbrev s_nodes_of : Stmt := top 29
theorem sc_nodes_of : FnScope ["T", "found", "todo", "part"] ["T"] (defScope s_nodes_of) := ⟨rfl, rfl, rfl, by decide +kernel, rfl, by decide +kernel, by decide +kernel⟩
def spNodes (K : PySem.W.Frag) : Sp := fun vs H Q _ => ∃ (T : Ty) (v : V), vs = [v] ∧ TyH K H T v ∧ T.sz ≤ 1000 ∧
  ∀ (H' : Hp) (p : Addr) (xs : List V), Same H H' → H p = none → H' p = some (.lst xs) → TysH K H' T.pre xs → Q (.ref p) H'
theorem ok_nodes_of (A : At K mg "nodes_of" s_nodes_of ["T"]) (B : Bi mg) (D_children : Has P w K mg base "children" ["T"] 1 (spChildren K)) : Has P w K mg base "nodes_of" ["T"] 2 (spNodes K) := by
  refine .mk A fun f fd F => ?_
  refine F.ok sc_nodes_of (fun vs H Q E h => ?_) (fun cdv A outer s H vs Q E hr h => ?_)
  · obtain ⟨T, v, rfl, _⟩ := h
    rfl
  obtain ⟨T, v, rfl, hT, hsz, q⟩ := h
  obtain ⟨f_children, fd_children, G_children, b_children, k_children, m_children⟩ := D_children
  refine ⟨_, (pss_cons (ps_set (i := 1) sc_nodes_of.nd rfl (Or.inl rfl) (pe_lst pa_nil))
  (pss_cons (ps_set (i := 2) sc_nodes_of.nd rfl (Or.inl rfl) (pe_lst (pa_cons (pv 0) pa_nil)))
  (pss_cons (ps_while PassesOwn.never (pt_truth (pv 2) (by intro _; rfl)) (pss_cons (ps_set (i := 3) sc_nodes_of.nd rfl (Or.inl rfl) (pe_bm0 PySem.F.plainAttrs_list PySem.F.slot_list_pop PySem.F.type_list_pop mt_pop (pv 2)))
  (pss_cons (ps_expr (pe_bm PySem.F.plainAttrs_list PySem.F.slot_list_append PySem.F.type_list_append mt_append (pv 1) (pa_cons (pv 3) pa_nil)))
  (pss_one (ps_expr (pe_bm PySem.F.plainAttrs_list PySem.F.slot_list_extend PySem.F.type_list_extend mt_extT (pv 2) (pa_cons (pe_backT (pe_call G_children (hr.mono (by decide)) rfl m_children k_children b_children .nil pass0 (pa_cons (pv 3) pa_nil))) pa_nil)))))))
  (pss_one (ps_ret (pv 1)))))), ?_⟩
  refine ⟨Nat.zero_le _, fun fa ha => ?_⟩
  refine ⟨_, rfl, by show 1 ≤ sizeLine; decide, fun ta hb => ?_⟩
  have hfa : H fa = none := ha
  have hta : H ta = none := (same_upd ha _).free hb
  have nft : fa ≠ ta := by
    intro e
    rw [e, upd_same] at hb
    cases hb
  dsimp only [gName, tSeq]
  refine while_m (fun m σ H1 => ∃ (fts tts : List Ty) (xs ys : List V) (x3 : Option V), σ = [some v, some (.ref fa), some (.ref ta), x3] ∧ Same H H1 ∧ H1 fa = some (.lst xs) ∧ TysH K H1 fts xs ∧
    H1 ta = some (.lst ys) ∧ TysH K H1 tts ys ∧ fts ++ Ty.pres tts.reverse = T.pre ∧ m = Ty.szs tts) (m := T.sz) ?_ ?_ (fun σ H1 Q1 Q2 mo ⟨z, e, k, tk, qq⟩ => ⟨z, e, k, tk, mo _ _ qq⟩)
  · refine ⟨[], [T], [], [v], none, rfl, same_set (same_upd ha _) hta _, by rw [upd_ne nft, upd_same], .nil, upd_same, .cons (hT.mono (tups_of (same_set (same_upd ha _) hta _))) .nil, ?_, ?_⟩
    · rw [List.nil_append, List.reverse_singleton, pres_cons, pres_nil, List.append_nil]
    · rw [szs_cons, szs_nil]
      omega
  rintro m σ H1 ⟨fts, tts, xs, ys, x3, rfl, g, h1, k1, h2, k2, e, rfl⟩
  refine ⟨_, rfl, _, .inl ⟨ys, SqL.of h2, rfl⟩, ?_⟩
  have el := congrArg List.length e
  rw [List.length_append, pres_len, pre_len, szs_rev] at el
  by_cases hne : ys = []
  · subst hne
    refine iteF ?_
    have et : tts = [] := by
      have := k2.len
      exact List.eq_nil_of_length_eq_zero this.symm
    subst et
    rw [List.reverse_nil, pres_nil, List.append_nil] at e
    subst e
    exact ⟨_, rfl, q H1 fa xs g hfa h1 k1⟩
  · have ee : (!ys.isEmpty) = true := by
      cases ys with
      | nil => exact absurd rfl hne
      | cons _ _ => rfl
    rw [ee]
    refine iteT ?_
    obtain ⟨us, t, zs, y, rfl, rfl, ku, kt⟩ := k2.last hne
    rw [szs_app, szs_cons, szs_nil] at el
    have hk := kids_len t
    have hus := len_szs us
    have hlu := ku.len
    have hlx := k1.len
    have hsk := t.sz_eq
    have hkl := len_szs t.kids
    refine ⟨_, rfl, .inl ⟨rfl, _, SqL.of h2⟩, ta, _, y, rfl, rfl, h2, last_at zs y, ?_⟩
    rw [drop_at]
    have t2 : Tups K H1 (upd H1 ta (.lst zs)) := tups_set h2 _
    have h1' : upd H1 ta (.lst zs) fa = some (.lst xs) := by rw [upd_ne nft]; exact h1
    refine ⟨_, rfl, .inl ⟨rfl, _, SqL.of h1'⟩, _, rfl, fa, xs, y, rfl, rfl, h1', small1000 (by omega), ?_⟩
    have t3 := t2.trans (tups_set h1' (.lst (xs ++ [y])))
    refine ⟨_, rfl, .inl ⟨rfl, _, SqL.of (by rw [upd_ne nft.symm]; exact upd_same)⟩, _, rfl, t, y, rfl, kt.mono t3, fun H4 c cs g4 hc hk4 => ?_⟩
    refine ⟨c, cs, rfl, hc, fun p hp => ?_⟩
    have t4 := t3.trans (tups_of g4)
    have h4t : H4 ta = some (.lst zs) := g4 _ _ (by rw [upd_ne nft.symm]; exact upd_same)
    have h4f : H4 fa = some (.lst (xs ++ [y])) := g4 _ _ upd_same
    have h5t : upd H4 p (.tup cs.reverse) ta = some (.lst zs) := same_upd hp _ _ _ h4t
    have h5f : upd H4 p (.tup cs.reverse) fa = some (.lst (xs ++ [y])) := same_upd hp _ _ _ h4f
    have hcl := hk4.len
    refine ⟨ta, p, zs, cs.reverse, rfl, rfl, h5t, sq_new, ?_, ?_⟩
    · rw [List.length_reverse]
      exact small300 (by omega)
    have t5 := t4.trans ((tups_of (same_upd hp (.tup cs.reverse))).trans (tups_set h5t (.lst (zs ++ cs.reverse))))
    refine ⟨Ty.szs us + Ty.szs t.kids, ?_, fts ++ [t], us ++ t.kids.reverse, xs ++ [y], zs ++ cs.reverse, some y, rfl, ?_, ?_, ?_, upd_same, ?_, ?_, ?_⟩
    · rw [szs_app, szs_cons, szs_nil]
      omega
    · refine same_set ?_ hta _
      refine Same.trans ?_ (same_upd hp _)
      refine Same.trans ?_ g4
      exact same_set (same_set g hta _) hfa _
    · rw [upd_ne nft]
      exact h5f
    · exact (k1.mono t5).app (.cons (kt.mono t5) .nil)
    · exact (ku.mono t5).app (hk4.mono ((tups_of (same_upd hp (.tup cs.reverse))).trans (tups_set h5t _))).rev
    · rw [← e, List.reverse_append, List.reverse_reverse, List.reverse_append, List.reverse_singleton, List.singleton_append, pres_cons, pre_eq, pres_app]
      simp only [List.append_assoc, List.cons_append, List.nil_append]
    · rw [szs_app, szs_rev]
end
end Lq
namespace Lq
open PySem L2
/-- how many parts a type of this form has in a book with these arities -/
def LocOk (ar : List Nat) (l : Lab) (n : Nat) : Prop := match l with
  | .var m => n = 0 ∧ (m : Int) < 10 ^ 60
  | .fn => n = 2
  | .tup => n ≠ 1
  | .made s => 0 < s ∧ (s : Int) < 10 ^ 60 ∧ ar[s - 1]? = some n
def Ty.Ok (ar : List Nat) (T : Ty) : Prop := ∀ t ∈ T.pre, LocOk ar t.lab t.kids.length
theorem Ty.Ok.loc {ar : List Nat} {T : Ty} (h : T.Ok ar) : LocOk ar T.lab T.kids.length := h T (by rw [pre_eq]; exact List.mem_cons_self)
theorem mem_pres {t : Ty} : ∀ {ts : List Ty}, t ∈ ts → ∀ {u : Ty}, u ∈ t.pre → u ∈ Ty.pres ts
  | [], h, _, _ => nomatch h
  | x :: r, h, u, hu => by
    rw [pres_cons]
    rcases List.mem_cons.mp h with e | h'
    · subst e
      exact List.mem_append_left _ hu
    · exact List.mem_append_right _ (mem_pres h' hu)
theorem Ty.Ok.kid {ar : List Nat} {T t : Ty} (h : T.Ok ar) (m : t ∈ T.kids) : t.Ok ar := fun u hu => h u (by rw [pre_eq]; exact List.mem_cons_of_mem _ (mem_pres m hu))
theorem Rest.len1 {K : PySem.W.Frag} {H : Hp} {xs r : List V} {l : Lab} (h : Rest K H xs r l) : 1 ≤ r.length := by
  cases l with
  | var n => rw [h.2]; exact Nat.le_refl _
  | fn => rw [h.2]; decide
  | tup => obtain ⟨b, h1, _⟩ := h; rw [h1]; exact Nat.le_refl _
  | made s => obtain ⟨b, h1, _⟩ := h; rw [h1]; exact (by decide : 1 ≤ 2)
section
variable {P : Program} {w : World} {K : PySem.W.Frag} {mg : Str → Option Value} {base : Heap}
abbrev s__parts_of : Stmt := top 26
theorem sc__parts_of : FnScope ["value", "word"] ["value"] (defScope s__parts_of) := ⟨rfl, rfl, rfl, by decide +kernel, rfl, by decide +kernel, by decide +kernel⟩
def spParts (K : PySem.W.Frag) : Sp := fun vs H Q _ => ∃ (T : Ty) (v : V) (ar : List Nat), vs = [v] ∧ TyH K H T v ∧ LocOk ar T.lab T.kids.length ∧
  ∀ (H' : Hp) (c : Addr) (xs : List V), Same H H' → SqT K H' c xs → TysH K H' T.kids xs → Q (.ref c) H'
theorem ok_parts_of (A : At K mg "_parts_of" s__parts_of ["value"]) (B : Bi mg) (D_is_integer : Has P w K mg base "is_integer" ["value"] 1 spInt) (D_is_whole : Has P w K mg base "is_whole" ["value"] 2 spWhole) : Has P w K mg base "_parts_of" ["value"] 3 (spParts K) := by
  refine .mk A fun f fd F => ?_
  refine F.ok sc__parts_of (fun vs H Q E h => ?_) (fun cdv A outer s H vs Q E hr h => ?_)
  · obtain ⟨T, v, ar, rfl, _⟩ := h
    rfl
  obtain ⟨T, v, ar, rfl, hT, hL, q⟩ := h
  obtain ⟨f_is_integer, fd_is_integer, G_is_integer, b_is_integer, k_is_integer, m_is_integer⟩ := D_is_integer
  obtain ⟨f_is_whole, fd_is_whole, G_is_whole, b_is_whole, k_is_whole, m_is_whole⟩ := D_is_whole
  refine ⟨_, (pss_cons (ps_if (PW.pt (pw_or (pt_not (pt_val (pe_callB (isiK K) (by rfl) B.isinstance (by decide +kernel) (pa_cons (pv 0) (pa_cons (pe_bltn (v := .ty "tuple") rfl B.tuple (by decide +kernel) rfl) pa_nil))))) (pw_or (pt_cmpR op_lt (pe_callB (lenS K) (by rfl) B.len (by decide +kernel) (pa_cons (pv 0) pa_nil)) pe_int (nomark _)) (pw_or1 (pt_not (pt_val (pe_callB (isiK K) (by rfl) B.isinstance (by decide +kernel) (pa_cons (pe_ix (ixT K) (pv 0) pe_int (fun _ _ => rfl)) (pa_cons (pe_bltn (v := .ty "str") rfl B.str (by decide +kernel) rfl) pa_nil))))))))) (pss_one (ps_ret pe_non)) pss_nil)
  (pss_cons (ps_set (i := 1) sc__parts_of.nd rfl (Or.inl rfl) (pe_ix (ixT K) (pv 0) pe_int (fun _ _ => rfl)))
  (pss_cons (ps_if (pt_cmpR op_eq (pv 1) pe_str (nomark _)) (pss_one (ps_ret (pe_ifExp (PW.pt (pw_and (pt_cmpR op_eq (pe_callB (lenS K) (by rfl) B.len (by decide +kernel) (pa_cons (pv 0) pa_nil)) pe_int (nomark _)) (pw_and1 (pt_val (pe_call G_is_whole (hr.mono (by decide)) rfl m_is_whole k_is_whole b_is_whole .nil pass0 (pa_cons (pe_ix (ixT K) (pv 0) pe_int (fun _ _ => rfl)) pa_nil)))))) (pe_tup pa_nil) pe_non))) pss_nil)
  (pss_cons (ps_if (pt_cmpR op_eq (pv 1) pe_str (nomark _)) (pss_one (ps_ret (pe_ifExp (pt_cmpR op_eq (pe_callB (lenS K) (by rfl) B.len (by decide +kernel) (pa_cons (pv 0) pa_nil)) pe_int (nomark _)) (pe_slice sl_tup (pv 0) (po_some pe_int) po_none) pe_non))) pss_nil)
  (pss_cons (ps_if (pt_not (pt_val (pe_callB (isiK K) (by rfl) B.isinstance (by decide +kernel) (pa_cons (pe_ix (ixT K) (pv 0) (pe_un un_neg pe_int) (fun _ _ => rfl)) (pa_cons (pe_bltn (v := .ty "tuple") rfl B.tuple (by decide +kernel) rfl) pa_nil))))) (pss_one (ps_ret pe_non)) pss_nil)
  (pss_cons (ps_if (pt_cmpR op_eq (pv 1) pe_str (nomark _)) (pss_one (ps_ret (pe_ifExp (PW.pt (pw_and (pt_cmpR op_eq (pe_callB (lenS K) (by rfl) B.len (by decide +kernel) (pa_cons (pv 0) pa_nil)) pe_int (nomark _)) (pw_and1 (pt_cmpR op_ne (pe_callB (lenS K) (by rfl) B.len (by decide +kernel) (pa_cons (pe_ix (ixT K) (pv 0) pe_int (fun _ _ => rfl)) pa_nil)) pe_int (nomark _))))) (pe_ix (ixT K) (pv 0) pe_int (fun _ _ => rfl)) pe_non))) pss_nil)
  (pss_cons (ps_if (PW.pt (pw_and (pt_cmpR op_eq (pv 1) pe_str (nomark _)) (pw_and (pt_cmpR op_eq (pe_callB (lenS K) (by rfl) B.len (by decide +kernel) (pa_cons (pv 0) pa_nil)) pe_int (nomark _)) (pw_and (pt_val (pe_call G_is_integer (hr.mono (by decide)) rfl m_is_integer k_is_integer b_is_integer .nil pass0 (pa_cons (pe_ix (ixT K) (pv 0) pe_int (fun _ _ => rfl)) pa_nil))) (pw_and1 (pt_cmpR op_gt (pe_ix (ixT K) (pv 0) pe_int (fun _ _ => rfl)) pe_int (nomark _))))))) (pss_one (ps_ret (pe_ix (ixT K) (pv 0) pe_int (fun _ _ => rfl)))) pss_nil)
  (pss_one (ps_ret pe_non))))))))), ?_⟩
  obtain ⟨a, xs, rfl, ⟨r, hS, hR⟩, hK⟩ := hT.out
  have i0 : atI (V.str T.lab.word :: r) 0 = some (V.str T.lab.word) := atI_nat (j := 0) rfl
  have hl := hR.len1
  have hlt : decide ((((V.str T.lab.word :: r).length : Nat) : Int) < 2) = false := by
    rw [List.length_cons]
    exact decide_eq_false (by omega)
  refine ⟨_, rfl, _, _, _, _, true, rfl, .ty _, tyx_tup hS, kit_ty (by decide +kernel), _, rfl, iteF ?_⟩
  refine ⟨_, rfl, a, _, rfl, .inr hS, _, _, rfl, rfl, _, rfl, ?_⟩
  rw [hlt]
  refine iteF ⟨_, rfl, a, _, _, _, rfl, rfl, hS, i0, _, _, _, _, true, rfl, .ty _, .base (.str _), kit_ty (by decide +kernel), _, rfl, iteF ?_⟩
  refine ⟨_, rfl, a, _, _, _, rfl, rfl, hS, i0, ?_⟩
  refine ⟨_, rfl, rfl, _, rfl, ?_⟩
  rw [w_var]
  obtain ⟨l, ts⟩ := T
  cases l with
  | var n =>
    obtain ⟨rfl, rfl⟩ := hR
    obtain ⟨h0, hn⟩ := hL
    refine iteT ⟨_, rfl, a, _, rfl, .inr hS, rfl, _, rfl, iteT ⟨_, rfl, a, _, _, _, rfl, rfl, hS, atI_nat (j := 1) rfl, ?_⟩⟩
    refine ⟨(n : Int), rfl, by omega, hn, _, rfl, iteT ⟨by show 0 ≤ sizeLine; decide, fun t ht => ?_⟩⟩
    exact q _ t [] (same_upd ht _) sq_new (hK.mono (tups_of (same_upd ht _)))
  | fn =>
    obtain ⟨rfl, h2⟩ := hR
    refine iteF ⟨_, rfl, rfl, _, rfl, iteT ?_⟩
    match xs, h2 with
    | [x, y], _ =>
      refine ⟨_, rfl, a, _, rfl, .inr hS, rfl, _, rfl, iteT ?_⟩
      refine ⟨_, rfl, _, rfl, a, _, rfl, hS, (show ¬ (HT.sIx 3 0 (some 1) = 0 ∧ HT.sIx 3 3 none = 3) by decide), fun t ht => ?_⟩
      exact q _ t [x, y] (same_upd ht _) sq_new (hK.mono (tups_of (same_upd ht _)))
  | tup =>
    obtain ⟨b, rfl, hb⟩ := hR
    refine iteF ⟨_, rfl, rfl, _, rfl, iteF ?_⟩
    refine ⟨_, rfl, _, rfl, a, _, _, _, rfl, rfl, hS, rfl, _, _, _, _, true, rfl, .ty _, tyx_tup hb, kit_ty (by decide +kernel), _, rfl, iteF ?_⟩
    refine ⟨_, rfl, rfl, _, rfl, iteT ?_⟩
    have e1 : (!decide (V.int ((xs.length : Nat) : Int) = V.int 1)) = true := by
      have hne : ¬ V.int ((xs.length : Nat) : Int) = V.int 1 := by
        intro e
        injection e with e
        have := hK.len
        exact hL (by show ts.length = 1; have : xs.length = ts.length := this; omega)
      rw [decide_eq_false hne]
      rfl
    refine ⟨_, rfl, a, _, rfl, .inr hS, rfl, _, rfl, iteT ⟨_, rfl, a, _, _, _, rfl, rfl, hS, atI_nat (j := 1) rfl, b, _, rfl, .inr hb, rfl, _, rfl, ?_⟩⟩
    rw [e1]
    refine iteT ⟨_, rfl, a, _, _, _, rfl, rfl, hS, atI_nat (j := 1) rfl, ?_⟩
    exact q _ b xs (Same.refl _) hb hK
  | made n =>
    obtain ⟨b, rfl, hb⟩ := hR
    obtain ⟨hn0, hn1, _⟩ := hL
    refine iteF ⟨_, rfl, rfl, _, rfl, iteF ?_⟩
    refine ⟨_, rfl, _, rfl, a, _, _, _, rfl, rfl, hS, rfl, _, _, _, _, true, rfl, .ty _, tyx_tup hb, kit_ty (by decide +kernel), _, rfl, iteF ?_⟩
    refine ⟨_, rfl, rfl, _, rfl, iteF ?_⟩
    refine ⟨_, rfl, rfl, _, rfl, iteT ⟨_, rfl, a, _, rfl, .inr hS, rfl, _, rfl, iteT ?_⟩⟩
    refine ⟨_, rfl, a, _, _, _, rfl, rfl, hS, atI_nat (j := 1) rfl, ?_⟩
    refine ⟨(n : Int), rfl, by omega, hn1, _, rfl, iteT ?_⟩
    refine ⟨_, rfl, a, _, _, _, rfl, rfl, hS, atI_nat (j := 1) rfl, _, _, rfl, rfl, _, rfl, ?_⟩
    rw [decide_eq_true (show (n : Int) > 0 by omega)]
    refine iteT ⟨_, rfl, a, _, _, _, rfl, rfl, hS, atI_nat (j := 2) rfl, ?_⟩
    exact q _ b xs (Same.refl _) hb hK
end
end Lq
namespace Lq
open PySem L2
def PairOk (K : PySem.W.Frag) (H : Hp) (ar : List Nat) (v : V) : Prop := ∃ (p : Addr) (s n : Nat), v = .ref p ∧ SqT K H p [.int (s : Int), .int (n : Int)] ∧ 0 < s ∧ ar[s - 1]? = some n
theorem PairOk.mono {K : PySem.W.Frag} {H H' : Hp} {ar : List Nat} {v : V} (e : Tups K H H') (h : PairOk K H ar v) : PairOk K H' ar v := by
  obtain ⟨p, s, n, h1, h2, h3⟩ := h
  exact ⟨p, s, n, h1, e _ _ h2, h3⟩
section
variable {P : Program} {w : World} {K : PySem.W.Frag} {mg : Str → Option Value} {base : Heap}
abbrev s__made_in : Stmt := top 27
theorem sc__made_in : FnScope ["value", "found", "todo", "size", "part", "parts"] ["value"] (defScope s__made_in) := ⟨rfl, rfl, rfl, by decide +kernel, rfl, by decide +kernel, by decide +kernel⟩
def spMade (K : PySem.W.Frag) : Sp := fun vs H Q _ => ∃ (T : Ty) (v : V) (ar : List Nat), vs = [v] ∧ TyH K H T v ∧ T.Ok ar ∧ T.sz ≤ 300 ∧
  ∀ (H' : Hp) (p : Addr) (xs : List V), Same H H' → H' p = some (.lst xs) → (∀ x ∈ xs, PairOk K H' ar x) → xs.length ≤ 300 → Q (.ref p) H'
theorem ok_made_in (A : At K mg "_made_in" s__made_in ["value"]) (B : Bi mg) (C : Ct K mg) (D__parts_of : Has P w K mg base "_parts_of" ["value"] 3 (spParts K)) : Has P w K mg base "_made_in" ["value"] 4 (spMade K) := by
  refine .mk A fun f fd F => ?_
  refine F.ok sc__made_in (fun vs H Q E h => ?_) (fun cdv A outer s H vs Q E hr h => ?_)
  · obtain ⟨T, v, ar, rfl, _⟩ := h
    rfl
  obtain ⟨T, v, ar, rfl, hT, hok, hsz, q⟩ := h
  obtain ⟨f__parts_of, fd__parts_of, G__parts_of, b__parts_of, k__parts_of, m__parts_of⟩ := D__parts_of
  obtain ⟨tM, T_MAX_SIZE⟩ := C.MAX_SIZE
  refine ⟨_, (pss_cons (ps_set (i := 1) sc__made_in.nd rfl (Or.inl rfl) (pe_lst pa_nil))
  (pss_cons (ps_set (i := 2) sc__made_in.nd rfl (Or.inl rfl) (pe_lst (pa_cons (pv 0) pa_nil)))
  (pss_cons (ps_set (i := 3) sc__made_in.nd rfl (Or.inl rfl) pe_int)
  (pss_cons (ps_while PassesOwn.never (pt_truth (pv 2) (by intro _; rfl)) (pss_cons (ps_set (i := 4) sc__made_in.nd rfl (Or.inl rfl) (pe_bm0 PySem.F.plainAttrs_list PySem.F.slot_list_pop PySem.F.type_list_pop mt_pop (pv 2)))
  (pss_cons (ps_set (i := 5) sc__made_in.nd rfl (Or.inl rfl) (pe_call G__parts_of (hr.mono (by decide)) rfl m__parts_of k__parts_of b__parts_of .nil pass0 (pa_cons (pv 4) pa_nil)))
  (pss_cons (ps_aug (i := 3) sc__made_in.nd rfl (.inl rfl) pe_int ip_add)
  (pss_cons (ps_if (PW.pt (pw_or (pt_cmpR op_isN (pv 5) pe_non (nomark _)) (pw_or1 (pt_cmpR op_gt (pv 3) (pe_glob rfl T_MAX_SIZE r_int) (nomark _))))) (pss_one (ps_ret pe_non)) pss_nil)
  (pss_cons (ps_if (pt_cmpR op_eq (pe_ix (ixT K) (pv 4) pe_int (fun _ _ => rfl)) pe_str (nomark _)) (pss_one (ps_expr (pe_bm PySem.F.plainAttrs_list PySem.F.slot_list_append PySem.F.type_list_append mt_append (pv 1) (pa_cons (pe_tup (pa_cons (pe_ix (ixT K) (pv 4) pe_int (fun _ _ => rfl)) (pa_cons (pe_callB (lenS K) (by rfl) B.len (by decide +kernel) (pa_cons (pv 5) pa_nil)) pa_nil))) pa_nil)))) pss_nil)
  (pss_one (ps_expr (pe_bm PySem.F.plainAttrs_list PySem.F.slot_list_extend PySem.F.type_list_extend mt_extT (pv 2) (pa_cons (pv 5) pa_nil))))))))))
  (pss_one (ps_ret (pv 1))))))), ?_⟩
  refine ⟨Nat.zero_le _, fun fa ha => ?_⟩
  refine ⟨_, rfl, by show 1 ≤ sizeLine; decide, fun ta hb => ?_⟩
  have hfa : H fa = none := ha
  have hta : H ta = none := (same_upd ha _).free hb
  have nft : fa ≠ ta := by
    intro e
    rw [e, upd_same] at hb
    cases hb
  dsimp only [gName, tSeq, tAsg, tC]
  refine while_m (fun m σ H1 => ∃ (xs ys : List V) (tts : List Ty) (k : Nat) (x4 x5 : Option V), σ = [some v, some (.ref fa), some (.ref ta), some (.int (k : Int)), x4, x5] ∧ Same H H1 ∧ H1 fa = some (.lst xs) ∧
    (∀ x ∈ xs, PairOk K H1 ar x) ∧ xs.length ≤ k ∧ H1 ta = some (.lst ys) ∧ TysH K H1 tts ys ∧ (∀ t ∈ tts, t.Ok ar) ∧ k + Ty.szs tts = T.sz ∧ m = Ty.szs tts) (m := T.sz) ?_ ?_
    (fun σ H1 Q1 Q2 mo ⟨z, e, k, tk, qq⟩ => ⟨z, e, k, tk, mo _ _ qq⟩)
  · refine ⟨[], [v], [T], 0, none, none, rfl, same_set (same_upd ha _) hta _, by rw [upd_ne nft, upd_same], (fun x hx => nomatch hx), Nat.le_refl _, upd_same, .cons (hT.mono (tups_of (same_set (same_upd ha _) hta _))) .nil, ?_, ?_, ?_⟩
    · intro t ht
      rw [List.mem_singleton.mp ht]
      exact hok
    · rw [szs_cons, szs_nil]
      omega
    · rw [szs_cons, szs_nil]
      omega
  rintro m σ H1 ⟨xs, ys, tts, k, x4, x5, rfl, g, h1, p1, hxk, h2, k2, okk, ek, rfl⟩
  refine ⟨_, rfl, _, .inl ⟨ys, SqL.of h2, rfl⟩, ?_⟩
  by_cases hne : ys = []
  · subst hne
    exact iteF ⟨_, rfl, q H1 fa xs g h1 p1 (by omega)⟩
  · have ee : (!ys.isEmpty) = true := by
      cases ys with
      | nil => exact absurd rfl hne
      | cons _ _ => rfl
    rw [ee]
    refine iteT ?_
    obtain ⟨us, t, zs, y, rfl, rfl, ku, kt⟩ := k2.last hne
    rw [szs_app, szs_cons, szs_nil] at ek
    have okt : t.Ok ar := okk t (List.mem_append_right _ (List.mem_singleton_self _))
    have hk := kids_len t
    have hus := len_szs us
    have hlu := ku.len
    have hsk := t.sz_eq
    have hkl := len_szs t.kids
    refine ⟨_, rfl, .inl ⟨rfl, _, SqL.of h2⟩, ta, _, y, rfl, rfl, h2, last_at zs y, ?_⟩
    rw [drop_at]
    have t2 : Tups K H1 (upd H1 ta (.lst zs)) := tups_set h2 _
    have h1' : upd H1 ta (.lst zs) fa = some (.lst xs) := by rw [upd_ne nft]; exact h1
    refine ⟨_, rfl, t, y, ar, rfl, kt.mono t2, okt.loc, fun H3 c cs g3 hc hkc => ?_⟩
    have t3 := t2.trans (tups_of g3)
    have h3f : H3 fa = some (.lst xs) := g3 _ _ h1'
    have h3t : H3 ta = some (.lst zs) := g3 _ _ upd_same
    have hcl := hkc.len
    refine ⟨_, rfl, _, _, rfl, rfl, ?_⟩
    have hno : decide ((k : Int) + 1 > 300) = false := decide_eq_false (by omega)
    refine ⟨_, rfl, rfl, _, rfl, iteF ⟨_, rfl, _, _, rfl, rfl, _, rfl, ?_⟩⟩
    rw [hno]
    refine iteF ?_
    obtain ⟨a, ws, rfl, ⟨r, hS, hR⟩, _⟩ := (kt.mono t3).out
    have i0 : atI (V.str t.lab.word :: r) 0 = some (V.str t.lab.word) := atI_nat (j := 0) rfl
    refine ⟨_, rfl, a, _, _, _, rfl, rfl, hS, i0, rfl, _, rfl, ?_⟩
    rw [w_made]
    -- the rest of the turn, from a heap H4 at which the list at fa holds xs4
    have rest : ∀ (H4 : Hp) (xs4 : List V), Same H H4 → Tups K H3 H4 → H4 fa = some (.lst xs4) → (∀ x ∈ xs4, PairOk K H4 ar x) → xs4.length ≤ k + 1 → H4 ta = some (.lst zs) →
        ∃ m', m' < Ty.szs us + t.sz ∧ ∃ (xs ys : List V) (tts : List Ty) (k' : Nat) (y4 y5 : Option V), [some v, some (V.ref fa), some (V.ref ta), some (V.int ((k : Int) + 1)), some (V.ref a), some (V.ref c)] = [some v, some (.ref fa), some (.ref ta), some (.int (k' : Int)), y4, y5] ∧
          Same H (upd H4 ta (.lst (zs ++ cs))) ∧ (upd H4 ta (.lst (zs ++ cs))) fa = some (.lst xs) ∧ (∀ x ∈ xs, PairOk K (upd H4 ta (.lst (zs ++ cs))) ar x) ∧ xs.length ≤ k' ∧ (upd H4 ta (.lst (zs ++ cs))) ta = some (.lst ys) ∧
          TysH K (upd H4 ta (.lst (zs ++ cs))) tts ys ∧ (∀ t ∈ tts, t.Ok ar) ∧ k' + Ty.szs tts = T.sz ∧ m' = Ty.szs tts := by
      intro H4 xs4 g4 t34 h4f p4 hx4 h4t
      have t5 : Tups K H4 (upd H4 ta (.lst (zs ++ cs))) := tups_set h4t _
      refine ⟨Ty.szs us + Ty.szs t.kids, by omega, xs4, zs ++ cs, us ++ t.kids, k + 1, _, _, rfl, same_set g4 hta _, by rw [upd_ne nft]; exact h4f, fun x hx => (p4 x hx).mono t5, hx4, upd_same, ?_, ?_, ?_, ?_⟩
      · exact (ku.mono (t3.trans (t34.trans t5))).app (hkc.mono (t34.trans t5))
      · intro u hu
        rcases List.mem_append.mp hu with h | h
        · exact okk u (List.mem_append_left _ h)
        · exact okt.kid h
      · rw [szs_app]
        omega
      · rw [szs_app]
    have gH3 : Same H H3 := (same_set g hta _).trans g3
    cases hm : t.lab.isMade with
    | false =>
      refine iteF ⟨_, rfl, .inl ⟨rfl, _, SqL.of h3t⟩, _, rfl, ta, c, zs, cs, rfl, rfl, h3t, hc, small300 (by omega), ?_⟩
      have := rest H3 xs gH3 .refl h3f (fun x hx => (p1 x hx).mono t3) (by omega) h3t
      rw [szs_app, szs_cons, szs_nil]
      exact this
    | true =>
      obtain ⟨l, ts⟩ := t
      cases l with
      | var n => cases hm
      | fn => cases hm
      | tup => cases hm
      | made n =>
        obtain ⟨b, rfl, hb'⟩ := hR
        obtain ⟨hn0, hn1, hn2⟩ := okt.loc
        refine iteT ⟨_, rfl, .inl ⟨rfl, _, SqL.of h3f⟩, _, rfl, a, _, _, _, rfl, rfl, hS, atI_nat (j := 1) rfl, _, rfl, c, _, rfl, .inr hc, by show 2 ≤ sizeLine; decide, fun p hp => ?_⟩
        have g4 := same_upd hp (.tup [V.int (n : Int), V.int ((cs.length : Nat) : Int)])
        refine ⟨fa, xs, _, rfl, rfl, g4 _ _ h3f, small1000 (by omega), ?_⟩
        have h4t : upd (upd H3 p (.tup [V.int (n : Int), V.int ((cs.length : Nat) : Int)])) fa (.lst (xs ++ [V.ref p])) ta = some (.lst zs) := by
          rw [upd_ne nft.symm]
          exact g4 _ _ h3t
        have t34 : Tups K H3 (upd (upd H3 p (.tup [V.int (n : Int), V.int ((cs.length : Nat) : Int)])) fa (.lst (xs ++ [V.ref p]))) := (tups_of g4).trans (tups_set (g4 _ _ h3f) _)
        refine ⟨_, rfl, .inl ⟨rfl, _, SqL.of h4t⟩, _, rfl, ta, c, zs, cs, rfl, rfl, h4t, t34 _ _ hc, small300 (by omega), ?_⟩
        have := rest _ (xs ++ [V.ref p]) (same_set (gH3.trans g4) hfa _) t34 upd_same ?_ ?_ h4t
        · rw [szs_app, szs_cons, szs_nil]
          exact this
        · intro x hx
          rcases List.mem_append.mp hx with h | h
          · exact (p1 x h).mono (t3.trans t34)
          · rw [List.mem_singleton.mp h]
            refine ⟨p, n, cs.length, rfl, tups_set (g4 _ _ h3f) _ _ _ sq_new, hn0, ?_⟩
            rw [hcl]
            exact hn2
        · rw [List.length_append, List.length_singleton]
          omega
end
end Lq
namespace Lq
open PySem L2
def natV (ns : List Nat) : List V := ns.map fun (n : Nat) => V.int (n : Int)
theorem natV_get {ns : List Nat} {i n : Nat} (h : ns[i]? = some n) : (natV ns)[i]? = some (V.int (n : Int)) := by
  unfold natV
  rw [List.getElem?_map, h]
  rfl
theorem natV_len (ns : List Nat) : (natV ns).length = ns.length := List.length_map _
/-- behind i turns of a comprehension that makes a True each turn, from the heap H1 on, D its list -/
def AllInv (H1 : Hp) (D : Addr) (i : Nat) (H : Hp) : Prop := Same H1 H ∧ H D = some (.lst ((List.replicate i true).map V.bl))
theorem AllInv.start {H1 : Hp} {D : Addr} (h : H1 D = none) : AllInv H1 D 0 (upd H1 D (.lst [])) := ⟨same_upd h _, upd_same⟩
theorem AllInv.step {H1 H4 : Hp} {D : Addr} {i : Nat} (h : H1 D = none) (hi : i < 2000) (a : AllInv H1 D i H4) :
    ∃ acc, H4 D = some (.lst acc) ∧ acc.length < sizeLine ∧ AllInv H1 D (i + 1) (upd H4 D (.lst (acc ++ [.bl true]))) := by
  refine ⟨_, a.2, ?_, same_set a.1 h _, ?_⟩
  · rw [List.length_map, List.length_replicate]
    exact Nat.lt_of_lt_of_le hi (by decide)
  · rw [upd_same, List.replicate_succ', List.map_append]
    rfl
theorem AllInv.call {H1 H4 H5 : Hp} {D : Addr} {i : Nat} (a : AllInv H1 D i H4) (g : Same H4 H5) : AllInv H1 D i H5 := ⟨a.1.trans g, g _ _ a.2⟩
theorem all_rep : ∀ (n : Nat), (List.replicate n true).all id = true
  | 0 => rfl
  | n + 1 => by rw [List.replicate_succ, List.all_cons, all_rep n]; rfl
theorem lt_of_get {α : Type} {xs : List α} {i : Nat} {x : α} (h : xs[i]? = some x) : i < xs.length := (List.getElem?_eq_some_iff.mp h).1
section
variable {P : Program} {w : World} {K : PySem.W.Frag} {mg : Str → Option Value} {base : Heap}
abbrev s_is_shape : Stmt := top 28
theorem sc_is_shape : FnScope ["value", "arities", "found", "stamp", "many"] ["value", "arities"] (defScope s_is_shape) := ⟨rfl, rfl, rfl, by decide +kernel, rfl, by decide +kernel, by decide +kernel⟩
def spShape (K : PySem.W.Frag) : Sp := fun vs H Q _ => ∃ (T : Ty) (v : V) (b : Addr) (ar : List Nat), vs = [v, .ref b] ∧ TyH K H T v ∧ T.Ok ar ∧ T.sz ≤ 300 ∧ SqT K H b (natV ar) ∧
  ∀ (H' : Hp), Same H H' → Q (.bl true) H'
theorem ok_is_shape (A : At K mg "is_shape" s_is_shape ["value", "arities"]) (B : Bi mg) (D__made_in : Has P w K mg base "_made_in" ["value"] 4 (spMade K)) : Has P w K mg base "is_shape" ["value", "arities"] 5 (spShape K) := by
  refine .mk A fun f fd F => ?_
  refine F.ok sc_is_shape (fun vs H Q E h => ?_) (fun cdv A outer s H vs Q E hr h => ?_)
  · obtain ⟨T, v, b, ar, rfl, _⟩ := h
    rfl
  obtain ⟨T, v, b, ar, rfl, hT, hok, hsz, hb, q⟩ := h
  obtain ⟨f__made_in, fd__made_in, G__made_in, b__made_in, k__made_in, m__made_in⟩ := D__made_in
  refine ⟨_, (pss_cons (ps_set (i := 2) sc_is_shape.nd rfl (Or.inl rfl) (pe_call G__made_in (hr.mono (by decide)) rfl m__made_in k__made_in b__made_in .nil pass0 (pa_cons (pv 0) pa_nil)))
  (pss_one (ps_ret (pe_and (pe_cmpR op_notN (pv 2) pe_non (nomark _)) (pe_one (pe_callB (cr_all rfl) (by rfl) B.all (by decide +kernel) (pa_cons (pe_lc (own := [("stamp", 3), ("many", 4)]) (g := gTup _ 2 (gCons (gName 3) (gCons (gName 4) gNil))) (tt := tYes) (by rfl) sc_is_shape.nd (pi_list (pv 2)) (blkOk_by (N := ["value", "arities", "found", "stamp", "many"]) (sc := defScope s_is_shape) (by decide +kernel)) (fun _ _ _ _ _ => (pg_tup rfl (pgs_cons (pg_name (i := 3) sc_is_shape.nd rfl (Or.inl rfl)) (pgs_cons (pg_name (i := 4) sc_is_shape.nd rfl (Or.inl rfl)) pgs_nil)))) (fun _ _ _ _ _ => pts_nil) (fun _ _ _ _ _ => (pe_and (pe_cmpR op_le (pv 3) (pe_callB (lenS K) (by rfl) B.len (by decide +kernel) (pa_cons (pv 1) pa_nil)) (nomark _)) (pe_one (pe_cmpR op_eq (pe_ix (ixT K) (pv 1) (pe_op op_sub (pv 3) pe_int) (fun _ _ => rfl)) (pv 4) (nomark _)))))) pa_nil))))))), ?_⟩
  refine ⟨_, rfl, T, v, ar, rfl, hT, hok, hsz, fun H2 p xs g2 hp px hl => ?_⟩
  refine ⟨_, rfl, rfl, _, rfl, iteT ?_⟩
  refine ⟨_, rfl, p, rfl, ⟨xs, SqL.of hp⟩, fun D hD => lc_list (K := K) (a := p) (xs := xs) (AllInv H2 D) (.start hD) (fun i H3 _ a => SqL.of (a.1 _ _ hp)) ?_ ?_⟩
  · intro i x H3 hx a
    obtain ⟨c, st, n, rfl, hc, h0, hn⟩ := px x (List.mem_of_getElem? hx)
    have hb3 := tups_of (g2.trans a.1) _ _ hb
    have hc3 := tups_of a.1 _ _ hc
    have hlt := lt_of_get hn
    refine ⟨c, _, rfl, hc3, rfl, _, _, rfl, _, _, rfl, rfl, rfl, _, rfl, _, rfl, b, _, rfl, .inr hb3, _, _, rfl, rfl, _, rfl, ?_⟩
    rw [show decide ((st : Int) ≤ (((natV ar).length : Nat) : Int)) = true from decide_eq_true (by rw [natV_len]; omega)]
    refine iteT ⟨_, rfl, _, rfl, _, _, rfl, rfl, b, _, _, _, rfl, rfl, hb3, at_of (j := st - 1) (by omega) (natV_get hn), _, rfl, rfl, ?_⟩
    have e : decide (V.int (n : Int) = V.int (n : Int)) = true := decide_eq_true rfl
    rw [e]
    exact a.step hD (by have := lt_of_get hx; omega)
  · intro H3 a
    refine ⟨D, List.replicate xs.length true, rfl, SqL.of a.2, ?_⟩
    rw [all_rep]
    exact q H3 (g2.trans a.1)
end
end Lq
namespace Lq
open PySem L2
def Lab.num : Lab → Option Nat
  | .var n => some n | _ => none
def Ty.vars (T : Ty) : List Nat := T.pre.filterMap fun t => t.lab.num
def keysT (ns : List Nat) : List (Key × V) := ns.map fun (n : Nat) => (Sum.inl (n : Int), V.bl true)
theorem keysT_any (ns : List Nat) (n : Nat) : ((keysT ns).any fun kv => decide (kv.1 = (Sum.inl (n : Int) : Key))) = decide (n ∈ ns) := by
  induction ns with
  | nil => rfl
  | cons m r ih =>
    show (decide ((Sum.inl (m : Int) : Key) = Sum.inl (n : Int)) || (keysT r).any _) = _
    rw [ih]
    by_cases h : m = n
    · subst h
      simp
    · have h1 : ¬ ((Sum.inl (m : Int) : Key) = Sum.inl (n : Int)) := by
        intro e
        injection e with e
        exact h (by omega)
      rw [decide_eq_false h1, Bool.false_or]
      exact decide_eq_decide.mpr ⟨fun q => List.mem_cons_of_mem _ q, fun q => by
        rcases List.mem_cons.mp q with e | q
        · exact absurd e.symm h
        · exact q⟩
theorem keysT_put (ns : List Nat) (n : Nat) : putK (keysT ns) (Sum.inl (n : Int)) (.bl true) = keysT (if n ∈ ns then ns else ns ++ [n]) := by
  unfold putK
  rw [keysT_any]
  by_cases h : n ∈ ns
  · rw [decide_eq_true h, if_pos rfl, if_pos h]
    unfold keysT
    rw [List.map_map]
    refine List.map_congr_left fun m _ => ?_
    show (if (Sum.inl (m : Int) : Key) = Sum.inl (n : Int) then ((Sum.inl (m : Int) : Key), V.bl true) else (Sum.inl (m : Int), V.bl true)) = (Sum.inl (m : Int), V.bl true)
    split <;> rfl
  · rw [decide_eq_false h, if_neg Bool.false_ne_true, if_neg h]
    unfold keysT
    rw [List.map_append]
    rfl
theorem keysT_keys (ns : List Nat) : ((keysT ns).map fun kv => kV kv.1) = natV ns := by
  unfold keysT natV
  rw [List.map_map]
  rfl
theorem keysT_len (ns : List Nat) : (keysT ns).length = ns.length := List.length_map _
theorem take_snoc {α : Type} {xs : List α} {i : Nat} {x : α} (h : xs[i]? = some x) : xs.take (i + 1) = xs.take i ++ [x] := by
  rw [List.take_add_one, h]
  rfl
section
variable {P : Program} {w : World} {K : PySem.W.Frag} {mg : Str → Option Value} {base : Heap}
abbrev s_variables_in : Stmt := top 31
theorem sc_variables_in : FnScope ["T", "found", "part"] ["T"] (defScope s_variables_in) := ⟨rfl, rfl, rfl, by decide +kernel, rfl, by decide +kernel, by decide +kernel⟩
def spVars (K : PySem.W.Frag) : Sp := fun vs H Q _ => ∃ (T : Ty) (v : V), vs = [v] ∧ TyH K H T v ∧ T.sz ≤ 1000 ∧
  ∀ (H' : Hp) (p : Addr) (ns : List Nat), Same H H' → SqT K H' p (natV ns) → (∀ n, n ∈ ns ↔ n ∈ T.vars) → ns.length ≤ 1000 → Q (.ref p) H'
theorem ok_variables_in (A : At K mg "variables_in" s_variables_in ["T"]) (B : Bi mg) (D_nodes_of : Has P w K mg base "nodes_of" ["T"] 2 (spNodes K)) : Has P w K mg base "variables_in" ["T"] 3 (spVars K) := by
  refine .mk A fun f fd F => ?_
  refine F.ok sc_variables_in (fun vs H Q E h => ?_) (fun cdv A outer s H vs Q E hr h => ?_)
  · obtain ⟨T, v, rfl, _⟩ := h
    rfl
  obtain ⟨T, v, rfl, hT, hsz, q⟩ := h
  obtain ⟨f_nodes_of, fd_nodes_of, G_nodes_of, b_nodes_of, k_nodes_of, m_nodes_of⟩ := D_nodes_of
  refine ⟨_, (pss_cons (ps_setDc (i := 1) (own := [("part", 2)]) (g := gName 2) (tt := _) (by rfl) sc_variables_in.nd rfl rfl (sw_dict rfl rfl rfl (by decide +kernel)) (pi_list (pe_call G_nodes_of (hr.mono (by decide)) rfl m_nodes_of k_nodes_of b_nodes_of .nil pass0 (pa_cons (pv 0) pa_nil))) (blkOk_by (N := ["T", "found", "part"]) (sc := defScope s_variables_in) (by decide +kernel)) (fun _ _ _ _ _ => (pg_name (i := 2) sc_variables_in.nd rfl (Or.inl rfl))) (fun _ _ _ _ _ => (pts_one (pt_cmpR op_eq (pe_ix (ixT K) (pv 2) pe_int (fun _ _ => rfl)) pe_str (nomark _)))) (fun _ _ _ _ _ => (pe_ix (ixT K) (pv 2) pe_int (fun _ _ => rfl))) (fun _ _ _ _ _ => pe_bl))
  (pss_one (ps_ret (pe_callTy (tuple_dK rfl) (by rfl) B.tuple (by decide +kernel) (pa_cons (pv 1) pa_nil))))), ?_⟩
  refine ⟨_, rfl, T, v, rfl, hT, hsz, fun H2 p xs g2 _ hp hx => ?_⟩
  have hxl := hx.len
  rw [pre_len] at hxl
  refine ⟨p, rfl, ⟨xs, SqL.of hp⟩, fun D hD => dc_list (K := K) (a := p) (xs := xs)
    (fun i H3 => Same H2 H3 ∧ ∃ ns : List Nat, H3 D = some (.dK (keysT ns)) ∧ (∀ n, n ∈ ns ↔ n ∈ (T.pre.take i).filterMap fun t => t.lab.num) ∧ ns.length ≤ i) ?_ (fun i H3 _ a => SqL.of (a.1 _ _ hp)) ?_ ?_⟩
  · exact ⟨same_upd hD _, [], upd_same, fun n => by simp, Nat.le_refl _⟩
  · rintro i x H3 hix ⟨g3, ns, hd, hm, hl⟩
    obtain ⟨t, hti, ht⟩ := hx.get hix
    have hlt := lt_of_get hix
    obtain ⟨a, ws, rfl, ⟨r, hS, hR⟩, _⟩ := (ht.mono (tups_of g3)).out
    have i0 : atI (V.str t.lab.word :: r) 0 = some (V.str t.lab.word) := atI_nat (j := 0) rfl
    have hnext : ∀ n, n ∈ (T.pre.take (i + 1)).filterMap (fun t => t.lab.num) ↔ n ∈ (T.pre.take i).filterMap (fun t => t.lab.num) ∨ t.lab.num = some n := by
      intro n
      rw [take_snoc hti, List.filterMap_append, List.mem_append]
      refine or_congr Iff.rfl ?_
      rw [List.mem_filterMap]
      exact ⟨fun ⟨u, hu, e⟩ => by rw [List.mem_singleton.mp hu] at e; exact e, fun e => ⟨t, List.mem_singleton_self t, e⟩⟩
    refine ⟨rfl, _, rfl, a, _, _, _, rfl, rfl, hS, i0, rfl, _, rfl, ?_⟩
    rw [w_var]
    obtain ⟨l, ts⟩ := t
    cases l with
    | var n =>
      obtain ⟨_, rfl⟩ := hR
      refine iteT ⟨_, rfl, a, _, _, _, rfl, rfl, hS, atI_nat (j := 1) rfl, keysT ns, Sum.inl (n : Int), rfl, hd, by rw [keysT_len]; exact small1000 (by omega), same_set g3 hD _, if n ∈ ns then ns else ns ++ [n], by rw [upd_same, keysT_put], ?_, ?_⟩
      · intro m
        rw [hnext]
        by_cases h : n ∈ ns
        · rw [if_pos h, hm]
          refine ⟨.inl, fun o => o.elim id fun e => ?_⟩
          have e : some n = some m := e
          injection e with e
          subst e
          exact (hm n).mp h
        · rw [if_neg h, List.mem_append, hm, List.mem_singleton]
          refine or_congr Iff.rfl ?_
          show m = n ↔ some n = some m
          exact ⟨fun e => by rw [e], fun e => by injection e with e; exact e.symm⟩
      · split
        · omega
        · rw [List.length_append, List.length_singleton]
          omega
    | _ =>
      refine iteF ⟨g3, ns, hd, fun m => ?_, by omega⟩
      rw [hnext, hm]
      refine ⟨.inl, fun o => o.elim id fun e => ?_⟩
      cases e
  · rintro H3 ⟨g3, ns, hd, hm, hl⟩
    refine ⟨_, rfl, D, keysT ns, rfl, hd, fun q1 hq1 => ?_⟩
    rw [keysT_keys]
    refine q _ q1 ns ((g2.trans g3).trans (same_upd hq1 _)) sq_new (fun n => ?_) (by omega)
    rw [hm, List.take_of_length_le (by rw [pre_len, hxl]; exact Nat.le_refl _)]
    exact Iff.rfl
end
end Lq
namespace Lq
open PySem L2
/-! ### putting in -/
mutual
def Ty.sub (σ : Nat → Ty) : Ty → Ty
  | .node l ts => match l.num with
    | some n => σ n
    | none => .node l (Ty.subs σ ts)
def Ty.subs (σ : Nat → Ty) : List Ty → List Ty
  | [] => []
  | t :: r => Ty.sub σ t :: Ty.subs σ r
end
theorem subs_nil (σ : Nat → Ty) : Ty.subs σ [] = [] := by rw [Ty.subs]
theorem subs_cons (σ : Nat → Ty) (t : Ty) (r : List Ty) : Ty.subs σ (t :: r) = t.sub σ :: Ty.subs σ r := by rw [Ty.subs]
theorem subs_map (σ : Nat → Ty) : ∀ (ts : List Ty), Ty.subs σ ts = ts.map (Ty.sub σ)
  | [] => subs_nil σ
  | t :: r => by rw [subs_cons, subs_map σ r]; rfl
theorem sub_var (σ : Nat → Ty) {T : Ty} {n : Nat} (h : T.lab.num = some n) : T.sub σ = σ n := by
  cases T with
  | node l ts =>
    have h : l.num = some n := h
    rw [Ty.sub, h]
theorem sub_node (σ : Nat → Ty) {T : Ty} (h : T.lab.num = none) : T.sub σ = .node T.lab (Ty.subs σ T.kids) := by
  cases T with
  | node l ts =>
    have h : l.num = none := h
    rw [Ty.sub, h]
    rfl
/-- the size that the parts of a list have together, if variables have these sizes -/
def wsum (f : Nat → Nat) (ts : List Ty) : Nat := (ts.map fun t => match t.lab.num with | some n => f n | none => 1).sum
theorem wsum_nil (f : Nat → Nat) : wsum f [] = 0 := rfl
theorem wsum_cons (f : Nat → Nat) (t : Ty) (r : List Ty) : wsum f (t :: r) = (match t.lab.num with | some n => f n | none => 1) + wsum f r := by
  unfold wsum
  rw [List.map_cons, List.sum_cons]
theorem wsum_app (f : Nat → Nat) : ∀ (a b : List Ty), wsum f (a ++ b) = wsum f a + wsum f b
  | [], b => by rw [List.nil_append, wsum_nil, Nat.zero_add]
  | t :: a, b => by rw [List.cons_append, wsum_cons, wsum_cons, wsum_app f a b, Nat.add_assoc]
/-- variables have no parts -/
def Ty.Leafy (T : Ty) : Prop := ∀ t ∈ T.pre, t.lab.num ≠ none → t.kids = []
theorem Ty.Leafy.kid {T t : Ty} (h : T.Leafy) (m : t ∈ T.kids) : t.Leafy := fun u hu => h u (by rw [pre_eq]; exact List.mem_cons_of_mem _ (mem_pres m hu))
theorem Ty.Ok.leafy {ar : List Nat} {T : Ty} (h : T.Ok ar) : T.Leafy := fun t ht hn => by
  have q := h t ht
  cases e : t.lab with
  | var m =>
    rw [e] at q
    exact List.eq_nil_of_length_eq_zero q.1
  | _ => rw [e] at hn; exact absurd rfl hn
mutual
theorem wsum_sub (σ : Nat → Ty) (f : Nat → Nat) (hf : ∀ n, f n = (σ n).sz) : ∀ (T : Ty), T.Leafy → wsum f T.pre = (T.sub σ).sz
  | .node l ts, h => by
    rw [Ty.pre, wsum_cons]
    show (match l.num with | some n => f n | none => 1) + wsum f (Ty.pres ts) = _
    cases e : l.num with
    | some n =>
      have hk : ts = [] := h (.node l ts) (by rw [pre_eq]; exact List.mem_cons_self) (by show l.num ≠ none; rw [e]; exact fun z => nomatch z)
      subst hk
      rw [sub_var σ (T := .node l []) e, pres_nil, wsum_nil]
      exact hf n
    | none =>
      rw [sub_node σ (T := .node l ts) e, Ty.sz_eq]
      show 1 + _ = Ty.szs (Ty.subs σ ts) + 1
      rw [wsums_sub σ f hf ts fun t ht => h.kid (T := .node l ts) ht, Nat.add_comm]
theorem wsums_sub (σ : Nat → Ty) (f : Nat → Nat) (hf : ∀ n, f n = (σ n).sz) : ∀ (ts : List Ty), (∀ t ∈ ts, t.Leafy) → wsum f (Ty.pres ts) = Ty.szs (Ty.subs σ ts)
  | [], _ => by rw [pres_nil, subs_nil, szs_nil, wsum_nil]
  | t :: r, h => by
    rw [pres_cons, subs_cons, szs_cons, wsum_app, wsum_sub σ f hf t (h t List.mem_cons_self), wsums_sub σ f hf r fun u hu => h u (List.mem_cons_of_mem _ hu)]
end
/-! ### dicts by numbers -/
def kvOf (g : Nat → V) (ns : List Nat) : List (Key × V) := ns.map fun (n : Nat) => (Sum.inl (n : Int), g n)
theorem kvOf_any (g : Nat → V) (ns : List Nat) (n : Nat) : ((kvOf g ns).any fun kv => decide (kv.1 = (Sum.inl (n : Int) : Key))) = decide (n ∈ ns) := by
  have h := keysT_any ns n
  unfold keysT at h
  unfold kvOf
  rw [List.any_map] at h ⊢
  exact h
theorem kvOf_put (g : Nat → V) (ns : List Nat) (n : Nat) : putK (kvOf g ns) (Sum.inl (n : Int)) (g n) = kvOf g (if n ∈ ns then ns else ns ++ [n]) := by
  unfold putK
  rw [kvOf_any]
  by_cases h : n ∈ ns
  · rw [decide_eq_true h, if_pos rfl, if_pos h]
    unfold kvOf
    rw [List.map_map]
    refine List.map_congr_left fun m _ => ?_
    show (if (Sum.inl (m : Int) : Key) = Sum.inl (n : Int) then ((Sum.inl (m : Int) : Key), g n) else (Sum.inl (m : Int), g m)) = (Sum.inl (m : Int), g m)
    by_cases e : m = n
    · subst e
      rw [if_pos rfl]
    · rw [if_neg fun z => e (by injection z with z; omega)]
  · rw [decide_eq_false h, if_neg Bool.false_ne_true, if_neg h]
    unfold kvOf
    rw [List.map_append]
    rfl
theorem kvOf_len (g : Nat → V) (ns : List Nat) : (kvOf g ns).length = ns.length := List.length_map _
theorem kvOf_get (g : Nat → V) : ∀ (ns : List Nat) (n : Nat), n ∈ ns → valV (kvOf g ns) (Sum.inl (n : Int)) = some (g n)
  | [], n, h => nomatch h
  | m :: r, n, h => by
    unfold valV
    show Option.map (·.2) (List.find? (fun kv : Key × V => decide (kv.1 = Sum.inl (n : Int))) (((Sum.inl (m : Int) : Key), g m) :: kvOf g r)) = _
    rw [List.find?_cons]
    by_cases e : m = n
    · subst e
      rw [show decide (((Sum.inl (m : Int) : Key), g m).fst = Sum.inl (m : Int)) = true from decide_eq_true rfl]
      rfl
    · rw [show decide (((Sum.inl (m : Int) : Key), g m).fst = Sum.inl (n : Int)) = false from decide_eq_false fun z => e (by
        have z : (Sum.inl (m : Int) : Key) = Sum.inl (n : Int) := z
        injection z with z
        omega)]
      exact kvOf_get g r n ((List.mem_cons.mp h).resolve_left fun z => e z.symm)
theorem kvOf_at {g : Nat → V} {ns : List Nat} {i : Nat} {k : Key} {v : V} (h : (kvOf g ns)[i]? = some (k, v)) : ∃ n, ns[i]? = some n ∧ k = Sum.inl (n : Int) ∧ v = g n := by
  unfold kvOf at h
  rw [List.getElem?_map] at h
  cases e : ns[i]? with
  | none => rw [e] at h; cases h
  | some n =>
    rw [e] at h
    cases h
    exact ⟨n, rfl, rfl, rfl⟩
theorem tups_dk {K : PySem.W.Frag} {H : Hp} {t : Addr} {kvs : List (Key × V)} (h : H t = some (.dK kvs)) (o : HO) : Tups K H (upd H t o) := by
  intro a ys q
  rcases q with (q | ⟨u, q⟩) | q
  · exact .inl (.inl (by rw [upd_ne (ne_of q h (by intro z; cases z))]; exact q))
  · exact .inl (.inr ⟨u, by rw [upd_ne (ne_of q h (by intro z; cases z))]; exact q⟩)
  · exact .inr q
end Lq
namespace Lq
open PySem L2
/-! ### lists of values, one by one -/
def All2 {α : Type} (R : α → V → Prop) : List α → List V → Prop
  | [], xs => xs = []
  | e :: r, xs => ∃ x ys, xs = x :: ys ∧ R e x ∧ All2 R r ys
section
variable {α : Type} {R S : α → V → Prop}
theorem All2.len : ∀ {es : List α} {xs : List V}, All2 R es xs → xs.length = es.length
  | [], _, h => by rw [show _ = [] from h]; rfl
  | e :: r, _, h => by
    obtain ⟨x, ys, rfl, _, h2⟩ := h
    rw [List.length_cons, List.length_cons, All2.len h2]
theorem All2.mono (m : ∀ e x, R e x → S e x) : ∀ {es : List α} {xs : List V}, All2 R es xs → All2 S es xs
  | [], _, h => h
  | e :: r, _, h => by
    obtain ⟨x, ys, rfl, h1, h2⟩ := h
    exact ⟨x, ys, rfl, m _ _ h1, All2.mono m h2⟩
theorem All2.app : ∀ {es fs : List α} {xs ys : List V}, All2 R es xs → All2 R fs ys → All2 R (es ++ fs) (xs ++ ys)
  | [], fs, xs, ys, h, h' => by rw [show xs = [] from h]; exact h'
  | e :: r, fs, xs, ys, h, h' => by
    obtain ⟨x, zs, rfl, h1, h2⟩ := h
    exact ⟨x, zs ++ ys, rfl, h1, All2.app h2 h'⟩
theorem All2.one {e : α} {x : V} (h : R e x) : All2 R [e] [x] := ⟨x, [], rfl, h, rfl⟩
theorem All2.rev : ∀ {es : List α} {xs : List V}, All2 R es xs → All2 R es.reverse xs.reverse
  | [], _, h => by rw [show _ = [] from h]; rfl
  | e :: r, _, h => by
    obtain ⟨x, ys, rfl, h1, h2⟩ := h
    rw [List.reverse_cons, List.reverse_cons]
    exact (All2.rev h2).app (.one h1)
theorem All2.last {es : List α} {xs : List V} (h : All2 R es xs) (hne : xs ≠ []) : ∃ us t ys y, es = us ++ [t] ∧ xs = ys ++ [y] ∧ All2 R us ys ∧ R t y := by
  have r := h.rev
  cases e : es.reverse with
  | nil =>
    rw [e] at r
    exact absurd (by rw [← List.reverse_reverse xs, show xs.reverse = [] from r]; rfl) hne
  | cons t us =>
    rw [e] at r
    obtain ⟨y, ys, e2, h1, h2⟩ := r
    refine ⟨us.reverse, t, ys.reverse, y, ?_, ?_, h2.rev, h1⟩
    · rw [← List.reverse_reverse es, e, List.reverse_cons]
    · rw [← List.reverse_reverse xs, e2, List.reverse_cons]
end
theorem TysH.take {K : PySem.W.Frag} {H : Hp} : ∀ {ts : List Ty} {xs : List V} (k : Nat), TysH K H ts xs → TysH K H (ts.take k) (xs.take k)
  | _, _, 0, _ => by rw [List.take_zero, List.take_zero]; exact .nil
  | [], xs, k + 1, h => by rw [h.nil_inv]; exact .nil
  | t :: r, xs, k + 1, h => by
    obtain ⟨x, ys, rfl, h1, h2⟩ := h.cons_inv
    exact .cons h1 (TysH.take k h2)
theorem TysH.drop {K : PySem.W.Frag} {H : Hp} : ∀ {ts : List Ty} {xs : List V} (k : Nat), TysH K H ts xs → TysH K H (ts.drop k) (xs.drop k)
  | _, _, 0, h => h
  | [], xs, k + 1, h => by rw [h.nil_inv]; exact .nil
  | t :: r, xs, k + 1, h => by
    obtain ⟨x, ys, rfl, h1, h2⟩ := h.cons_inv
    exact TysH.drop k h2
/-! ### what is still to be done -/
def ev (σ : Nat → Ty) : List (Ty × Bool) → List Ty → Option (List Ty)
  | [], d => some d
  | (T, b) :: r, d => if T.lab.num ≠ none ∨ b = false then ev σ r (d ++ [T.sub σ])
    else if T.kids.length ≤ d.length then ev σ r (d.take (d.length - T.kids.length) ++ [.node T.lab (d.drop (d.length - T.kids.length))]) else none
theorem ev_done (σ : Nat → Ty) {T : Ty} {b : Bool} {r : List (Ty × Bool)} {d : List Ty} (h : T.lab.num ≠ none ∨ b = false) : ev σ ((T, b) :: r) d = ev σ r (d ++ [T.sub σ]) := by
  rw [ev, if_pos h]
theorem ev_kids (σ : Nat → Ty) : ∀ (ts : List Ty) (r : List (Ty × Bool)) (d : List Ty), ev σ (ts.map (fun t => (t, false)) ++ r) d = ev σ r (d ++ Ty.subs σ ts)
  | [], r, d => by rw [subs_nil, List.append_nil]; rfl
  | t :: ts, r, d => by
    rw [List.map_cons, List.cons_append, ev_done σ (.inr rfl), ev_kids σ ts r, subs_cons, List.append_assoc]
    rfl
theorem ev_open (σ : Nat → Ty) {T : Ty} (h : T.lab.num = none) (r : List (Ty × Bool)) (d : List Ty) :
    ev σ (T.kids.map (fun t => (t, false)) ++ (T, true) :: r) d = ev σ ((T, false) :: r) d := by
  have hl : (Ty.subs σ T.kids).length = T.kids.length := by rw [subs_map, List.length_map]
  rw [ev_kids, ev_done σ (.inr rfl), ev, if_neg (by rw [h]; simp), if_pos (by rw [List.length_append, hl]; omega), sub_node σ h, List.length_append, hl, Nat.add_sub_cancel, List.take_left', List.drop_left'] <;> rfl
def wt : Ty × Bool → Nat
  | (T, b) => if b = true then 1 else 2 * T.sz
def wts (es : List (Ty × Bool)) : Nat := (es.map wt).sum
theorem wts_app (a b : List (Ty × Bool)) : wts (a ++ b) = wts a + wts b := by unfold wts; rw [List.map_append, List.sum_append]
theorem wts_one (e : Ty × Bool) : wts [e] = wt e := by unfold wts; simp
theorem wt_pos (e : Ty × Bool) : 1 ≤ wt e := by
  obtain ⟨T, b⟩ := e
  have := sz_pos T
  cases b with
  | true => exact Nat.le_refl _
  | false =>
    show 1 ≤ 2 * T.sz
    omega
theorem wts_len : ∀ (es : List (Ty × Bool)), es.length ≤ wts es
  | [] => Nat.zero_le _
  | e :: r => by
    have h1 := wts_len r
    have h2 := wt_pos e
    have h3 := wts_app [e] r
    rw [wts_one] at h3
    rw [List.length_cons, show e :: r = [e] ++ r from rfl, h3]
    omega
theorem wts_kids (ts : List Ty) : wts (ts.map (fun t => (t, false)) ) = 2 * Ty.szs ts := by
  induction ts with
  | nil => rw [szs_nil]; rfl
  | cons t r ih =>
    rw [List.map_cons, show (t, false) :: r.map (fun t => (t, false)) = [(t, false)] ++ r.map (fun t => (t, false)) from rfl, wts_app, wts_one, ih, szs_cons]
    show (if false = true then 1 else 2 * t.sz) + _ = _
    rw [if_neg Bool.false_ne_true]
    omega
def EntH (K : PySem.W.Frag) (H : Hp) (e : Ty × Bool) (y : V) : Prop := ∃ (a : Addr) (v : V), y = .ref a ∧ SqT K H a [v, .bl e.2] ∧ TyH K H e.1 v
theorem EntH.mono {K : PySem.W.Frag} {H H' : Hp} (t : Tups K H H') (e : Ty × Bool) (y : V) (h : EntH K H e y) : EntH K H' e y := by
  obtain ⟨a, v, h1, h2, h3⟩ := h
  exact ⟨a, v, h1, t _ _ h2, h3.mono t⟩
theorem vars_kid {T t : Ty} (m : t ∈ T.kids) {n : Nat} (h : n ∈ t.vars) : n ∈ T.vars := by
  obtain ⟨u, hu, e⟩ := List.mem_filterMap.mp h
  exact List.mem_filterMap.mpr ⟨u, by rw [pre_eq]; exact List.mem_cons_of_mem _ (mem_pres m hu), e⟩
theorem vars_self {T : Ty} {n : Nat} (h : T.lab.num = some n) : n ∈ T.vars := List.mem_filterMap.mpr ⟨T, by rw [pre_eq]; exact List.mem_cons_self, h⟩
end Lq
namespace Lq
open PySem L2
theorem cut_tail {xs : List V} {j : Nat} (h : j ≤ xs.length) : cutV xs (some (j : Int)) none = xs.drop j := by
  unfold cutV
  rw [HT.sIx_nat, HT.sIx_none, Nat.min_eq_left h]
  exact List.take_of_length_le (by rw [List.length_drop]; exact Nat.le_refl _)
section
variable {P : Program} {w : World} {K : PySem.W.Frag} {mg : Str → Option Value} {base : Heap}
abbrev s_replaced : Stmt := top 32
theorem sc_replaced : FnScope ["T", "images", "done", "todo", "part", "ready", "first", "parts", "inner"] ["T", "images"] (defScope s_replaced) := ⟨rfl, rfl, rfl, by decide +kernel, rfl, by decide +kernel, by decide +kernel⟩
def spReplaced (K : PySem.W.Frag) : Sp := fun vs H Q _ => ∃ (T : Ty) (v : V) (d : Addr) (kvs : List (Key × V)) (σ : Nat → Ty) (ar : List Nat), vs = [v, .ref d] ∧ TyH K H T v ∧ T.Ok ar ∧ T.sz ≤ 300 ∧ H d = some (.dK kvs) ∧
  (∀ n, n ∈ T.vars → ∃ x, valV kvs (Sum.inl (n : Int)) = some x ∧ TyH K H (σ n) x) ∧ ∀ (H' : Hp) (x : V), Same H H' → TyH K H' (T.sub σ) x → Q x H'
theorem ok_replaced (A : At K mg "replaced" s_replaced ["T", "images"]) (B : Bi mg) (D_children : Has P w K mg base "children" ["T"] 1 (spChildren K)) (D_with_children : Has P w K mg base "with_children" ["T", "parts"] 1 (spWith K)) : Has P w K mg base "replaced" ["T", "images"] 2 (spReplaced K) := by
  refine .mk A fun f fd F => ?_
  refine F.ok sc_replaced (fun vs H Q E h => ?_) (fun cdv A outer s H vs Q E hr h => ?_)
  · obtain ⟨T, v, d, kvs, τ, ar, rfl, _⟩ := h
    rfl
  obtain ⟨T, v, d, kvs, τ, ar, rfl, hT, hok, hsz, hd, hv, q⟩ := h
  obtain ⟨f_children, fd_children, G_children, b_children, k_children, m_children⟩ := D_children
  obtain ⟨f_with_children, fd_with_children, G_with_children, b_with_children, k_with_children, m_with_children⟩ := D_with_children
  refine ⟨_, (pss_cons (ps_set (i := 2) sc_replaced.nd rfl (Or.inl rfl) (pe_lst pa_nil))
  (pss_cons (ps_set (i := 3) sc_replaced.nd rfl (Or.inl rfl) (pe_lst (pa_cons (pe_tup (pa_cons (pv 0) (pa_cons pe_bl pa_nil))) pa_nil)))
  (pss_cons (ps_while PassesOwn.never (pt_truth (pv 3) (by intro _; rfl)) (pss_cons (ps_asg (pe_bm0 PySem.F.plainAttrs_list PySem.F.slot_list_pop PySem.F.type_list_pop mt_pop (pv 3)) (pg_tup rfl (pgs_cons (pg_name (i := 4) sc_replaced.nd rfl (Or.inl rfl)) (pgs_cons (pg_name (i := 5) sc_replaced.nd rfl (Or.inl rfl)) pgs_nil))))
  (pss_one (ps_if (pt_cmpR op_eq (pe_ix (ixT K) (pv 4) pe_int (fun _ _ => rfl)) pe_str (nomark _)) (pss_one (ps_expr (pe_bm PySem.F.plainAttrs_list PySem.F.slot_list_append PySem.F.type_list_append mt_append (pv 2) (pa_cons (pe_dget (hu_of hr) (pv 1) (pe_ix (ixT K) (pv 4) pe_int (fun _ _ => rfl)) (fun _ _ => rfl)) pa_nil)))) (pss_one (ps_if (pt_truth (pv 5) (by intro _; rfl)) (pss_cons (ps_set (i := 6) sc_replaced.nd rfl (Or.inl rfl) (pe_op op_sub (pe_callB (lenS K) (by rfl) B.len (by decide +kernel) (pa_cons (pv 2) pa_nil)) (pe_callB (lenS K) (by rfl) B.len (by decide +kernel) (pa_cons (pe_call G_children (hr.mono (by decide)) rfl m_children k_children b_children .nil pass0 (pa_cons (pv 4) pa_nil)) pa_nil))))
  (pss_cons (ps_set (i := 7) sc_replaced.nd rfl (Or.inl rfl) (pe_callTy call_tuple_of (by rfl) B.tuple (by decide +kernel) (pa_cons (pe_slice sl_list (pv 2) (po_some (pv 6)) po_none) pa_nil)))
  (pss_cons (ps_delT (pv 2) (po_some (pv 6)))
  (pss_one (ps_expr (pe_bm PySem.F.plainAttrs_list PySem.F.slot_list_append PySem.F.type_list_append mt_append (pv 2) (pa_cons (pe_call G_with_children (hr.mono (by decide)) rfl m_with_children k_with_children b_with_children .nil pass0 (pa_cons (pv 4) (pa_cons (pv 7) pa_nil))) pa_nil))))))) (pss_cons (ps_expr (pe_bm PySem.F.plainAttrs_list PySem.F.slot_list_append PySem.F.type_list_append mt_append (pv 3) (pa_cons (pe_tup (pa_cons (pv 4) (pa_cons pe_bl pa_nil))) pa_nil)))
  (pss_one (ps_expr (pe_bm PySem.F.plainAttrs_list PySem.F.slot_list_extend PySem.F.type_list_extend mt_extend (pv 3) (pa_cons (pe_lc (own := [("inner", 8)]) (g := gName 8) (tt := tYes) (by rfl) sc_replaced.nd (pi_tup (pe_backT (pe_call G_children (hr.mono (by decide)) rfl m_children k_children b_children .nil pass0 (pa_cons (pv 4) pa_nil)))) (blkOk_by (N := ["T", "images", "done", "todo", "part", "ready", "first", "parts", "inner"]) (sc := defScope s_replaced) (by decide +kernel)) (fun _ _ _ _ _ => (pg_name (i := 8) sc_replaced.nd rfl (Or.inl rfl))) (fun _ _ _ _ _ => pts_nil) (fun _ _ _ _ _ => (pe_tup (pa_cons (pv 8) (pa_cons pe_bl pa_nil))))) pa_nil)))))))))))
  (pss_one (ps_ret (pe_ix (ixL K) (pv 2) pe_int (fun _ _ => rfl))))))), ?_⟩
  refine ⟨Nat.zero_le _, fun da ha => ?_⟩
  refine ⟨_, rfl, by show 2 ≤ sizeLine; decide, fun ea he => ?_⟩
  refine ⟨by show 1 ≤ sizeLine; decide, fun ta hb => ?_⟩
  have hda : H da = none := ha
  have g0 := same_upd ha (.lst [])
  have g1 := g0.trans (same_upd he (.tup [v, V.bl false]))
  have hta : H ta = none := g1.free hb
  have ndt : da ≠ ta := by
    intro e
    rw [← e] at hb
    exact absurd ((same_upd he (.tup [v, V.bl false]) da _ upd_same).symm.trans hb) (by intro z; cases z)
  dsimp only [gName, tSeq, tAsg, tC]
  refine while_m (fun m σ H1 => ∃ (ds : List Ty) (xs ys : List V) (es : List (Ty × Bool)) (s4 s5 s6 s7 s8 : Option V), σ = [some v, some (.ref d), some (.ref da), some (.ref ta), s4, s5, s6, s7, s8] ∧ Same H H1 ∧ H1 da = some (.lst xs) ∧ TysH K H1 ds xs ∧
    H1 ta = some (.lst ys) ∧ All2 (EntH K H1) es ys ∧ (∀ e ∈ es, e.1.Ok ar ∧ ∀ n, n ∈ e.1.vars → n ∈ T.vars) ∧ ev τ es.reverse ds = some [T.sub τ] ∧ xs.length + wts es ≤ 2 * T.sz ∧ m = wts es) (m := 2 * T.sz) ?_ ?_
    (fun σ H1 Q1 Q2 mo ⟨z, e, k, tk, qq⟩ => ⟨z, e, k, tk, mo _ _ qq⟩)
  · refine ⟨[], [], [V.ref ea], [(T, false)], none, none, none, none, none, rfl, same_set g1 hta _, ?_, .nil, upd_same, .one ⟨ea, v, rfl, ?_, hT.mono (tups_of (same_set g1 hta _))⟩, ?_, ?_, ?_, ?_⟩
    · rw [upd_ne ndt]
      exact same_upd he _ _ _ upd_same
    · exact tups_of (same_upd hb _) _ _ sq_new
    · intro e h
      rw [List.mem_singleton.mp h]
      exact ⟨hok, fun n h => h⟩
    · rw [List.reverse_singleton, ev_done τ (.inr rfl)]
      rfl
    · rw [wts_one]
      exact Nat.le_of_eq (Nat.zero_add _)
    · rw [wts_one]
      rfl
  rintro m σ H1 ⟨ds, xs, ys, es, s4, s5, s6, s7, s8, rfl, g, h1, k1, h2, k2, oke, hev, hw, rfl⟩
  refine ⟨_, rfl, _, .inl ⟨ys, SqL.of h2, rfl⟩, ?_⟩
  have hlx := k1.len
  by_cases hne : ys = []
  · subst hne
    have ee : es = [] := List.eq_nil_of_length_eq_zero k2.len.symm
    subst ee
    have ed : ds = [T.sub τ] := by
      have : some ds = some [T.sub τ] := hev
      injection this
    subst ed
    obtain ⟨x, zs, rfl, hx, hz⟩ := k1.cons_inv
    exact iteF ⟨_, rfl, da, _, _, _, rfl, rfl, SqL.of h1, atI_nat (j := 0) rfl, q H1 x g hx⟩
  · have eb : (!ys.isEmpty) = true := by
      cases ys with
      | nil => exact absurd rfl hne
      | cons _ _ => rfl
    rw [eb]
    refine iteT ?_
    obtain ⟨us, ⟨t, b⟩, zs, y, rfl, rfl, ku, kt⟩ := k2.last hne
    obtain ⟨a, vt, rfl, hSe, ht⟩ := kt
    obtain ⟨okt, hvt⟩ := oke (t, b) (List.mem_append_right _ (List.mem_singleton_self _))
    have oku : ∀ e ∈ us, e.1.Ok ar ∧ ∀ n, n ∈ e.1.vars → n ∈ T.vars := fun e h => oke e (List.mem_append_left _ h)
    rw [wts_app, wts_one] at hw
    rw [List.reverse_append, List.reverse_singleton, List.singleton_append] at hev
    have hlu := ku.len
    have hwu := wts_len us
    refine ⟨_, rfl, .inl ⟨rfl, _, SqL.of h2⟩, ta, _, _, rfl, rfl, h2, last_at zs _, ?_⟩
    rw [drop_at]
    have t2 : Tups K H1 (upd H1 ta (.lst zs)) := tups_set h2 _
    have h2d : upd H1 ta (.lst zs) da = some (.lst xs) := by rw [upd_ne ndt]; exact h1
    have g2 : Same H (upd H1 ta (.lst zs)) := same_set g hta _
    refine ⟨a, _, rfl, t2 _ _ hSe, rfl, _, _, rfl, _, _, rfl, rfl, ?_⟩
    have ht2 := ht.mono t2
    obtain ⟨c, ws, rfl, ⟨r, hS, hR⟩, hK⟩ := ht2.out
    have i0 : atI (V.str t.lab.word :: r) 0 = some (V.str t.lab.word) := atI_nat (j := 0) rfl
    refine ⟨_, rfl, c, _, _, _, rfl, rfl, hS, i0, rfl, _, rfl, ?_⟩
    rw [w_var]
    by_cases hvar : t.lab.isVar = true
    · rw [hvar]
      obtain ⟨n, hn⟩ : ∃ n, t.lab = .var n := by
        cases e : t.lab with
        | var n => exact ⟨n, rfl⟩
        | _ => rw [e] at hvar; cases hvar
      rw [hn] at hR hS
      obtain ⟨_, rfl⟩ := hR
      have hnum : t.lab.num = some n := by rw [hn]; rfl
      obtain ⟨x, hx, hxT⟩ := hv n (hvt n (vars_self hnum))
      refine iteT ⟨_, rfl, .inl ⟨rfl, _, SqL.of h2d⟩, _, rfl, _, rfl, c, _, _, _, rfl, rfl, hS, atI_nat (j := 1) rfl, d, _, rfl, hx ▸ DGet.k (k := Sum.inl (n : Int)) (g2 _ _ hd), da, xs, x, rfl, rfl, h2d, small1000 (by omega), ?_⟩
      have t3 := tups_set (K := K) h2d (.lst (xs ++ [x]))
      refine ⟨wts us, ?_, ds ++ [τ n], xs ++ [x], zs, us, _, _, _, _, _, rfl, same_set g2 hda _, upd_same, (k1.mono (t2.trans t3)).app (.cons (hxT.mono ((tups_of g2).trans t3)) .nil), by rw [upd_ne ndt.symm]; exact upd_same,
        ku.mono (EntH.mono (t2.trans t3)), oku, ?_, ?_, rfl⟩
      · have := wt_pos (t, b)
        rw [wts_app, wts_one]
        omega
      · rw [ev_done τ (.inl (by rw [hnum]; exact fun z => nomatch z)), sub_var τ hnum] at hev
        exact hev
      · have := wt_pos (t, b)
        rw [List.length_append, List.length_singleton]
        omega
    · have hvf : t.lab.isVar = false := by
        cases e : t.lab.isVar with
        | true => exact absurd e hvar
        | false => rfl
      rw [hvf]
      have hnum : t.lab.num = none := by
        cases e : t.lab with
        | var n => rw [e] at hvf; cases hvf
        | _ => rfl
      cases b with
      | true =>
        refine iteF ⟨_, rfl, true, rfl, iteT ?_⟩
        have hq : t.kids.length ≤ ds.length ∧ ev τ us.reverse (ds.take (ds.length - t.kids.length) ++ [.node t.lab (ds.drop (ds.length - t.kids.length))]) = some [T.sub τ] := by
          rw [ev, if_neg (by rw [hnum]; simp)] at hev
          by_cases hle : t.kids.length ≤ ds.length
          · rw [if_pos hle] at hev
            exact ⟨hle, hev⟩
          · rw [if_neg hle] at hev
            cases hev
        obtain ⟨hle, hev'⟩ := hq
        refine ⟨_, rfl, da, _, rfl, .inl (SqL.of h2d), _, rfl, t, _, rfl, ht2, fun H3 c3 xs3 g3 hc3 hx3 => ?_⟩
        refine ⟨c3, xs3, rfl, .inr hc3, _, _, rfl, rfl, ?_⟩
        have e3 := hx3.len
        have h3d : H3 da = some (.lst xs) := g3 _ _ h2d
        have hcut : ((xs.length : Nat) : Int) - ((xs3.length : Nat) : Int) = ((xs.length - t.kids.length : Nat) : Int) := by omega
        refine ⟨_, rfl, _, rfl, _, rfl, da, xs, rfl, SqL.of h3d, fun p hp => ?_⟩
        have hcv : cutV xs (some (((xs.length : Nat) : Int) - ((xs3.length : Nat) : Int))) none = xs.drop (xs.length - t.kids.length) := by
          rw [hcut]
          exact cut_tail (by omega)
        rw [hcv] at *
        have g4 := same_upd hp (.lst (xs.drop (xs.length - t.kids.length)))
        refine ⟨p, _, rfl, .inl ⟨SqL.of upd_same, fun l hl => ?_⟩⟩
        have g5 := same_upd hl (.tup (xs.drop (xs.length - t.kids.length)))
        have h5d := g5 _ _ (g4 _ _ h3d)
        refine ⟨_, rfl, _, rfl, _, rfl, da, xs, xs.length - t.kids.length, rfl, by rw [hcut], h5d, by omega, ?_⟩
        have t6 := tups_set (K := K) h5d (.lst (xs.take (xs.length - t.kids.length)))
        have t26 := (tups_of (K := K) (g3.trans (g4.trans g5))).trans t6
        have g26 : Same H _ := same_set (g2.trans (g3.trans (g4.trans g5))) hda (.lst (xs.take (xs.length - t.kids.length)))
        have hdl : ds.length - t.kids.length = xs.length - t.kids.length := by omega
        have hkl : (ds.drop (ds.length - t.kids.length)).length = t.kids.length := by
          rw [List.length_drop]
          omega
        refine ⟨_, rfl, .inl ⟨rfl, _, SqL.of upd_same⟩, _, rfl, _, rfl, t, _, l, ds.drop (ds.length - t.kids.length), xs.drop (xs.length - t.kids.length), rfl, ht2.mono t26, t6 _ _ sq_new, ?_, hvf, ?_, ?_, fun H7 c7 g7 h7 => ?_⟩
        · rw [hdl]
          exact ((k1.mono t2).mono t26).drop _
        · intro hf
          rw [hkl]
          have := okt.loc
          cases e : t.lab with
          | fn => rw [e] at this; exact this
          | _ => rw [e] at hf; cases hf
        · rw [hkl]
          have := kids_len t
          have : T.sz ≤ 300 := hsz
          omega
        have h7d : H7 da = some (.lst (xs.take (xs.length - t.kids.length))) := g7 _ _ upd_same
        refine ⟨da, _, _, rfl, rfl, h7d, ?_, ?_⟩
        · rw [List.length_take]
          exact small1000 (by omega)
        have t7 := tups_of (K := K) g7
        have t8 := tups_set (K := K) h7d (.lst (xs.take (xs.length - t.kids.length) ++ [.ref c7]))
        have hzta : H7 ta = some (.lst zs) := g7 _ _ (by rw [upd_ne ndt.symm]; exact g5 _ _ (g4 _ _ (g3 _ _ upd_same)))
        refine ⟨wts us, ?_, ds.take (ds.length - t.kids.length) ++ [.node t.lab (ds.drop (ds.length - t.kids.length))], xs.take (xs.length - t.kids.length) ++ [.ref c7], zs, us, _, _, _, _, _, rfl, same_set (g26.trans g7) hda _, upd_same, ?_, by rw [upd_ne ndt.symm]; exact hzta,
          ku.mono (EntH.mono (t2.trans (t26.trans (t7.trans t8)))), oku, hev', ?_, rfl⟩
        · rw [wts_app, wts_one]
          show wts us < wts us + 1
          omega
        · refine TysH.app ?_ (.cons (h7.mono t8) .nil)
          rw [hdl]
          exact ((k1.mono t2).mono (t26.trans (t7.trans t8))).take _
        · have : wt (t, true) = 1 := rfl
          rw [List.length_append, List.length_singleton, List.length_take]
          omega
      | false =>
        have h2t : upd H1 ta (.lst zs) ta = some (.lst zs) := upd_same
        refine iteF ⟨_, rfl, false, rfl, iteF ⟨_, rfl, .inl ⟨rfl, _, SqL.of h2t⟩, _, rfl, by show 2 ≤ sizeLine; decide, fun p hp => ?_⟩⟩
        have g3 := same_upd hp (.tup [V.ref c, V.bl true])
        have h3t := g3 _ _ h2t
        refine ⟨ta, zs, _, rfl, rfl, h3t, small1000 (by omega), ?_⟩
        have t4 := tups_set (K := K) h3t (.lst (zs ++ [.ref p]))
        have t24 := (tups_of (K := K) g3).trans t4
        have g24 : Same H _ := same_set (g2.trans g3) hta (.lst (zs ++ [.ref p]))
        refine ⟨_, rfl, .inl ⟨rfl, _, SqL.of upd_same⟩, _, rfl, t, _, rfl, ht2.mono t24, fun H5 c5 xs5 g5 hc5 hx5 => ?_⟩
        have e5 := hx5.len
        have hkl := kids_len t
        refine ⟨c5, xs5, rfl, hc5, fun p2 hp2 => ?_⟩
        have g6 := same_upd hp2 (.tup xs5.reverse)
        have hxr := (hx5.mono (tups_of g6)).rev
        generalize hH6 : upd H5 p2 (.tup xs5.reverse) = H6 at g6 hxr
        have h6p : SqT K H6 p2 xs5.reverse := by rw [← hH6]; exact sq_new
        refine ⟨p2, rfl, ⟨_, h6p⟩, fun D hD => lc_tup (K := K) (a := p2) (xs := xs5.reverse)
          (fun i H7 => Same H6 H7 ∧ ∃ acc, H7 D = some (.lst acc) ∧ All2 (EntH K H7) ((t.kids.reverse.take i).map fun t => (t, false)) acc) ?_ (fun i H7 _ a => tups_of a.1 _ _ h6p) ?_ ?_⟩
        · exact ⟨same_upd hD _, [], upd_same, rfl⟩
        · rintro i x H7 hix ⟨g7, acc, hacc, hal⟩
          obtain ⟨u, hui, hu⟩ := hxr.get hix
          have hil := lt_of_get hix
          rw [List.length_reverse] at hil
          have hla := hal.len
          rw [List.length_map, List.length_take] at hla
          have hla2 : acc.length ≤ t.kids.length := by
            rw [hla]
            exact Nat.le_trans (Nat.min_le_right _ _) (by rw [List.length_reverse]; exact Nat.le_refl _)
          have hwt : wt (t, false) = 2 * t.sz := rfl
          refine ⟨rfl, _, rfl, by show 2 ≤ sizeLine; decide, fun p3 hp3 => ?_⟩
          have g8 := same_upd hp3 (.tup [x, V.bl false])
          have h8D := g8 _ _ hacc
          have t9 := tups_set (K := K) h8D (.lst (acc ++ [.ref p3]))
          refine ⟨acc, h8D, small1000 (by omega), same_set (g7.trans g8) hD _, acc ++ [.ref p3], upd_same, ?_⟩
          rw [take_snoc hui, List.map_append]
          refine (hal.mono (EntH.mono ((tups_of g8).trans t9))).app (.one ⟨p3, x, rfl, t9 _ _ sq_new, hu.mono ((tups_of (g7.trans g8)).trans t9)⟩)
        · rintro H7 ⟨g7, acc, hacc, hal⟩
          have hfull : t.kids.reverse.take xs5.reverse.length = t.kids.reverse := List.take_of_length_le (by rw [List.length_reverse, List.length_reverse]; omega)
          rw [hfull] at hal
          have hla := hal.len
          rw [List.length_map, List.length_reverse] at hla
          have h7t : H7 ta = some (.lst (zs ++ [.ref p])) := g7 _ _ (g6 _ _ (g5 _ _ upd_same))
          have h7d : H7 da = some (.lst xs) := g7 _ _ (g6 _ _ (g5 _ _ (by rw [upd_ne ndt]; exact g3 _ _ h2d)))
          have hsk := t.sz_eq
          have hwt : wt (t, false) = 2 * t.sz := rfl
          have hks := len_szs t.kids
          refine ⟨ta, D, _, _, rfl, rfl, h7t, hacc, ?_, ?_⟩
          · rw [List.length_append, List.length_singleton]
            exact small300 (by omega)
          have t47 := tups_of (K := K) (g5.trans (g6.trans g7))
          have t8 := tups_set (K := K) h7t (.lst (zs ++ [.ref p] ++ acc))
          have tall := t2.trans (t24.trans (t47.trans t8))
          have hwk : wts (t.kids.reverse.map fun t => (t, false)) = 2 * Ty.szs t.kids := by rw [wts_kids, szs_rev]
          refine ⟨wts us + 1 + 2 * Ty.szs t.kids, ?_, ds, xs, zs ++ [.ref p] ++ acc, us ++ [(t, true)] ++ t.kids.reverse.map (fun t => (t, false)), _, _, _, _, _, rfl, same_set (g24.trans (g5.trans (g6.trans g7))) hta _, by rw [upd_ne ndt]; exact h7d,
            k1.mono tall, upd_same, ?_, ?_, ?_, ?_, ?_⟩
          · rw [wts_app, wts_one]
            omega
          · refine ((ku.mono (EntH.mono tall)).app (All2.one (e := (t, true)) ⟨p, _, rfl, ?_, ht2.mono (t24.trans (t47.trans t8))⟩)).app (hal.mono (EntH.mono t8))
            exact t8 _ _ (t47 _ _ (t4 _ _ sq_new))
          · intro e he
            rcases List.mem_append.mp he with h | h
            · rcases List.mem_append.mp h with h | h
              · exact oku e h
              · rw [List.mem_singleton.mp h]
                exact ⟨okt, hvt⟩
            · obtain ⟨u, hu, rfl⟩ := List.mem_map.mp h
              have hu' := List.mem_reverse.mp hu
              exact ⟨okt.kid hu', fun n hn => hvt n (vars_kid hu' hn)⟩
          · rw [List.reverse_append, List.reverse_append, ← List.map_reverse, List.reverse_reverse, List.reverse_singleton, List.singleton_append, ev_open τ hnum]
            exact hev
          · rw [wts_app, wts_app, wts_one, hwk]
            show xs.length + (wts us + 1 + _) ≤ _
            omega
          · rw [wts_app, wts_app, wts_one, hwk]
            rfl
end
end Lq
namespace Lq
open PySem L2
theorem dc_items {d : Addr} {o : Obj} {kvs : List (Key × V)} {g : TG} {tt : TT} {tk tv : TE} {vs : List Nat} {σ : St} {H1 : Hp} {D : Addr} {Qd : Hp → Prop} (Pv : Nat → Hp → Prop) (h0 : Pv 0 (upd H1 D (.dK [])))
    (hl : ∀ i H, i ≤ kvs.length → Pv i H → H d = some (.frz o (.dK kvs)))
    (hs : ∀ i k v T H, kvs[i]? = some (k, v) → Pv i H → H T = none → g (.ref T) (wipe σ vs) (upd H T (.tup [kV k, v])) fun σ2 H2 => wipe σ2 vs = wipe σ vs ∧ tt σ2 H2 fun b H3 =>
      if b = true then tk σ2 H3 fun y H4 => tv σ2 H4 fun z H5 => ∃ kvs k, y = kV k ∧ H5 D = some (.dK kvs) ∧ kvs.length < sizeLine ∧ Pv (i + 1) (upd H5 D (.dK (putK kvs k z))) else Pv (i + 1) H3)
    (hd : ∀ H, Pv kvs.length H → Qd H) :
    ∃ W : Nat → Nat → Hp → Prop, (∃ m, W 0 m (upd H1 D (.dK []))) ∧ ∀ i m H, W i m H →
      ((Iti d o kvs).stop i H ∧ Qd H) ∨ ((Iti d o kvs).go i H ∧ ∃ Nx : Hp → Prop, (∀ H', Nx H' → ∃ m', m' < m ∧ W (i + 1) m' H') ∧ ∀ x H', (Iti d o kvs).yld i H x H' → g x (wipe σ vs) H' fun σ2 H2 => wipe σ2 vs = wipe σ vs ∧ tt σ2 H2 fun b H3 =>
        if b = true then tk σ2 H3 fun y H4 => tv σ2 H4 fun z H5 => ∃ kvs k, y = kV k ∧ H5 D = some (.dK kvs) ∧ kvs.length < sizeLine ∧ Nx (upd H5 D (.dK (putK kvs k z))) else Nx H3) := by
  refine ⟨fun i m H => m = kvs.length - i ∧ i ≤ kvs.length ∧ Pv i H, ⟨kvs.length, by simp, Nat.zero_le _, h0⟩, ?_⟩
  rintro i m H ⟨rfl, hi, p⟩
  have q := hl i H hi p
  by_cases hlt : i < kvs.length
  · refine .inr ⟨⟨q, hlt⟩, Pv (i + 1), fun H' p' => ⟨kvs.length - (i + 1), by omega, rfl, hlt, p'⟩, fun x H' y => ?_⟩
    obtain ⟨T, k, v, e, rfl, hT, rfl⟩ := y
    exact hs i k v T _ e p hT
  · have e : i = kvs.length := by omega
    subst e
    exact .inl ⟨⟨q, Nat.le_refl _⟩, hd H p⟩
theorem unlock_same {H H3 : Hp} {d : Addr} {u o : HO} (h : H d = some u) (e : Same (upd H d o) H3) : Same H (upd H3 d u) := by
  intro b w hb
  by_cases hbd : b = d
  · rw [hbd, upd_same]
    rw [hbd, h] at hb
    exact hb
  · rw [upd_ne hbd]
    exact e b w (by rw [upd_ne hbd]; exact hb)
end Lq
namespace Lq
open PySem L2 RZ
theorem lc_zipT {K : PySem.W.Frag} {a b : Addr} {xs ys : List V} {g : TG} {tt : TT} {te : TE} {vs : List Nat} {σ : St} {H1 : Hp} {D : Addr} {Qd : Hp → Prop} (n : Nat) (hn : n = min xs.length ys.length) (Pv : Nat → Hp → Prop) (h0 : Pv 0 (upd H1 D (.lst [])))
    (hl : ∀ i H, i ≤ n → Pv i H → SqT K H a xs ∧ SqT K H b ys)
    (hs : ∀ i x y T H, xs[i]? = some x → ys[i]? = some y → Pv i H → H T = none → g (.ref T) (wipe σ vs) (upd H T (.tup [x, y])) fun σ2 H2 => wipe σ2 vs = wipe σ vs ∧ tt σ2 H2 fun b H3 =>
      if b = true then te σ2 H3 fun y H4 => ∃ acc, H4 D = some (.lst acc) ∧ acc.length < sizeLine ∧ Pv (i + 1) (upd H4 D (.lst (acc ++ [y]))) else Pv (i + 1) H3) (hd : ∀ H, Pv n H → Qd H) :
    ∃ W : Nat → Nat → Hp → Prop, (∃ m, W 0 m (upd H1 D (.lst []))) ∧ ∀ i m H, W i m H →
      ((ItzT K a b).stop i H ∧ Qd H) ∨ ((ItzT K a b).go i H ∧ ∃ Nx : Hp → Prop, (∀ H', Nx H' → ∃ m', m' < m ∧ W (i + 1) m' H') ∧ ∀ x H', (ItzT K a b).yld i H x H' → g x (wipe σ vs) H' fun σ2 H2 => wipe σ2 vs = wipe σ vs ∧ tt σ2 H2 fun b H3 =>
        if b = true then te σ2 H3 fun y H4 => ∃ acc, H4 D = some (.lst acc) ∧ acc.length < sizeLine ∧ Nx (upd H4 D (.lst (acc ++ [y]))) else Nx H3) := by
  rw [hn] at hl hd
  clear hn
  refine ⟨fun i m H => m = min xs.length ys.length - i ∧ i ≤ min xs.length ys.length ∧ Pv i H, ⟨min xs.length ys.length, by simp, Nat.zero_le _, h0⟩, ?_⟩
  rintro i m H ⟨rfl, hi, p⟩
  obtain ⟨qa, qb⟩ := hl i H hi p
  by_cases hlt : i < min xs.length ys.length
  · have hx : i < xs.length := Nat.lt_of_lt_of_le hlt (Nat.min_le_left _ _)
    have hy : i < ys.length := Nat.lt_of_lt_of_le hlt (Nat.min_le_right _ _)
    refine .inr ⟨⟨xs, ys, xs[i], ys[i], qa, qb, by simp [hx], by simp [hy]⟩, Pv (i + 1), fun H' p' => ⟨min xs.length ys.length - (i + 1), by omega, rfl, hlt, p'⟩, fun v H' y => ?_⟩
    obtain ⟨T, x, y, rfl, hT, rfl, fx, fy⟩ := y
    exact hs i x y T H (fx xs qa) (fy ys qb) p hT
  · have e : i = min xs.length ys.length := by omega
    refine .inl ⟨⟨xs, ys, qa, qb, ?_⟩, hd H (by rw [← e]; exact p)⟩
    rcases Nat.le_total xs.length ys.length with h | h
    · exact .inl (by rw [e, Nat.min_eq_left h]; exact Nat.le_refl _)
    · exact .inr (by rw [e, Nat.min_eq_right h]; exact Nat.le_refl _)
section
variable {P : Program} {w : World} {K : PySem.W.Frag} {mg : Str → Option Value} {base : Heap}
abbrev s_is_place : Stmt := top 5
theorem sc_is_place : FnScope ["value", "number"] ["value"] (defScope s_is_place) := ⟨rfl, rfl, rfl, by decide +kernel, rfl, by decide +kernel, by decide +kernel⟩
def spPlace (K : PySem.W.Frag) : Sp := fun vs H Q _ => ∃ (a : Addr) (ns : List Nat), vs = [.ref a] ∧ SqT K H a (natV ns) ∧ (∀ n, n ∈ ns → (n : Int) < 10 ^ 60) ∧ ns.length ≤ 1000 ∧ ∀ (H' : Hp), Same H H' → Q (.bl true) H'
theorem natV_at {ns : List Nat} {i : Nat} {x : V} (h : (natV ns)[i]? = some x) : ∃ n, ns[i]? = some n ∧ x = .int (n : Int) := by
  unfold natV at h
  rw [List.getElem?_map] at h
  cases e : ns[i]? with
  | none => rw [e] at h; cases h
  | some n => rw [e] at h; cases h; exact ⟨n, rfl, rfl⟩
theorem ok_is_place (A : At K mg "is_place" s_is_place ["value"]) (B : Bi mg) (D_is_whole : Has P w K mg base "is_whole" ["value"] 2 spWhole) : Has P w K mg base "is_place" ["value"] 3 (spPlace K) := by
  refine .mk A fun f fd F => ?_
  refine F.ok sc_is_place (fun vs H Q E h => ?_) (fun cdv A outer s H vs Q E hr h => ?_)
  · obtain ⟨a, ns, rfl, _⟩ := h
    rfl
  obtain ⟨a, ns, rfl, hS, hb, hl, q⟩ := h
  obtain ⟨f_is_whole, fd_is_whole, G_is_whole, b_is_whole, k_is_whole, m_is_whole⟩ := D_is_whole
  refine ⟨_, (pss_one (ps_ret (pe_and (pe_callB (isiK K) (by rfl) B.isinstance (by decide +kernel) (pa_cons (pv 0) (pa_cons (pe_bltn (v := .ty "tuple") rfl B.tuple (by decide +kernel) rfl) pa_nil))) (pe_one (pe_callB (cr_all rfl) (by rfl) B.all (by decide +kernel) (pa_cons (pe_lc (own := [("number", 1)]) (g := gName 1) (tt := tYes) (by rfl) sc_is_place.nd (pi_tup (pv 0)) (blkOk_by (N := ["value", "number"]) (sc := defScope s_is_place) (by decide +kernel)) (fun _ _ _ _ _ => (pg_name (i := 1) sc_is_place.nd rfl (Or.inl rfl))) (fun _ _ _ _ _ => pts_nil) (fun _ _ _ _ _ => (pe_call G_is_whole (hr.mono (by decide)) rfl m_is_whole k_is_whole b_is_whole .nil pass0 (pa_cons (pv 1) pa_nil)))) pa_nil)))))), ?_⟩
  refine ⟨_, rfl, _, _, _, _, true, rfl, .ty _, tyx_tup hS, kit_ty (by decide +kernel), _, rfl, iteT ?_⟩
  refine ⟨_, rfl, a, rfl, ⟨_, hS⟩, fun D hD => lc_tup (K := K) (a := a) (xs := natV ns) (AllInv H D) (.start hD) (fun i H3 _ p => tups_of p.1 _ _ hS) ?_ ?_⟩
  · intro i x H3 hx p
    obtain ⟨n, hn, rfl⟩ := natV_at hx
    refine ⟨rfl, _, rfl, (n : Int), rfl, by omega, hb n (List.mem_of_getElem? hn), ?_⟩
    exact p.step hD (by have := lt_of_get hn; omega)
  · intro H3 p
    refine ⟨D, _, rfl, SqL.of p.2, ?_⟩
    rw [all_rep]
    exact q H3 p.1
abbrev s_is_ascending : Stmt := top 6
theorem sc_is_ascending : FnScope ["value", "low", "high"] ["value"] (defScope s_is_ascending) := ⟨rfl, rfl, rfl, by decide +kernel, rfl, by decide +kernel, by decide +kernel⟩
def spAsc (K : PySem.W.Frag) : Sp := fun vs H Q _ => ∃ (a : Addr) (ns : List Nat), vs = [.ref a] ∧ SqT K H a (natV ns) ∧ (∀ n, n ∈ ns → (n : Int) < 10 ^ 60) ∧ ns.length ≤ 1000 ∧ ns.Pairwise (· < ·) ∧ ∀ (H' : Hp), Same H H' → Q (.bl true) H'
theorem asc_at : ∀ {ns : List Nat} {i x y : Nat}, ns.Pairwise (· < ·) → ns[i]? = some x → (ns.drop 1)[i]? = some y → x < y := by
  intro ns i x y hp hx hy
  rw [List.getElem?_drop] at hy
  obtain ⟨h1, e1⟩ := List.getElem?_eq_some_iff.mp hx
  obtain ⟨h2, e2⟩ := List.getElem?_eq_some_iff.mp hy
  rw [← e1, ← e2]
  exact List.pairwise_iff_getElem.mp hp i (1 + i) h1 h2 (by omega)
theorem ok_is_ascending (A : At K mg "is_ascending" s_is_ascending ["value"]) (B : Bi mg) (D_is_place : Has P w K mg base "is_place" ["value"] 3 (spPlace K)) : Has P w K mg base "is_ascending" ["value"] 4 (spAsc K) := by
  refine .mk A fun f fd F => ?_
  refine F.ok sc_is_ascending (fun vs H Q E h => ?_) (fun cdv A outer s H vs Q E hr h => ?_)
  · obtain ⟨a, ns, rfl, _⟩ := h
    rfl
  obtain ⟨a, ns, rfl, hS, hb, hl, hp, q⟩ := h
  obtain ⟨f_is_place, fd_is_place, G_is_place, b_is_place, k_is_place, m_is_place⟩ := D_is_place
  refine ⟨_, (pss_one (ps_ret (pe_and (pe_call G_is_place (hr.mono (by decide)) rfl m_is_place k_is_place b_is_place .nil pass0 (pa_cons (pv 0) pa_nil)) (pe_one (pe_callB (cr_all rfl) (by rfl) B.all (by decide +kernel) (pa_cons (pe_lc (own := [("low", 1), ("high", 2)]) (g := gTup _ 2 (gCons (gName 1) (gCons (gName 2) gNil))) (tt := tYes) (by rfl) sc_is_ascending.nd (pi_zipA (by rfl) B.zip (pa_cons (pv 0) (pa_cons (pe_slice sl_tupA (pv 0) (po_some pe_int) po_none) pa_nil))) (blkOk_by (N := ["value", "low", "high"]) (sc := defScope s_is_ascending) (by decide +kernel)) (fun _ _ _ _ _ => (pg_tup rfl (pgs_cons (pg_name (i := 1) sc_is_ascending.nd rfl (Or.inl rfl)) (pgs_cons (pg_name (i := 2) sc_is_ascending.nd rfl (Or.inl rfl)) pgs_nil)))) (fun _ _ _ _ _ => pts_nil) (fun _ _ _ _ _ => (pe_cmpR op_lt (pv 1) (pv 2) (nomark _)))) pa_nil)))))), ?_⟩
  refine ⟨_, rfl, a, ns, rfl, hS, hb, hl, fun H2 g2 => ⟨_, rfl, iteT ?_⟩⟩
  have hS2 := tups_of g2 _ _ hS
  have step : ∀ (ms : List Nat) (H3 : Hp) (D : Addr), H3 D = none → (∀ (i x y : Nat), ns[i]? = some x → ms[i]? = some y → x < y) → ∀ (i : Nat) (x y : V) (T : Addr) (H4 : Hp), (natV ns)[i]? = some x → (natV ms)[i]? = some y → AllInv H3 D i H4 → H4 T = none →
      ∃ (n m : Nat), x = V.int (n : Int) ∧ y = V.int (m : Int) ∧ ∃ acc, (upd H4 T (.tup [x, y])) D = some (.lst acc) ∧ acc.length < sizeLine ∧ AllInv H3 D (i + 1) (upd (upd H4 T (.tup [x, y])) D (.lst (acc ++ [.bl (decide ((n : Int) < (m : Int)))]))) := by
    intro ms H3 D hD hlt i x y T H4 hx hy p hT
    obtain ⟨n, hn, rfl⟩ := natV_at hx
    obtain ⟨m, hm, rfl⟩ := natV_at hy
    have := hlt i n m hn hm
    refine ⟨n, m, rfl, rfl, ?_⟩
    rw [decide_eq_true (show (n : Int) < (m : Int) by omega)]
    exact ((p.call (same_upd hT _)).step hD (by have := lt_of_get hn; omega))
  refine ⟨_, rfl, _, rfl, _, rfl, a, _, rfl, hS2, fun hw => ?_, fun hw p hp2 => ?_⟩
  · have e0 : ns = [] := by
      have h1 := hw.1
      rw [show (1 : Int) = ((1 : Nat) : Int) from rfl, HT.sIx_nat, natV_len] at h1
      cases ns with
      | nil => rfl
      | cons n r =>
        rw [List.length_cons] at h1
        omega
    have hlt : ∀ (i x y : Nat), ns[i]? = some x → ns[i]? = some y → x < y := by
      intro i x y hx
      rw [e0] at hx
      cases hx
    refine ⟨a, a, natV ns, natV ns, rfl, .inr ⟨hS2, hS2, fun D hD => lc_zipT (K := K) (a := a) (b := a) (xs := natV ns) (ys := natV ns) (min (natV ns).length (natV ns).length) rfl (AllInv H2 D) (.start hD) (fun i H3 _ z => ⟨tups_of z.1 _ _ hS2, tups_of z.1 _ _ hS2⟩) ?_ ?_⟩⟩
    · intro i x y T H4 hx hy z hT
      obtain ⟨n, m, rfl, rfl, r⟩ := step ns H2 D hD hlt i x y T H4 hx hy z hT
      refine ⟨T, _, rfl, sq_new, rfl, _, _, rfl, _, _, rfl, rfl, rfl, _, rfl, _, rfl, _, _, rfl, rfl, r⟩
    · intro H4 z
      refine ⟨D, _, rfl, SqL.of z.2, ?_⟩
      rw [all_rep]
      exact q H4 (g2.trans z.1)
  · have g3 := same_upd hp2 (.tup (cutV (natV ns) (some 1) none))
    have hc : cutV (natV ns) (some 1) none = natV (ns.drop 1) := by
      have h1 : cutV (natV ns) (some ((1 : Nat) : Int)) none = (natV ns).drop 1 := by
        cases ns with
        | nil => exact absurd ⟨rfl, rfl⟩ hw
        | cons n r => exact cut_tail (by rw [natV_len, List.length_cons]; omega)
      exact h1.trans (by unfold natV; rw [List.map_drop])
    rw [hc] at g3 ⊢
    generalize hH3 : upd H2 p (.tup (natV (ns.drop 1))) = H3 at g3
    have hb3 : SqT K H3 p (natV (ns.drop 1)) := by rw [← hH3]; exact sq_new
    have hS3 := tups_of g3 _ _ hS2
    refine ⟨a, p, natV ns, natV (ns.drop 1), rfl, .inr ⟨hS3, hb3, fun D hD => lc_zipT (K := K) (a := a) (b := p) (xs := natV ns) (ys := natV (ns.drop 1)) (min (natV ns).length (natV (ns.drop 1)).length) rfl (AllInv H3 D) (.start hD) (fun i H4 _ z => ⟨tups_of z.1 _ _ hS3, tups_of z.1 _ _ hb3⟩) ?_ ?_⟩⟩
    · intro i x y T H4 hx hy z hT
      obtain ⟨n, m, rfl, rfl, r⟩ := step (ns.drop 1) H3 D hD (fun i x y h h' => asc_at hp h h') i x y T H4 hx hy z hT
      refine ⟨T, _, rfl, sq_new, rfl, _, _, rfl, _, _, rfl, rfl, rfl, _, rfl, _, rfl, _, _, rfl, rfl, r⟩
    · intro H4 z
      refine ⟨D, _, rfl, SqL.of z.2, ?_⟩
      rw [all_rep]
      exact q H4 (g2.trans (g3.trans z.1))
abbrev s_check_marked : Stmt := top 49
theorem sc_check_marked : FnScope ["marked"] ["marked"] (defScope s_check_marked) := ⟨rfl, rfl, rfl, by decide +kernel, rfl, by decide +kernel, by decide +kernel⟩
def spMarked (K : PySem.W.Frag) : Sp := fun vs H Q _ => ∃ (a : Addr) (ns : List Nat), vs = [.ref a] ∧ SqT K H a (natV ns) ∧ (∀ n, n ∈ ns → (n : Int) < 10 ^ 60) ∧ ns.length ≤ 1000 ∧ ns.Pairwise (· < ·) ∧ ∀ (H' : Hp), Same H H' → Q .non H'
theorem ok_check_marked (A : At K mg "check_marked" s_check_marked ["marked"]) (D_is_ascending : Has P w K mg base "is_ascending" ["value"] 4 (spAsc K)) : Has P w K mg base "check_marked" ["marked"] 5 (spMarked K) := by
  refine .mk A fun f fd F => ?_
  refine F.ok sc_check_marked (fun vs H Q E h => ?_) (fun cdv A outer s H vs Q E hr h => ?_)
  · obtain ⟨a, ns, rfl, _⟩ := h
    rfl
  obtain ⟨a, ns, rfl, hS, hb, hl, hp, q⟩ := h
  obtain ⟨f_is_ascending, fd_is_ascending, G_is_ascending, b_is_ascending, k_is_ascending, m_is_ascending⟩ := D_is_ascending
  refine ⟨_, (pss_one (ps_if (pt_not (pt_val (pe_call G_is_ascending (hr.mono (by decide)) rfl m_is_ascending k_is_ascending b_is_ascending .nil pass0 (pa_cons (pv 0) pa_nil)))) (pss_one ps_never) pss_nil)), ?_⟩
  exact ⟨_, rfl, a, ns, rfl, hS, hb, hl, hp, fun H2 g2 => ⟨_, rfl, iteF (q H2 g2)⟩⟩
end
end Lq
namespace Lq
open PySem L2
/-! ### books -/
def AtM (K : PySem.W.Frag) (C : Addr) (x q : Str) (st : Stmt) (ps : List Str) : Prop := ∃ f fd, Fun K x q st f fd ∧ Meth K C x f ∧ Binds K fd ps []
def HasM (P : Program) (w : World) (K : PySem.W.Frag) (mg : Str → Option Value) (base : Heap) (C : Addr) (x : Str) (ps : List Str) (k : Nat) (sp : Sp) : Prop :=
  ∃ f fd, FnOk P w K mg base CX0 k f fd ps sp ∧ Binds K fd ps [] ∧ Meth K C x f
structure Bk (K : PySem.W.Frag) (mg : Str → Option Value) (C : Addr) : Prop where
  cl : Cls K C
  nR : NoAttr K C "_rows"
  nA : NoAttr K C "arities"
  mgC : mg "Book" = some (.ref C)
  ha : PySem.W.findIn K (.ref C) "__class__" = some (some (.builtin "object.__class__"))
  hn : PySem.W.specialIn K (.builtin "object.__class__") "__get__" = some (some (.builtin "getset_descriptor.__get__"))
  htk : PySem.W.takesIn K (.builtin "object.__class__") = some true
  hm : PySem.W.mroIn K C (.type "object") = some true
  kit : PySem.W.kitOne K (.ref C) (.ref C) = some true
theorem ar_ : ¬ (("_rows" : Str) = "arities") := by decide +kernel
theorem ra_ : ¬ (("arities" : Str) = "_rows") := by decide +kernel
def bf (r q : Addr) : List (Str × V) := putF "arities" (.ref q) (putF "_rows" (.ref r) [])
theorem bf_rows (r q : Addr) : (bf r q).lookup ("_rows" : Str) = some (.ref r) := by
  unfold bf
  rw [lookup_putF, if_neg ar_, lookup_putF, if_pos rfl]
theorem bf_ar (r q : Addr) : (bf r q).lookup ("arities" : Str) = some (.ref q) := by
  unfold bf
  rw [lookup_putF, if_pos rfl]
theorem bf_no (r q : Addr) {m : Str} (h1 : ¬ m = "arities") (h2 : ¬ m = "_rows") : (bf r q).lookup m = none := by
  unfold bf
  rw [lookup_putF, if_neg h1, lookup_putF, if_neg h2]
  rfl
structure Row where
  n : Nat
  ask : Option (List Nat)
  z : Str
def AskH (K : PySem.W.Frag) (H : Hp) (ask : Option (List Nat)) (v : V) : Prop := match ask with
  | none => v = .non
  | some l => ∃ a, v = .ref a ∧ SqT K H a (natV l)
def RowH (K : PySem.W.Frag) (H : Hp) (row : Row) (v : V) : Prop := ∃ (p : Addr) (z av cv : V), v = .ref p ∧ SqT K H p [z, .int (row.n : Int), av, cv] ∧ AskH K H row.ask av ∧ z = .str row.z
theorem AskH.mono {K : PySem.W.Frag} {H H' : Hp} (e : Tups K H H') {ask : Option (List Nat)} {v : V} (h : AskH K H ask v) : AskH K H' ask v := by
  cases ask with
  | none => exact h
  | some l =>
    obtain ⟨a, h1, h2⟩ := h
    exact ⟨a, h1, e _ _ h2⟩
theorem RowH.mono {K : PySem.W.Frag} {H H' : Hp} (e : Tups K H H') (row : Row) (v : V) (h : RowH K H row v) : RowH K H' row v := by
  obtain ⟨p, z, av, cv, h1, h2, h3⟩ := h
  exact ⟨p, z, av, cv, h1, e _ _ h2, h3.1.mono e, h3.2⟩
def arOf (rows : List Row) : List Nat := rows.map (·.n)
def BookH (K : PySem.W.Frag) (C : Addr) (H : Hp) (rows : List Row) (v : V) : Prop := ∃ (b dx r q : Addr) (rs : List V), v = .ref b ∧ H b = some (.ins C dx (bf r q)) ∧ SqT K H r rs ∧ All2 (RowH K H) rows rs ∧ SqT K H q (natV (arOf rows))
theorem BookH.mono {K : PySem.W.Frag} {C : Addr} {H H' : Hp} (e : Same H H') {rows : List Row} {v : V} (h : BookH K C H rows v) : BookH K C H' rows v := by
  obtain ⟨b, dx, r, q, rs, h1, h2, h3, h4, h5⟩ := h
  exact ⟨b, dx, r, q, rs, h1, e _ _ h2, tups_of e _ _ h3, h4.mono (RowH.mono (tups_of e)), tups_of e _ _ h5⟩
theorem All2.get {α : Type} {R : α → V → Prop} : ∀ {es : List α} {xs : List V}, All2 R es xs → ∀ {i : Nat} {e : α}, es[i]? = some e → ∃ x, xs[i]? = some x ∧ R e x
  | [], _, _, i, e, h => by cases h
  | a :: r, _, h, 0, e, he => by
    obtain ⟨x, ys, rfl, h1, _⟩ := h
    cases he
    exact ⟨x, rfl, h1⟩
  | a :: r, _, h, i + 1, e, he => by
    obtain ⟨x, ys, rfl, _, h2⟩ := h
    exact All2.get h2 he
section
variable {P : Program} {w : World} {K : PySem.W.Frag} {mg : Str → Option Value} {base : Heap} {C : Addr}
theorem HasM.mk {x q : Str} {st : Stmt} {ps : List Str} {k : Nat} {sp : Sp} (A : AtM K C x q st ps) (h : ∀ f fd, Fun K x q st f fd → FnOk P w K mg base CX0 k f fd ps sp) : HasM P w K mg base C x ps k sp := by
  obtain ⟨f, fd, F, m, b⟩ := A
  exact ⟨f, fd, h f fd F, b, m⟩
abbrev s_Book__row : Stmt := inClass (top 41) 1
theorem sc_Book__row : FnScope ["self", "stamp"] ["self", "stamp"] (defScope s_Book__row) := ⟨rfl, rfl, rfl, by decide +kernel, rfl, by decide +kernel, by decide +kernel⟩
def spRow (K : PySem.W.Frag) (C : Addr) : Sp := fun vs H Q _ => ∃ (v : V) (rows : List Row) (s : Nat) (row : Row), vs = [v, .int (s : Int)] ∧ BookH K C H rows v ∧ 0 < s ∧ (s : Int) < 10 ^ 60 ∧ rows[s - 1]? = some row ∧ ∀ x, RowH K H row x → Q x H
theorem ok_row (A : AtM K C "_row" "Book._row" s_Book__row ["self", "stamp"]) (B : Bi mg) (T : Bk K mg C) (D_is_integer : Has P w K mg base "is_integer" ["value"] 1 spInt) : HasM P w K mg base C "_row" ["self", "stamp"] 2 (spRow K C) := by
  refine .mk A fun f fd F => ?_
  refine F.ok sc_Book__row (fun vs H Q E h => ?_) (fun cdv A outer s H vs Q E hr h => ?_)
  · obtain ⟨v, rows, st, row, rfl, _⟩ := h
    rfl
  obtain ⟨v, rows, st, row, rfl, ⟨b, dx, r, q', rs, rfl, hb, hr', ha, hq⟩, h0, h1, hrow, q⟩ := h
  obtain ⟨f_is_integer, fd_is_integer, G_is_integer, b_is_integer, k_is_integer, m_is_integer⟩ := D_is_integer
  refine ⟨_, (pss_cons (ps_if (PW.pt (pw_or (pt_not (pt_val (pe_call G_is_integer (hr.mono (by decide)) rfl m_is_integer k_is_integer b_is_integer .nil pass0 (pa_cons (pv 1) pa_nil)))) (pw_or1 (pt_not (pt_chain op_le op_le pe_int (pv 1) (pe_callB (lenS K) (by rfl) B.len (by decide +kernel) (pa_cons (pe_fld (pv 0) rfl) pa_nil))))))) (pss_one ps_never) pss_nil)
  (pss_one (ps_ret (pe_ix (ixT K) (pe_fld (pv 0) rfl) (pe_op op_sub (pv 1) pe_int) (fun _ _ => rfl))))), ?_⟩
  have hlen := ha.len
  have hlt := lt_of_get hrow
  obtain ⟨x, hx, hxR⟩ := ha.get hrow
  refine ⟨_, rfl, (st : Int), rfl, by omega, h1, _, rfl, iteF ?_⟩
  refine ⟨_, rfl, _, _, rfl, rfl, _, rfl, ?_⟩
  rw [decide_eq_true (show (1 : Int) ≤ (st : Int) by omega)]
  refine iteT ⟨_, rfl, b, C, dx, _, _, rfl, hb, T.cl, T.nR, bf_rows _ _, r, rs, rfl, .inr hr', _, _, rfl, rfl, _, rfl, ?_⟩
  have e : decide ((st : Int) ≤ ((rs.length : Nat) : Int)) = true := decide_eq_true (by omega)
  rw [e]
  refine iteF ⟨_, rfl, b, C, dx, _, _, rfl, hb, T.cl, T.nR, bf_rows _ _, _, rfl, _, _, rfl, rfl, r, rs, _, x, rfl, rfl, hr', at_of (j := st - 1) (by omega) hx, ?_⟩
  exact q x hxR
abbrev s_Book_asks : Stmt := inClass (top 41) 4
theorem sc_Book_asks : FnScope ["self", "stamp"] ["self", "stamp"] (defScope s_Book_asks) := ⟨rfl, rfl, rfl, by decide +kernel, rfl, by decide +kernel, by decide +kernel⟩
def spAsks (K : PySem.W.Frag) (C : Addr) : Sp := fun vs H Q _ => ∃ (v : V) (rows : List Row) (s : Nat) (row : Row), vs = [v, .int (s : Int)] ∧ BookH K C H rows v ∧ 0 < s ∧ (s : Int) < 10 ^ 60 ∧ rows[s - 1]? = some row ∧ ∀ x, AskH K H row.ask x → Q x H
theorem ok_asks (A : AtM K C "asks" "Book.asks" s_Book_asks ["self", "stamp"]) (B : Bi mg) (T : Bk K mg C) (DM__row : HasM P w K mg base C "_row" ["self", "stamp"] 2 (spRow K C)) : HasM P w K mg base C "asks" ["self", "stamp"] 3 (spAsks K C) := by
  refine .mk A fun f fd F => ?_
  refine F.ok sc_Book_asks (fun vs H Q E h => ?_) (fun cdv A outer s H vs Q E hr h => ?_)
  · obtain ⟨v, rows, st, row, rfl, _⟩ := h
    rfl
  obtain ⟨v, rows, st, row, rfl, hB, h0, h1, hrow, q⟩ := h
  obtain ⟨fm__row, fdm__row, GM__row, bm__row, mm__row⟩ := DM__row
  refine ⟨_, (pss_one (ps_ret (pe_ix (ixT K) (pe_meth (pv 0) T.cl mm__row GM__row (hr.mono (by decide)) bm__row .nil pass0 (pa_cons (pv 1) pa_nil)) pe_int (fun _ _ => rfl)))), ?_⟩
  have hB' := hB
  obtain ⟨b, dx, r, q', rs, rfl, hb, _⟩ := hB
  refine ⟨_, rfl, b, dx, _, rfl, hb, bf_no _ _ (by decide +kernel) (by decide +kernel), _, rfl, _, rows, st, row, rfl, hB', h0, h1, hrow, fun x hx => ?_⟩
  obtain ⟨p, z, av, cv, rfl, hp, hav⟩ := hx
  exact ⟨p, _, _, av, rfl, rfl, hp, atI_nat (j := 2) rfl, q av hav.1⟩
abbrev s_check_book : Stmt := top 46
theorem sc_check_book : FnScope ["book"] ["book"] (defScope s_check_book) := ⟨rfl, rfl, rfl, by decide +kernel, rfl, by decide +kernel, by decide +kernel⟩
def spCheckBook (K : PySem.W.Frag) (C : Addr) : Sp := fun vs H Q _ => ∃ (v : V) (rows : List Row), vs = [v] ∧ BookH K C H rows v ∧ Q .non H
theorem ok_check_book (A : At K mg "check_book" s_check_book ["book"]) (B : Bi mg) (T : Bk K mg C) : Has P w K mg base "check_book" ["book"] 1 (spCheckBook K C) := by
  refine .mk A fun f fd F => ?_
  refine F.ok sc_check_book (fun vs H Q E h => ?_) (fun cdv A outer s H vs Q E hr h => ?_)
  · obtain ⟨v, rows, rfl, _⟩ := h
    rfl
  obtain ⟨v, rows, rfl, ⟨b, dx, r, q', rs, rfl, hb, _⟩, q⟩ := h
  have T_Book := T.mgC
  refine ⟨_, (pss_one (ps_if (pt_not (pt_val (pe_callB (isiK K) (by rfl) B.isinstance (by decide +kernel) (pa_cons (pv 0) (pa_cons (pe_glob rfl T_Book r_ref) pa_nil))))) (pss_one ps_never) pss_nil)), ?_⟩
  exact ⟨_, rfl, _, _, _, _, true, rfl, .own C, .base (.ins hb T.cl T.ha T.hn T.htk T.hm), T.kit, _, rfl, iteF q⟩
abbrev s_is_type : Stmt := top 47
theorem sc_is_type : FnScope ["book", "value"] ["book", "value"] (defScope s_is_type) := ⟨rfl, rfl, rfl, by decide +kernel, rfl, by decide +kernel, by decide +kernel⟩
def spIsType (K : PySem.W.Frag) (C : Addr) : Sp := fun vs H Q _ => ∃ (b v : V) (rows : List Row) (T : Ty), vs = [b, v] ∧ BookH K C H rows b ∧ TyH K H T v ∧ T.Ok (arOf rows) ∧ T.sz ≤ 300 ∧ ∀ H', Same H H' → Q (.bl true) H'
theorem ok_is_type (A : At K mg "is_type" s_is_type ["book", "value"]) (B : Bi mg) (T : Bk K mg C) (D_check_book : Has P w K mg base "check_book" ["book"] 1 (spCheckBook K C)) (D_is_shape : Has P w K mg base "is_shape" ["value", "arities"] 5 (spShape K)) : Has P w K mg base "is_type" ["book", "value"] 6 (spIsType K C) := by
  refine .mk A fun f fd F => ?_
  refine F.ok sc_is_type (fun vs H Q E h => ?_) (fun cdv A outer s H vs Q E hr h => ?_)
  · obtain ⟨b, v, rows, T', rfl, _⟩ := h
    rfl
  obtain ⟨b, v, rows, T', rfl, hB, hT, hok, hsz, q⟩ := h
  obtain ⟨f_check_book, fd_check_book, G_check_book, b_check_book, k_check_book, m_check_book⟩ := D_check_book
  obtain ⟨f_is_shape, fd_is_shape, G_is_shape, b_is_shape, k_is_shape, m_is_shape⟩ := D_is_shape
  refine ⟨_, (pss_cons (ps_expr (pe_call G_check_book (hr.mono (by decide)) rfl m_check_book k_check_book b_check_book .nil pass0 (pa_cons (pv 0) pa_nil)))
  (pss_one (ps_ret (pe_call G_is_shape (hr.mono (by decide)) rfl m_is_shape k_is_shape b_is_shape .nil pass0 (pa_cons (pv 1) (pa_cons (pe_fld (pv 0) rfl) pa_nil)))))), ?_⟩
  have hB' := hB
  obtain ⟨b, dx, r, q', rs, rfl, hb, _, _, hq⟩ := hB
  exact ⟨_, rfl, _, rows, rfl, hB', _, rfl, _, rfl, b, C, dx, _, _, rfl, hb, T.cl, T.nA, bf_ar _ _, T', v, q', _, rfl, hT, hok, hsz, hq, q⟩
abbrev s_check_type : Stmt := top 48
theorem sc_check_type : FnScope ["book", "T"] ["book", "T"] (defScope s_check_type) := ⟨rfl, rfl, rfl, by decide +kernel, rfl, by decide +kernel, by decide +kernel⟩
def spCheckType (K : PySem.W.Frag) (C : Addr) : Sp := fun vs H Q _ => ∃ (b v : V) (rows : List Row) (T : Ty), vs = [b, v] ∧ BookH K C H rows b ∧ TyH K H T v ∧ T.Ok (arOf rows) ∧ T.sz ≤ 300 ∧ ∀ H', Same H H' → Q .non H'
theorem ok_check_type (A : At K mg "check_type" s_check_type ["book", "T"]) (D_is_type : Has P w K mg base "is_type" ["book", "value"] 6 (spIsType K C)) : Has P w K mg base "check_type" ["book", "T"] 7 (spCheckType K C) := by
  refine .mk A fun f fd F => ?_
  refine F.ok sc_check_type (fun vs H Q E h => ?_) (fun cdv A outer s H vs Q E hr h => ?_)
  · obtain ⟨b, v, rows, T', rfl, _⟩ := h
    rfl
  obtain ⟨b, v, rows, T', rfl, hB, hT, hok, hsz, q⟩ := h
  obtain ⟨f_is_type, fd_is_type, G_is_type, b_is_type, k_is_type, m_is_type⟩ := D_is_type
  refine ⟨_, (pss_one (ps_if (pt_not (pt_val (pe_call G_is_type (hr.mono (by decide)) rfl m_is_type k_is_type b_is_type .nil pass0 (pa_cons (pv 0) (pa_cons (pv 1) pa_nil))))) (pss_one ps_never) pss_nil)), ?_⟩
  exact ⟨_, rfl, _, rfl, b, v, rows, T', rfl, hB, hT, hok, hsz, fun H' g => ⟨_, rfl, iteF (q H' g)⟩⟩
end
end Lq
namespace Lq
open PySem L2
theorem len_below : ∀ (k : Nat) (ns : List Nat), ns.Nodup → (∀ n ∈ ns, n < k) → ns.length ≤ k
  | 0, ns, _, h => by
    cases ns with
    | nil => exact Nat.le_refl _
    | cons n r => exact absurd (h n List.mem_cons_self) (Nat.not_lt_zero _)
  | k + 1, ns, hd, h => by
    have h1 := len_below k (ns.filter (· ≠ k)) (hd.filter _) fun n hn => by
      have q := List.mem_filter.mp hn
      have := h n q.1
      have : n ≠ k := by simpa using q.2
      omega
    have h2 : ns.length ≤ (ns.filter (· ≠ k)).length + 1 := by
      clear h1 h
      induction ns with
      | nil => exact Nat.zero_le _
      | cons n r ih =>
        have hd2 := List.nodup_cons.mp hd
        by_cases e : n = k
        · subst e
          have e2 : r.filter (· ≠ n) = r := List.filter_eq_self.mpr fun m hm => by
            have : m ≠ n := fun z => hd2.1 (z ▸ hm)
            simpa using this
          rw [List.filter_cons, if_neg (by simp), e2, List.length_cons]
          exact Nat.le_refl _
        · have := ih hd2.2
          rw [List.filter_cons, if_pos (by simpa using e), List.length_cons, List.length_cons]
          omega
    omega
theorem mem_cast (ns : List Nat) (n : Nat) : n ∈ ns ↔ (n : Int) ∈ ns.map fun (k : Nat) => (k : Int) := by
  rw [List.mem_map]
  exact ⟨fun h => ⟨n, h, rfl⟩, fun ⟨k, h, e⟩ => by
    have : k = n := by omega
    rw [← this]
    exact h⟩
theorem sorted_nat {js : List Int} {F : List Nat} (hperm : js.Perm (F.map fun (n : Nat) => (n : Int))) (hs : js.Pairwise (· ≤ ·)) (hd : F.Nodup) :
    ∃ ns : List Nat, js = ns.map (fun (n : Nat) => (n : Int)) ∧ ns.Pairwise (· < ·) ∧ (∀ n, n ∈ ns ↔ n ∈ F) ∧ ns.length = F.length := by
  have e : js = (js.map Int.toNat).map fun (n : Nat) => (n : Int) := by
    rw [List.map_map]
    refine (List.map_id js).symm.trans (List.map_congr_left fun z hz => ?_)
    obtain ⟨n, _, e⟩ := List.mem_map.mp (hperm.mem_iff.mp hz)
    show z = ((z.toNat : Nat) : Int)
    rw [← e]
    rfl
  refine ⟨js.map Int.toNat, e, ?_, fun n => ?_, ?_⟩
  · have hn : (F.map fun (n : Nat) => (n : Int)).Nodup := List.pairwise_map.mpr (hd.imp fun {a b} h => by
      intro z
      exact h (by omega))
    have hj : js.Nodup := hperm.nodup_iff.mpr hn
    have h2 : js.Pairwise (· < ·) := (hs.and hj).imp fun {a b} h => by
      obtain ⟨h1, h2⟩ := h
      have h2 : a ≠ b := h2
      omega
    rw [e] at h2
    exact (List.pairwise_map.mp h2).imp fun {a b} h => by omega
  · rw [mem_cast, ← e, hperm.mem_iff, ← mem_cast]
  · rw [List.length_map, hperm.length_eq, List.length_map]
theorem inV_nat (n : Nat) : ∀ (ms : List Nat), inV (.int (n : Int)) (natV ms) = decide (n ∈ ms)
  | [] => rfl
  | m :: r => by
    show (eqV (.int (m : Int)) (.int (n : Int)) || inV (.int (n : Int)) (natV r)) = _
    rw [inV_nat n r]
    show (((m : Int) == (n : Int)) || decide (n ∈ r)) = decide (n ∈ m :: r)
    by_cases e : m = n
    · subst e
      simp
    · have e1 : ((m : Int) == (n : Int)) = false := by
        rw [beq_eq_false_iff_ne]
        omega
      rw [e1, Bool.false_or]
      exact decide_eq_decide.mpr ⟨fun h => List.mem_cons_of_mem _ h, fun h => (List.mem_cons.mp h).resolve_left fun z => e z.symm⟩
theorem flat_nat (ms : List Nat) : (natV ms).all flatV = true := by
  unfold natV
  rw [List.all_map]
  exact List.all_eq_true.mpr fun _ _ => rfl
theorem all_same {ns M : List Nat} (h : ∀ n, n ∈ ns ↔ n ∈ M) (f : Nat → Bool) : ns.all f = M.all f := by
  rw [Bool.eq_iff_iff, List.all_eq_true, List.all_eq_true]
  exact ⟨fun q n hn => q n ((h n).mpr hn), fun q n hn => q n ((h n).mp hn)⟩
end Lq
namespace Lq
open PySem L2
def sg (us : List Ty) (n : Nat) : Ty := us[n]?.getD (.node .tup [])
end Lq
namespace Lq
open PySem PySem.Spec PyProof.Rows L2
section
variable {X : Cx}
/-- a ** b where a's bits, b times, are few enough -/
theorem op_powB : OpR X (binaryOp .Pow) (rI (fun i j => 0 ≤ j ∧ (Builtin.Int.intBits i : Int) * j ≤ 2 ^ 27) fun i j => .int (i ^ j.toNat)) :=
  opI fun _ _ _ _ _ _ _ hc q => pow_int hc.1 hc.2 q
/-- set(t), t a tuple of ints -/
def rSetT (K : PySem.W.Frag) (w : World) : List V → Hp → VK → Prop := fun xs H Q => ∃ (a : Addr) (ns : List Int), xs = [.ref a] ∧ SqT K H a (ns.map V.int) ∧ ns.length ≤ 60 ∧
  ∀ p c, H p = none → c ≤ ns.length → Q (.ref p) (upd H p (SetO w p (fun j => decide (j ∈ ns)) c))
theorem set_ofT (hc : X.calm = true) : CallR X (.type "set") (rSetT X.K X.w) := by
  intro pins s σ H xs us Q I r h
  obtain ⟨a, ns, rfl, hS, hl, q⟩ := h
  obtain ⟨u, rfl, rx⟩ := vals1 r
  obtain rfl : u = Value.ref a := rx
  obtain ⟨its, rv, ht, hz⟩ := I.tuple hS
  refine L2.call_set_tupI ns (I.ok.hd hc) ht (by simpa using RZ.intsAre_vals rv) (by unfold scanBound; omega) fun h' tk c hR hcn hk => ?_
  refine ⟨.ref s.heap.objs.size, upd H s.heap.objs.size (SetO X.w s.heap.objs.size (fun j => decide (j ∈ ns)) c), I.laid (t' := tk) hk (Nat.le_refl _) (setO_new hR), rfl, q _ c (I.hok.fresh (Nat.le_refl _)) hcn⟩
end
end Lq
/-! set(xs), xs a list of different texts -/
namespace Lq
open PySem PySem.Spec PyProof.Rows SS
section
variable {prog : Program} {w : World} {A : Around} {R : Result → Shared → Prop} {I : Addr} {fp wr : List Addr} {G : Array GenState → Array GenState → Prop} {n : Nat} {P : Nat → Value → Prop} {St : Nat → Shared → Prop}
theorem loopN (W : WalksS prog w A.in1 I fp wr G n P St) (S : Addr) (qSf : S ∉ fp) (xs : List Str) (qsz : xs.length = n) (hnd : xs.Nodup) (qn1 : n ≤ 100)
    (qval : ∀ i v, P i v → ∃ t, v = .str (xs.getD i Str.empty) t) :
    ∀ (k i : Nat) (s : Shared), n - i = k → i ≤ n → St i s →
      s.heap.SetOf (PySem.strKind prog w) S (fun k' => (xs.take i).any (· == k')) i →
      (∀ s', Moved (S :: wr) G s s' → s'.heap.SetOf (PySem.strKind prog w) S (fun k' => (xs.take n).any (· == k')) n → R (.ok (.ret .none)) s') →
      codeAny (model prog w) A (.builtin "set.update.loop" ⟨[.ref S, .ref I], []⟩) R s := by
  have qSw : S ∉ wr := fun h => qSf (W.sub _ h)
  have qsub : ∀ b ∈ wr, b ∈ S :: wr := fun b hb => List.mem_cons_of_mem _ hb
  intro k
  induction k with
  | zero =>
    intro i s qk qi qst qS qR
    have hin : i = n := by omega
    subst hin
    refine codeAny_builtin PyProof.Rows.F.entry_set_update_loop ?_
    rw [Around.under_plainId PyProof.Rows.F.plain_set_update_loop _]
    show wpAny _ A.in1 (pyNext (.ref I) >>= _) _ _ s
    refine wpAny_bind (W.done s _ _ qst fun s' qm => ?_)
    show wpAny _ A.in1 (ret Value.none) _ _ s'
    exact wpAny_pure (qR s' (qm.mono qsub) (by
      obtain ⟨o, es, ep, t, ho, rest⟩ := qS
      exact ⟨o, es, ep, t, qm.heap S _ qSw ho, rest⟩))
  | succ k ih =>
    intro i s qk qi qst qS qR
    have qlt : i < n := by omega
    refine codeAny_builtin PyProof.Rows.F.entry_set_update_loop ?_
    rw [Around.under_plainId PyProof.Rows.F.plain_set_update_loop _]
    show wpAny _ A.in1 (pyNext (.ref I) >>= _) _ _ s
    refine wpAny_bind (W.item i s _ _ qlt qst fun v s' qP qst' qm => ?_)
    obtain ⟨t, rfl⟩ := qval i v qP
    have qS' : s'.heap.SetOf (PySem.strKind prog w) S (fun k' => (xs.take i).any (· == k')) i := by
      obtain ⟨o, es, ep, tb, ho, rest⟩ := qS
      exact ⟨o, es, ep, tb, qm.heap S _ qSw ho, rest⟩
    show wpAny _ A.in1 (holding [Value.str (xs.getD i Str.empty) t] (setAdd S (.str (xs.getD i Str.empty) t)) >>= _) _ _ s'
    refine wpAny_bind (wpAny_holding ?_)
    unfold setAdd
    refine wpAny_holding ?_
    refine wpAny_bind ((PySem.strKind prog w).pyHash (k := xs.getD i Str.empty) (strKind_is _ _ _ _) ?_)
    refine wpAny_setAddHashed_of (knd := PySem.strKind prog w) (s := { s' with toks := s'.toks + 1 }) (strKind_is _ _ _ _) rfl qS' (by unfold scanBound; omega) fun h' qsb qS2 => ?_
    have qSi : h'.SetOf (PySem.strKind prog w) S (fun k' => (xs.take (i + 1)).any (· == k')) (i + 1) := by
      have hix : i < xs.length := by omega
      have ex : xs.getD i Str.empty = xs[i] := by
        rw [List.getD_eq_getElem?_getD, List.getElem?_eq_getElem hix]
        rfl
      have no : ((xs.take i).any (· == xs.getD i Str.empty)) = false := by
        rw [ex]
        cases hb : (xs.take i).any (· == xs[i]) with
        | false => rfl
        | true =>
          obtain ⟨y, hy, ey⟩ := List.any_eq_true.mp hb
          have ey2 : y = xs[i] := eq_of_beq ey
          rw [ey2] at hy
          obtain ⟨j, hj⟩ := List.mem_iff_getElem?.mp hy
          rw [List.getElem?_take] at hj
          by_cases hji : j < i
          · rw [if_pos hji] at hj
            obtain ⟨hjl, ej⟩ := List.getElem?_eq_some_iff.mp hj
            exact absurd ej (List.pairwise_iff_getElem.mp hnd j i hjl hix hji)
          · rw [if_neg hji] at hj
            cases hj
      refine SetOf_congr qS2 (fun k' => ?_) (by rw [no]; rfl)
      rw [List.take_add_one, List.getElem?_eq_getElem hix, List.any_append, ex]
      show (_ || decide (k' = xs[i])) = (_ || ([xs[i]].any (· == k')))
      congr 1
      by_cases e : k' = xs[i]
      · rw [e]
        simp
      · have e' : (xs[i] == k') = false := by simpa [beq_iff_eq] using (fun h' : xs[i] = k' => e h'.symm)
        simp [e', e]
    refine wpAny_pure ⟨plainId_quiet PyProof.Rows.F.plain_set_update_loop _, ih (i + 1) _ (by omega) qlt (W.frame _ s' _ _ qst' (Nat.le_succ _) fun b hb o e => ?_) qSi fun s'' qm'' qS'' => ?_⟩
    · rw [qsb.2 b (fun h : b = S => qSf (by rw [← h]; exact hb))]; exact e
    · refine qR s'' (Moved.trans W.gtrans ((qm.mono qsub).then_heap (Nat.le_succ _) fun b o hb e => ?_) qm'') qS''
      rw [qsb.2 b (fun h : b = S => hb (by rw [h]; exact List.mem_cons_self))]; exact e
end
section
variable {prog : Program} {w : World} {A : Around} {E : Value → Shared → Prop} {s : Shared}
set_option maxHeartbeats 3200000 in
theorem set_listN {l : Addr} {items : Array Value} {xs : List Str} {Q : Value → Shared → Prop}
    (qh : A.handled = none) (ql : s.heap.IsList l items) (qi : PyProof.Rows.StrsAre items.toList xs) (hnd : xs.Nodup) (qn1 : xs.length ≤ 100)
    (h : ∀ (h' : Heap) (tk : Nat), h'.SetOf (PySem.strKind prog w) s.heap.objs.size (fun k' => (xs.take items.size).any (· == k')) items.size →
      (∀ b o, b < s.heap.objs.size → s.heap.get? b = some o → h'.get? b = some o) → Q (.ref s.heap.objs.size) { s with heap := h', toks := tk }) :
    wpAny (model prog w) A (call (.type "set") [.ref l]) Q E s := by
  obtain ⟨c, tl, qmro⟩ := PySem.F.called_set.mro
  have qmade := PySem.F.called_set.made
  have qsub := PySem.F.called_set.sub
  refine wpAny_call (codeAny_of_tree ?_)
  show wpAny _ _ (callAny (.type "set") _) _ _ _
  refine wpAny_pure ⟨Code.quiet_builtin _ (by decide +kernel), codeAny_builtin PySem.F.entry_type_call ?_⟩
  rw [Around.under_plain (weight_type_call_type "set" [.ref l] []) rfl]
  have h1 := PySem.F.called_set.notType
  have h2 := PySem.F.called_set.canCreate
  have qct := PySem.F.typeCall_set_1 (.ref l)
  repeat (any_goals (first | assumption | wp_step))
  refine codeAny_mono (code_set_new_1 (.ref l) (E := E) (Q₁ := fun obj s₁ => ∃ lg : Bool, obj = .ref s.heap.objs.size ∧ s₁ = { s with heap := s.heap.push { cls := .type "set", dict := none, data := .set #[] 0 (.fresh 0 0 lg) } }) fun lg => ⟨lg, rfl, rfl⟩) fun r s₁ qr => ?_
  cases r with
  | error e => exact qr
  | ok fl =>
    cases fl with
    | ret obj =>
      obtain ⟨lg, rfl, rfl⟩ := qr
      have qS : (s.heap.push { cls := .type "set", dict := none, data := .set #[] 0 (.fresh 0 0 lg) }).get? s.heap.objs.size = some { cls := .type "set", dict := none, data := .set #[] 0 (.fresh 0 0 lg) } := Heap.get?_push_size _ rfl
      have qT : Shared.TypeIs { s with heap := s.heap.push { cls := .type "set", dict := none, data := .set #[] 0 (.fresh 0 0 lg) } } (.ref s.heap.objs.size) "set" := ⟨_, qS, rfl⟩
      have qli := PySem.F.called_set.init.lookup
      have qbi := PySem.F.called_set.init.bind (.ref s.heap.objs.size)
      repeat (any_goals (first | assumption | wp_step))
      refine codeAny_mono (codeAny_call_builtin (R := wants (fun r s₂ => r = .none ∧ ∃ h' tk, s₂ = { s with heap := h', toks := tk } ∧
          h'.SetOf (PySem.strKind prog w) s.heap.objs.size (fun k' => (xs.take items.size).any (· == k')) items.size ∧
          (∀ b o, b < s.heap.objs.size → s.heap.get? b = some o → h'.get? b = some o)) E) PySem.F.called_set.init.plain PySem.F.entry_set_init (check_set_init_1 qT ?_)) fun r₂ s₂ qr₂ => ?_
      · obtain ⟨ol, qol, qcl, nl, qdl⟩ := ql
        obtain ⟨oc, od, odt, osl⟩ := ol
        simp only at qcl qdl
        subst qcl; subst qdl
        have qol' : (s.heap.push { cls := .type "set", dict := none, data := .set #[] 0 (.fresh 0 0 lg) }).get? l = some { cls := .type "list", dict := od, data := .seq items nl, slots := osl } := Heap.get?_push_of_some _ qol
        have qsls := PySem.F.sub_list_set
        have qslf := PySem.F.sub_list_frozenset
        have qne : (Value.type "list" == Value.type "dict") = false := by decide
        have ql1 : (s.heap.push { cls := .type "set", dict := none, data := .set #[] 0 (.fresh 0 0 lg) }).IsList l items := ⟨_, qol', rfl, nl, rfl⟩
        unfold Builtin.«set.__init__» noKeywords Builtin.Frozenset.updateFrom
        generalize hPI : pyIter = PI
        wp_walk
        subst hPI
        refine wpAny_pyIter_list ql1 ?_
        refine wpAny_bind (wpAny_runValue ?_)
        have qlS : l < s.heap.objs.size := Heap.lt_size qol
        have qh3 : A.in1.in1.in1.handled = none := by simp [qh]
        have qneI : l ≠ (s.heap.push { cls := .type "set", dict := none, data := .set #[] 0 (.fresh 0 0 lg) }).objs.size := by
          rw [Heap.size_push]; exact Nat.ne_of_lt (Nat.lt_succ_of_lt qlS)
        have qSf : s.heap.objs.size ∉ [(s.heap.push { cls := .type "set", dict := none, data := .set #[] 0 (.fresh 0 0 lg) }).objs.size, l] := by
          rw [Heap.size_push]; simp only [List.mem_cons, List.mem_singleton, List.not_mem_nil, or_false, not_or]
          exact ⟨Nat.ne_of_lt (Nat.lt_succ_self _), Nat.ne_of_gt qlS⟩
        have qsz : xs.length = items.size := by rw [← StrsAre.len_eq qi, Array.length_toList]
        have qval : ∀ (i : Nat) (v : Value), items[i]? = some v → ∃ t, v = .str (xs.getD i Str.empty) t := fun i v qv => strs_at qi i v (by rw [Array.getElem?_toList]; exact qv)
        refine loopN ((Walks.list qh3 _ l qneI items).toS) s.heap.objs.size
          qSf xs qsz hnd (by rw [← qsz]; exact qn1) qval (items.size - 0) 0 _ (by omega) (Nat.zero_le _)
          ⟨⟨_, Heap.get?_push_size _ rfl, rfl, rfl⟩, (ql1.push _)⟩ ?hS0 ?hR
        case hS0 =>
          have qget : ((s.heap.push { cls := .type "set", dict := none, data := .set #[] 0 (.fresh 0 0 lg) }).push { cls := .type "list_iterator", data := .fields #[.ref l, .int 0 0] }).get? s.heap.objs.size
              = some { cls := .type "set", dict := none, data := .set #[] 0 (.fresh 0 0 lg) } := Heap.get?_push_of_some _ qS
          exact PyProof.Rows.SetOf_congr ((PyProof.Rows.setObjOf_fresh (knd := PySem.strKind prog w) lg).setOf qget (by unfold scanBound; omega)) (fun _ => rfl) rfl
        case hR =>
          intro s' qm qS'
          obtain ⟨h', g', d', tk', os'⟩ := s'
          have eg : g' = s.gens := qm.gens
          have ed : d' = s.drawn := qm.drawn
          have eo : os' = s.os := qm.os
          subst eg; subst ed; subst eo
          show wpAny _ _ _ _ _ _
          refine wpAny_pure ?_
          show wpAny _ _ (ret Value.none) _ _ _
          refine wpAny_pure ⟨rfl, h', tk', rfl, qS', fun b o hb e => ?_⟩
          have hb1 : b ≠ s.heap.objs.size := Nat.ne_of_lt hb
          have hb2 : b ≠ (s.heap.push { cls := .type "set", dict := none, data := .set #[] 0 (.fresh 0 0 lg) }).objs.size := by
            rw [Heap.size_push]; exact Nat.ne_of_lt (Nat.lt_succ_of_lt hb)
          exact qm.heap b o (by simp only [List.mem_cons, List.mem_singleton, List.not_mem_nil, or_false, not_or]; exact ⟨hb1, hb2⟩) (Heap.get?_push_of_some _ (Heap.get?_push_of_some _ e))
      · cases r₂ with
        | error e => exact qr₂
        | ok fl₂ =>
          cases fl₂ with
          | ret r =>
            obtain ⟨rfl, h', tk, rfl, qS', qk'⟩ := qr₂
            repeat (any_goals (first | assumption | wp_step))
            exact h _ _ qS' qk'
          | _ => exact qr₂.elim
    | _ => exact qr.elim
end
end Lq
/-! len(set(xs)), xs a list of different texts -/
namespace Lq
open PySem PySem.Spec PyProof.Rows L2
def tLenSetN (K : PySem.W.Frag) (ta : TE) : TE := fun σ H Q => ta σ H fun x H1 => ∃ (l : Addr) (zs : List Str), x = .ref l ∧ SqL K H1 l (zs.map V.str) ∧ zs.Nodup ∧ zs.length ≤ 100 ∧ Q (.int (zs.length : Nat)) H1
theorem pe_lenSetN {X : Cx} {a : Expr} {ta : TE} {p p2 q pos : Pos} (hg : Gl X "len") (hm : X.mg "len" = none) (gs : Gl X "set") (ms : X.mg "set" = none) (ha : PE X a ta) (hc : X.calm = true := by rfl)
    (na : starEach [a] X.env = (false, eval a X.env) :: starEach [] X.env := by rfl) : PE X (.Call (.Name "len" p) [.Call (.Name "set" p2) [a] [] q] [] pos) (tLenSetN X.K ta) := by
  refine ⟨fun pins s σ H Q I h => ?_⟩
  refine Call_ (ld_blt I hg hm boot_len (PyProof.Rows.callWith_builtin1 (PyProof.Rows.args_cons ?_ rfl) rfl rfl))
  refine Call_ (ld_blt I gs ms boot_set (PyProof.Rows.callWith_type1
    (PyProof.Rows.args_cons (thn (ha.run pins s σ H _ I h) fun v s1 ⟨x, H1, I1, r1, q1⟩ => PyProof.Rows.args_nil ?_) na) na rfl))
  obtain ⟨l, zs, rfl, hq, hnd, hl, q1⟩ := q1
  cases r1
  obtain ⟨its, rv, pl, hz⟩ := I1.list hq
  have hlen : its.toArray.size = zs.length := by
    rw [List.size_toArray, ← rv.length, List.length_map]
  refine set_listN (I1.ok.hd hc) pl.isList (by simpa using strsAre_of rv) hnd hl fun h' tk hS hk => PyProof.Rows.args_nil ?_
  rw [hlen] at hS
  obtain ⟨o, es, ep, t, ho, hex, hd, _, _, _, hf, hn⟩ := hS
  have I2 : Inv X pins σ H1 { s1 with heap := h', toks := tk } := I1.kept fun b o e => hk b o (Heap.lt_size e) e
  exact call_len_set ho hex hd hf (by rw [hn]; omega) ⟨.int zs.length, H1, I2.tok _, ⟨_, by rw [hn]⟩, q1⟩
end Lq
namespace Lq
open PySem L2
theorem lc_str {z : Str} {g : TG} {tt : TT} {te : TE} {vs : List Nat} {σ : St} {H1 : Hp} {D : Addr} {Qd : Hp → Prop} (Pv : Nat → Hp → Prop) (h0 : Pv 0 (upd H1 D (.lst [])))
    (hs : ∀ i c H, z.cps[i]? = some c → Pv i H → g (.str ⟨#[c]⟩) (wipe σ vs) H fun σ2 H2 => wipe σ2 vs = wipe σ vs ∧ tt σ2 H2 fun b H3 =>
      if b = true then te σ2 H3 fun y H4 => ∃ acc, H4 D = some (.lst acc) ∧ acc.length < sizeLine ∧ Pv (i + 1) (upd H4 D (.lst (acc ++ [y]))) else Pv (i + 1) H3) (hd : ∀ H, Pv z.cps.size H → Qd H) :
    ∃ W : Nat → Nat → Hp → Prop, (∃ m, W 0 m (upd H1 D (.lst []))) ∧ ∀ i m H, W i m H →
      ((Its z).stop i H ∧ Qd H) ∨ ((Its z).go i H ∧ ∃ Nx : Hp → Prop, (∀ H', Nx H' → ∃ m', m' < m ∧ W (i + 1) m' H') ∧ ∀ x H', (Its z).yld i H x H' → g x (wipe σ vs) H' fun σ2 H2 => wipe σ2 vs = wipe σ vs ∧ tt σ2 H2 fun b H3 =>
        if b = true then te σ2 H3 fun y H4 => ∃ acc, H4 D = some (.lst acc) ∧ acc.length < sizeLine ∧ Nx (upd H4 D (.lst (acc ++ [y]))) else Nx H3) := by
  refine ⟨fun i m H => m = z.cps.size - i ∧ i ≤ z.cps.size ∧ Pv i H, ⟨z.cps.size, by simp, Nat.zero_le _, h0⟩, ?_⟩
  rintro i m H ⟨rfl, hi, p⟩
  by_cases hlt : i < z.cps.size
  · refine .inr ⟨hlt, Pv (i + 1), fun H' p' => ⟨z.cps.size - (i + 1), by omega, rfl, hlt, p'⟩, fun x H' y => ?_⟩
    obtain ⟨rfl, c, e, rfl⟩ := y
    exact hs i c _ e p
  · have e : i = z.cps.size := by omega
    subst e
    exact .inl ⟨Nat.le_refl _, hd H p⟩
abbrev lowS : Str := "abcdefghijklmnopqrstuvwxyz"
abbrev highS : Str := "ABCDEFGHIJKLMNOPQRSTUVWXYZ"
structure LowOk (kw : List V) (z : Str) : Prop where
  l1 : 1 ≤ z.length
  l8 : z.length ≤ 8
  all : ∀ c ∈ z.cps.toList, c ∈ lowS.cps.toList
  kw : inV (.str z) kw = false
structure HighOk (z : Str) : Prop where
  l1 : 1 ≤ z.length
  l8 : z.length ≤ 8
  first : ∃ c, z.cps[0]? = some c ∧ c ∈ highS.cps.toList
  all : ∀ c ∈ z.cps.toList, c ∈ lowS.cps.toList ∨ c ∈ highS.cps.toList
structure Kw (K : PySem.W.Frag) (mg : Str → Option Value) (ak : Addr) (kw : List V) : Prop where
  m : mg "KEYWORDS" = some (.ref ak)
  sq : ∀ H, SqT K H ak kw
  flat : kw.all flatV = true
section
variable {P : Program} {w : World} {K : PySem.W.Frag} {mg : Str → Option Value} {base : Heap} {C : Addr}
abbrev s__is_word : Stmt := top 19
theorem sc__is_word : FnScope ["value"] ["value"] (defScope s__is_word) := ⟨rfl, rfl, rfl, by decide +kernel, rfl, by decide +kernel, by decide +kernel⟩
def spWord : Sp := fun vs H Q _ => ∃ z : Str, vs = [.str z] ∧ 1 ≤ z.length ∧ z.length ≤ 8 ∧ Q (.bl true) H
theorem ok_is_word (A : At K mg "_is_word" s__is_word ["value"]) (B : Bi mg) (Cc : Ct K mg) : Has P w K mg base "_is_word" ["value"] 1 spWord := by
  refine .mk A fun f fd F => ?_
  refine F.ok sc__is_word (fun vs H Q E h => ?_) (fun cdv A outer s H vs Q E hr h => ?_)
  · obtain ⟨z, rfl, _⟩ := h
    rfl
  obtain ⟨z, rfl, h1, h8, q⟩ := h
  obtain ⟨tL, T_LONGEST_NAME⟩ := Cc.LONGEST
  refine ⟨_, (pss_one (ps_ret (pe_and (pe_callB (isiK K) (by rfl) B.isinstance (by decide +kernel) (pa_cons (pv 0) (pa_cons (pe_bltn (v := .ty "str") rfl B.str (by decide +kernel) rfl) pa_nil))) (pe_one (pe_chain op_le op_le pe_int (pe_callB call_len (by rfl) B.len (by decide +kernel) (pa_cons (pv 0) pa_nil)) (pe_glob rfl T_LONGEST_NAME r_int)))))), ?_⟩
  refine ⟨_, rfl, _, _, _, _, true, rfl, .ty _, .base (.str z), kit_ty (by decide +kernel), _, rfl, iteT ?_⟩
  refine ⟨_, rfl, _, _, rfl, ⟨small300 (by omega), rfl⟩, _, _, rfl, rfl, _, rfl, ?_⟩
  rw [decide_eq_true (show (1 : Int) ≤ ((z.length : Nat) : Int) by omega)]
  refine iteT ⟨_, _, rfl, rfl, ?_⟩
  have d : Q (.bl (decide (((z.length : Nat) : Int) ≤ 8))) H := by
    rw [decide_eq_true (show ((z.length : Nat) : Int) ≤ 8 by omega)]
    exact q
  exact d
abbrev s_is_low : Stmt := top 20
theorem sc_is_low : FnScope ["value", "letter"] ["value"] (defScope s_is_low) := ⟨rfl, rfl, rfl, by decide +kernel, rfl, by decide +kernel, by decide +kernel⟩
def spLow (kw : List V) : Sp := fun vs H Q _ => ∃ z : Str, vs = [.str z] ∧ LowOk kw z ∧ ∀ H', Same H H' → Q (.bl true) H'
theorem ok_is_low {ak : Addr} {kw : List V} (A : At K mg "is_low" s_is_low ["value"]) (B : Bi mg) (Cc : Ct K mg) (W : Kw K mg ak kw) (D__is_word : Has P w K mg base "_is_word" ["value"] 1 spWord) : Has P w K mg base "is_low" ["value"] 2 (spLow kw) := by
  refine .mk A fun f fd F => ?_
  refine F.ok sc_is_low (fun vs H Q E h => ?_) (fun cdv A outer s H vs Q E hr h => ?_)
  · obtain ⟨z, rfl, _⟩ := h
    rfl
  obtain ⟨z, rfl, hz, q⟩ := h
  obtain ⟨f__is_word, fd__is_word, G__is_word, b__is_word, k__is_word, m__is_word⟩ := D__is_word
  obtain ⟨tL, T_LOW_LETTERS⟩ := Cc.LOW
  have T_KEYWORDS := W.m
  refine ⟨_, (pss_one (ps_ret (pe_and (pe_call G__is_word (hr.mono (by decide)) rfl m__is_word k__is_word b__is_word .nil pass0 (pa_cons (pv 0) pa_nil)) (pe_and (pe_callB (cr_all rfl) (by rfl) B.all (by decide +kernel) (pa_cons (pe_lc (own := [("letter", 1)]) (g := gName 1) (tt := tYes) (by rfl) sc_is_low.nd (pi_str (pv 0)) (blkOk_by (N := ["value", "letter"]) (sc := defScope s_is_low) (by decide +kernel)) (fun _ _ _ _ _ => (pg_name (i := 1) sc_is_low.nd rfl (Or.inl rfl))) (fun _ _ _ _ _ => pts_nil) (fun _ _ _ _ _ => (pe_cmpR op_in_sign (pv 1) (pe_glob rfl T_LOW_LETTERS r_str) rfl))) pa_nil)) (pe_one (pe_cmpR (notInS K) (pv 0) (pe_glob rfl T_KEYWORDS r_ref) rfl)))))), ?_⟩
  refine ⟨_, rfl, z, rfl, hz.l1, hz.l8, _, rfl, iteT ?_⟩
  refine ⟨_, rfl, z, rfl, fun D hD => lc_str (AllInv H D) (.start hD) ?_ ?_⟩
  · intro i c H3 hc p
    have hm : c ∈ lowS.cps.toList := hz.all c (by
      rw [← Array.getElem?_toList] at hc
      exact List.mem_of_getElem? hc)
    have hil : i < z.length := (Array.getElem?_eq_some_iff.mp hc).1
    have h8 := hz.l8
    refine ⟨rfl, _, rfl, c, _, rfl, rfl, ?_⟩
    rw [decide_eq_true hm]
    exact p.step hD (by omega)
  · intro H3 p
    refine ⟨D, _, rfl, SqL.of p.2, ?_⟩
    rw [all_rep]
    refine ⟨_, rfl, iteT ⟨_, rfl, ak, kw, rfl, .inr (W.sq _), rfl, W.flat, ?_⟩⟩
    have d : Q (.bl (!inV (.str z) kw)) H3 := by
      rw [hz.kw]
      exact q H3 p.1
    exact d
abbrev s_is_high : Stmt := top 21
theorem sc_is_high : FnScope ["value", "letter"] ["value"] (defScope s_is_high) := ⟨rfl, rfl, rfl, by decide +kernel, rfl, by decide +kernel, by decide +kernel⟩
def spHigh : Sp := fun vs H Q _ => ∃ z : Str, vs = [.str z] ∧ HighOk z ∧ ∀ H', Same H H' → Q (.bl true) H'
theorem ok_is_high (A : At K mg "is_high" s_is_high ["value"]) (B : Bi mg) (Cc : Ct K mg) (D__is_word : Has P w K mg base "_is_word" ["value"] 1 spWord) : Has P w K mg base "is_high" ["value"] 2 spHigh := by
  refine .mk A fun f fd F => ?_
  refine F.ok sc_is_high (fun vs H Q E h => ?_) (fun cdv A outer s H vs Q E hr h => ?_)
  · obtain ⟨z, rfl, _⟩ := h
    rfl
  obtain ⟨z, rfl, hz, q⟩ := h
  obtain ⟨f__is_word, fd__is_word, G__is_word, b__is_word, k__is_word, m__is_word⟩ := D__is_word
  obtain ⟨tL, T_LOW_LETTERS⟩ := Cc.LOW
  obtain ⟨tH, T_HIGH_LETTERS⟩ := Cc.HIGH
  refine ⟨_, (pss_cons (ps_if (PW.pt (pw_or (pt_not (pt_val (pe_call G__is_word (hr.mono (by decide)) rfl m__is_word k__is_word b__is_word .nil pass0 (pa_cons (pv 0) pa_nil)))) (pw_or1 (pt_cmpR op_notIn_sign (pe_ix ix_str (pv 0) pe_int (fun _ _ => rfl)) (pe_glob rfl T_HIGH_LETTERS r_str) rfl)))) (pss_one (ps_ret pe_bl)) pss_nil)
  (pss_one (ps_ret (pe_callB (cr_all rfl) (by rfl) B.all (by decide +kernel) (pa_cons (pe_lc (own := [("letter", 1)]) (g := gName 1) (tt := tYes) (by rfl) sc_is_high.nd (pi_str (pv 0)) (blkOk_by (N := ["value", "letter"]) (sc := defScope s_is_high) (by decide +kernel)) (fun _ _ _ _ _ => (pg_name (i := 1) sc_is_high.nd rfl (Or.inl rfl))) (fun _ _ _ _ _ => pts_nil) (fun _ _ _ _ _ => (pe_or (pe_cmpR op_in_sign (pv 1) (pe_glob rfl T_LOW_LETTERS r_str) rfl) (pe_one (pe_cmpR op_in_sign (pv 1) (pe_glob rfl T_HIGH_LETTERS r_str) rfl))))) pa_nil))))), ?_⟩
  obtain ⟨c0, h0, hm0⟩ := hz.first
  have h8 := hz.l8
  refine ⟨_, rfl, z, rfl, hz.l1, hz.l8, _, rfl, iteF ?_⟩
  refine ⟨_, rfl, _, _, c0, rfl, rfl, small300 (by omega), atI_nat (j := 0) (by rw [Array.getElem?_toList]; exact h0), c0, _, rfl, rfl, _, rfl, ?_⟩
  rw [decide_eq_true hm0]
  refine iteF ?_
  refine ⟨_, rfl, z, rfl, fun D hD => lc_str (AllInv H D) (.start hD) ?_ ?_⟩
  · intro i c H3 hc p
    have hm := hz.all c (by
      rw [← Array.getElem?_toList] at hc
      exact List.mem_of_getElem? hc)
    have hil : i < z.length := (Array.getElem?_eq_some_iff.mp hc).1
    have hstep := p.step hD (show i < 2000 by omega)
    refine ⟨rfl, _, rfl, c, _, rfl, rfl, _, rfl, ?_⟩
    by_cases hl : c ∈ lowS.cps.toList
    · rw [decide_eq_true hl]
      exact iteT hstep
    · rw [decide_eq_false hl]
      refine iteF ⟨_, rfl, c, _, rfl, rfl, ?_⟩
      rw [decide_eq_true (hm.resolve_left hl)]
      exact hstep
  · intro H3 p
    refine ⟨D, _, rfl, SqL.of p.2, ?_⟩
    rw [all_rep]
    exact q H3 p.1
abbrev s_is_arity : Stmt := top 37
theorem sc_is_arity : FnScope ["value"] ["value"] (defScope s_is_arity) := ⟨rfl, rfl, rfl, by decide +kernel, rfl, by decide +kernel, by decide +kernel⟩
def spArity : Sp := fun vs H Q _ => ∃ n : Nat, vs = [.int (n : Int)] ∧ n ≤ 4 ∧ Q (.bl true) H
theorem ok_is_arity (A : At K mg "is_arity" s_is_arity ["value"]) (B : Bi mg) (Cc : Ct K mg) (D_is_integer : Has P w K mg base "is_integer" ["value"] 1 spInt) : Has P w K mg base "is_arity" ["value"] 2 spArity := by
  refine .mk A fun f fd F => ?_
  refine F.ok sc_is_arity (fun vs H Q E h => ?_) (fun cdv A outer s H vs Q E hr h => ?_)
  · obtain ⟨n, rfl, _⟩ := h
    rfl
  obtain ⟨n, rfl, hn, q⟩ := h
  obtain ⟨f_is_integer, fd_is_integer, G_is_integer, b_is_integer, k_is_integer, m_is_integer⟩ := D_is_integer
  obtain ⟨tM, T_MAX_ARITY⟩ := Cc.MAX_ARITY
  refine ⟨_, (pss_one (ps_ret (pe_and (pe_call G_is_integer (hr.mono (by decide)) rfl m_is_integer k_is_integer b_is_integer .nil pass0 (pa_cons (pv 0) pa_nil)) (pe_one (pe_chain op_le op_le pe_int (pv 0) (pe_glob rfl T_MAX_ARITY r_int)))))), ?_⟩
  refine ⟨_, rfl, (n : Int), rfl, by omega, by omega, _, rfl, iteT ⟨_, rfl, _, _, rfl, rfl, _, rfl, ?_⟩⟩
  rw [decide_eq_true (show (0 : Int) ≤ (n : Int) by omega)]
  refine iteT ⟨_, _, rfl, rfl, ?_⟩
  have d : Q (.bl (decide ((n : Int) ≤ 4))) H := by
    rw [decide_eq_true (show (n : Int) ≤ 4 by omega)]
    exact q
  exact d
abbrev s_is_carried : Stmt := top 38
theorem sc_is_carried : FnScope ["value", "arity", "arities", "number"] ["value", "arity", "arities"] (defScope s_is_carried) := ⟨rfl, rfl, rfl, by decide +kernel, rfl, by decide +kernel, by decide +kernel⟩
/-- what is carried: nothing, or a type -/
def CarH (K : PySem.W.Frag) (H : Hp) (c : Option Ty) (v : V) : Prop := match c with
  | none => v = .non
  | some T => TyH K H T v
theorem CarH.mono {K : PySem.W.Frag} {H H' : Hp} (e : Tups K H H') {c : Option Ty} {v : V} (h : CarH K H c v) : CarH K H' c v := by
  cases c with
  | none => exact h
  | some T => exact TyH.mono e (show TyH K H T v from h)
def spCarried (K : PySem.W.Frag) : Sp := fun vs H Q _ => ∃ (c : Option Ty) (v : V) (n : Nat) (b : Addr) (ar : List Nat), vs = [v, .int (n : Int), .ref b] ∧ CarH K H c v ∧ SqT K H b (natV ar) ∧
  (∀ T, c = some T → T.Ok ar ∧ T.sz ≤ 300 ∧ ∀ i, i ∈ T.vars → i < n) ∧ ∀ H', Same H H' → Q (.bl true) H'
theorem ok_is_carried (A : At K mg "is_carried" s_is_carried ["value", "arity", "arities"]) (B : Bi mg) (D_is_shape : Has P w K mg base "is_shape" ["value", "arities"] 5 (spShape K)) (D_variables_in : Has P w K mg base "variables_in" ["T"] 3 (spVars K)) : Has P w K mg base "is_carried" ["value", "arity", "arities"] 6 (spCarried K) := by
  refine .mk A fun f fd F => ?_
  refine F.ok sc_is_carried (fun vs H Q E h => ?_) (fun cdv A outer s H vs Q E hr h => ?_)
  · obtain ⟨c, v, n, b, ar, rfl, _⟩ := h
    rfl
  obtain ⟨c, v, n, b, ar, rfl, hc, hb, ho, q⟩ := h
  obtain ⟨f_is_shape, fd_is_shape, G_is_shape, b_is_shape, k_is_shape, m_is_shape⟩ := D_is_shape
  obtain ⟨f_variables_in, fd_variables_in, G_variables_in, b_variables_in, k_variables_in, m_variables_in⟩ := D_variables_in
  refine ⟨_, (pss_cons (ps_if (pt_cmpR op_isN (pv 0) pe_non (nomark _)) (pss_one (ps_ret pe_bl)) pss_nil)
  (pss_one (ps_ret (pe_and (pe_call G_is_shape (hr.mono (by decide)) rfl m_is_shape k_is_shape b_is_shape .nil pass0 (pa_cons (pv 0) (pa_cons (pv 2) pa_nil))) (pe_one (pe_callB (cr_all rfl) (by rfl) B.all (by decide +kernel) (pa_cons (pe_lc (own := [("number", 3)]) (g := gName 3) (tt := tYes) (by rfl) sc_is_carried.nd (pi_tup (pe_call G_variables_in (hr.mono (by decide)) rfl m_variables_in k_variables_in b_variables_in .nil pass0 (pa_cons (pv 0) pa_nil))) (blkOk_by (N := ["value", "arity", "arities", "number"]) (sc := defScope s_is_carried) (by decide +kernel)) (fun _ _ _ _ _ => (pg_name (i := 3) sc_is_carried.nd rfl (Or.inl rfl))) (fun _ _ _ _ _ => pts_nil) (fun _ _ _ _ _ => (pe_cmpR op_lt (pv 3) (pv 1) (nomark _)))) pa_nil))))))), ?_⟩
  cases c with
  | none =>
    have hv : v = .non := hc
    subst hv
    exact ⟨_, rfl, rfl, _, rfl, iteT (q H (Same.refl _))⟩
  | some T =>
    have hT : TyH K H T v := hc
    obtain ⟨o1, o2, o3⟩ := ho T rfl
    have hT' := hT
    obtain ⟨a, xs, rfl, _⟩ := hT'.out
    refine ⟨_, rfl, rfl, _, rfl, iteF ⟨_, rfl, _, rfl, T, _, b, ar, rfl, hT, o1, o2, hb, fun H2 g2 => ⟨_, rfl, iteT ?_⟩⟩⟩
    refine ⟨_, rfl, T, _, rfl, hT.mono (tups_of g2), by omega, fun H3 p ns g3 hp hmem hl => ?_⟩
    refine ⟨p, rfl, ⟨_, hp⟩, fun D hD => lc_tup (K := K) (a := p) (xs := natV ns) (AllInv H3 D) (.start hD) (fun i H4 _ z => tups_of z.1 _ _ hp) ?_ ?_⟩
    · intro i x H4 hx z
      obtain ⟨m, hm, rfl⟩ := natV_at hx
      have hml := o3 m ((hmem m).mp (List.mem_of_getElem? hm))
      refine ⟨rfl, _, rfl, _, rfl, _, _, rfl, rfl, ?_⟩
      show ∃ acc, H4 D = some (.lst acc) ∧ acc.length < sizeLine ∧ AllInv H3 D (i + 1) (upd H4 D (.lst (acc ++ [V.bl (decide ((m : Int) < (n : Int)))])))
      rw [decide_eq_true (show (m : Int) < (n : Int) by omega)]
      exact z.step hD (by have := lt_of_get hm; omega)
    · intro H4 z
      refine ⟨D, _, rfl, SqL.of z.2, ?_⟩
      rw [all_rep]
      exact q H4 (g2.trans (g3.trans z.1))
end
end Lq
namespace Lq
open PySem L2
structure NRow where
  z : Str
  n : Nat
  ask : Option (List Nat)
  con : Option (Option Ty)
def ConH (K : PySem.W.Frag) (H : Hp) (con : Option (Option Ty)) (v : V) : Prop := match con with
  | none => v = .non
  | some c => ∃ (q b1 b2 : Addr) (cv : V), v = .ref q ∧ SqT K H q [.ref b1, .ref b2] ∧ SqT K H b1 [.str "Box", cv] ∧ SqT K H b2 [.str "No", .non] ∧ CarH K H c cv
def NRowH (K : PySem.W.Frag) (H : Hp) (r : NRow) (v : V) : Prop := ∃ (p : Addr) (av cv : V), v = .ref p ∧ SqT K H p [.str r.z, .int (r.n : Int), av, cv] ∧ AskH K H r.ask av ∧ ConH K H r.con cv
theorem ConH.mono {K : PySem.W.Frag} {H H' : Hp} (e : Tups K H H') {con : Option (Option Ty)} {v : V} (h : ConH K H con v) : ConH K H' con v := by
  cases con with
  | none => exact h
  | some c =>
    obtain ⟨q, b1, b2, cv, h0, h1, h2, h3, h4⟩ := h
    exact ⟨q, b1, b2, cv, h0, e _ _ h1, e _ _ h2, e _ _ h3, h4.mono e⟩
theorem NRowH.mono {K : PySem.W.Frag} {H H' : Hp} (e : Tups K H H') (r : NRow) (v : V) (h : NRowH K H r v) : NRowH K H' r v := by
  obtain ⟨p, av, cv, h1, h2, h3, h4⟩ := h
  exact ⟨p, av, cv, h1, e _ _ h2, h3.mono e, h4.mono e⟩
structure OutOk (kw : List V) (r : NRow) : Prop where
  low : LowOk kw r.z
  n4 : r.n ≤ 4
  asc : ∀ l, r.ask = some l → l.Pairwise (· < ·) ∧ ∀ p ∈ l, p < r.n
def NRow.row (r : NRow) : Row := ⟨r.n, r.ask, r.z⟩
theorem NRowH.row {K : PySem.W.Frag} {H : Hp} {r : NRow} {v : V} (h : NRowH K H r v) : RowH K H r.row v := by
  obtain ⟨p, av, cv, h1, h2, h3, _⟩ := h
  exact ⟨p, _, av, cv, h1, h2, h3, rfl⟩
theorem box_high : HighOk "Box" := ⟨by decide +kernel, by decide +kernel, ⟨66, by decide +kernel, by decide +kernel⟩, by decide +kernel⟩
theorem no_high : HighOk "No" := ⟨by decide +kernel, by decide +kernel, ⟨78, by decide +kernel, by decide +kernel⟩, by decide +kernel⟩
section
variable {P : Program} {w : World} {K : PySem.W.Frag} {mg : Str → Option Value} {base : Heap} {C : Addr}
abbrev s__is_outline : Stmt := top 39
theorem sc__is_outline : FnScope ["value", "asks", "number"] ["value"] (defScope s__is_outline) := ⟨rfl, rfl, rfl, by decide +kernel, rfl, by decide +kernel, by decide +kernel⟩
def spOutline (K : PySem.W.Frag) (kw : List V) : Sp := fun vs H Q _ => ∃ (v : V) (r : NRow), vs = [v] ∧ NRowH K H r v ∧ OutOk kw r ∧ ∀ H', Same H H' → Q (.bl true) H'
theorem ok_is_outline {kw : List V} (A : At K mg "_is_outline" s__is_outline ["value"]) (B : Bi mg) (D_is_low : Has P w K mg base "is_low" ["value"] 2 (spLow kw)) (D_is_arity : Has P w K mg base "is_arity" ["value"] 2 spArity) (D_is_ascending : Has P w K mg base "is_ascending" ["value"] 4 (spAsc K)) : Has P w K mg base "_is_outline" ["value"] 5 (spOutline K kw) := by
  refine .mk A fun f fd F => ?_
  refine F.ok sc__is_outline (fun vs H Q E h => ?_) (fun cdv A outer s H vs Q E hr h => ?_)
  · obtain ⟨v, r, rfl, _⟩ := h
    rfl
  obtain ⟨v, r, rfl, ⟨p, av, cv, rfl, hp, hav, hcv⟩, ho, q⟩ := h
  obtain ⟨f_is_low, fd_is_low, G_is_low, b_is_low, k_is_low, m_is_low⟩ := D_is_low
  obtain ⟨f_is_arity, fd_is_arity, G_is_arity, b_is_arity, k_is_arity, m_is_arity⟩ := D_is_arity
  obtain ⟨f_is_ascending, fd_is_ascending, G_is_ascending, b_is_ascending, k_is_ascending, m_is_ascending⟩ := D_is_ascending
  refine ⟨_, (pss_cons (ps_if (PW.pt (pw_or (pt_not (pt_val (pe_callB (isiK K) (by rfl) B.isinstance (by decide +kernel) (pa_cons (pv 0) (pa_cons (pe_bltn (v := .ty "tuple") rfl B.tuple (by decide +kernel) rfl) pa_nil))))) (pw_or (pt_cmpR op_ne (pe_callB (lenS K) (by rfl) B.len (by decide +kernel) (pa_cons (pv 0) pa_nil)) pe_int (nomark _)) (pw_or (pt_not (pt_val (pe_call G_is_low (hr.mono (by decide)) rfl m_is_low k_is_low b_is_low .nil pass0 (pa_cons (pe_ix (ixT K) (pv 0) pe_int (fun _ _ => rfl)) pa_nil)))) (pw_or1 (pt_not (pt_val (pe_call G_is_arity (hr.mono (by decide)) rfl m_is_arity k_is_arity b_is_arity .nil pass0 (pa_cons (pe_ix (ixT K) (pv 0) pe_int (fun _ _ => rfl)) pa_nil))))))))) (pss_one (ps_ret pe_bl)) pss_nil)
  (pss_cons (ps_set (i := 1) sc__is_outline.nd rfl (Or.inl rfl) (pe_ix (ixT K) (pv 0) pe_int (fun _ _ => rfl)))
  (pss_one (ps_ret (pe_or (pe_cmpR op_isN (pv 1) pe_non (nomark _)) (pe_one (pe_and (pe_call G_is_ascending (hr.mono (by decide)) rfl m_is_ascending k_is_ascending b_is_ascending .nil pass0 (pa_cons (pv 1) pa_nil)) (pe_one (pe_callB (cr_all rfl) (by rfl) B.all (by decide +kernel) (pa_cons (pe_lc (own := [("number", 2)]) (g := gName 2) (tt := tYes) (by rfl) sc__is_outline.nd (pi_tup (pv 1)) (blkOk_by (N := ["value", "asks", "number"]) (sc := defScope s__is_outline) (by decide +kernel)) (fun _ _ _ _ _ => (pg_name (i := 2) sc__is_outline.nd rfl (Or.inl rfl))) (fun _ _ _ _ _ => pts_nil) (fun _ _ _ _ _ => (pe_cmpR op_lt (pv 2) (pe_ix (ixT K) (pv 0) pe_int (fun _ _ => rfl)) (nomark _)))) pa_nil)))))))))), ?_⟩
  refine ⟨_, rfl, _, _, _, _, true, rfl, .ty _, tyx_tup hp, kit_ty (by decide +kernel), _, rfl, iteF ?_⟩
  refine ⟨_, rfl, p, _, rfl, .inr hp, rfl, _, rfl, iteF ?_⟩
  refine ⟨_, rfl, p, _, _, _, rfl, rfl, hp, atI_nat (j := 0) rfl, r.z, rfl, ho.low, fun H1 g1 => ⟨_, rfl, iteF ?_⟩⟩
  have hp1 := tups_of g1 _ _ hp
  refine ⟨_, rfl, p, _, _, _, rfl, rfl, hp1, atI_nat (j := 1) rfl, r.n, rfl, ho.n4, _, rfl, iteF ?_⟩
  refine ⟨_, rfl, p, _, _, _, rfl, rfl, hp1, atI_nat (j := 2) rfl, ?_⟩
  cases hask : r.ask with
  | none =>
    rw [hask] at hav
    have hav : av = .non := hav
    subst hav
    exact ⟨_, rfl, rfl, _, rfl, iteT (q H1 g1)⟩
  | some l =>
    rw [hask] at hav
    obtain ⟨al, rfl, hl⟩ := hav
    obtain ⟨hasc, hlt⟩ := ho.asc l hask
    have hll : l.length ≤ 4 := Nat.le_trans (len_below r.n l (hasc.imp fun h => Nat.ne_of_lt h) hlt) ho.n4
    refine ⟨_, rfl, rfl, _, rfl, iteF ⟨_, rfl, al, l, rfl, tups_of g1 _ _ hl, fun m hm => ?_, by omega, hasc, fun H2 g2 => ⟨_, rfl, iteT ?_⟩⟩⟩
    · have := hlt m hm
      have := ho.n4
      omega
    have g12 := g1.trans g2
    have hl2 := tups_of g12 _ _ hl
    refine ⟨_, rfl, al, rfl, ⟨_, hl2⟩, fun D hD => lc_tup (K := K) (a := al) (xs := natV l) (AllInv H2 D) (.start hD) (fun i H3 _ z => tups_of z.1 _ _ hl2) ?_ ?_⟩
    · intro i x H3 hx z
      obtain ⟨m, hm, rfl⟩ := natV_at hx
      have hml := hlt m (List.mem_of_getElem? hm)
      refine ⟨rfl, _, rfl, _, rfl, p, _, _, _, rfl, rfl, tups_of (g12.trans z.1) _ _ hp, atI_nat (j := 1) rfl, _, _, rfl, rfl, ?_⟩
      show ∃ acc, H3 D = some (.lst acc) ∧ acc.length < sizeLine ∧ AllInv H2 D (i + 1) (upd H3 D (.lst (acc ++ [V.bl (decide ((m : Int) < (r.n : Int)))])))
      rw [decide_eq_true (show (m : Int) < (r.n : Int) by omega)]
      exact z.step hD (by have := lt_of_get hm; omega)
    · intro H3 z
      refine ⟨D, _, rfl, SqL.of z.2, ?_⟩
      rw [all_rep]
      exact q H3 (g12.trans z.1)
abbrev s_are_constructors : Stmt := top 40
theorem sc_are_constructors : FnScope ["value", "arity", "arities", "pair", "names"] ["value", "arity", "arities"] (defScope s_are_constructors) := ⟨rfl, rfl, rfl, by decide +kernel, rfl, by decide +kernel, by decide +kernel⟩
def spCons (K : PySem.W.Frag) : Sp := fun vs H Q _ => ∃ (c : Option Ty) (v : V) (n : Nat) (b : Addr) (ar : List Nat), vs = [v, .int (n : Int), .ref b] ∧ ConH K H (some c) v ∧ SqT K H b (natV ar) ∧
  (∀ T, c = some T → T.Ok ar ∧ T.sz ≤ 300 ∧ ∀ i, i ∈ T.vars → i < n) ∧ ∀ H', Same H H' → Q (.bl true) H'
theorem ok_are_constructors (A : At K mg "are_constructors" s_are_constructors ["value", "arity", "arities"]) (B : Bi mg) (D_is_high : Has P w K mg base "is_high" ["value"] 2 spHigh) (D_is_carried : Has P w K mg base "is_carried" ["value", "arity", "arities"] 6 (spCarried K)) : Has P w K mg base "are_constructors" ["value", "arity", "arities"] 7 (spCons K) := by
  refine .mk A fun f fd F => ?_
  refine F.ok sc_are_constructors (fun vs H Q E h => ?_) (fun cdv A outer s H vs Q E hr h => ?_)
  · obtain ⟨c, v, n, b, ar, rfl, _⟩ := h
    rfl
  obtain ⟨c, v, n, b, ar, rfl, ⟨p, b1, b2, cv, rfl, hp, hb1, hb2, hc⟩, hb, ho, q⟩ := h
  obtain ⟨f_is_high, fd_is_high, G_is_high, b_is_high, k_is_high, m_is_high⟩ := D_is_high
  obtain ⟨f_is_carried, fd_is_carried, G_is_carried, b_is_carried, k_is_carried, m_is_carried⟩ := D_is_carried
  refine ⟨_, (pss_cons (ps_if (PW.pt (pw_or (pt_not (pt_val (pe_callB (isiK K) (by rfl) B.isinstance (by decide +kernel) (pa_cons (pv 0) (pa_cons (pe_bltn (v := .ty "tuple") rfl B.tuple (by decide +kernel) rfl) pa_nil))))) (pw_or1 (pt_cmpR op_eq (pe_callB (lenS K) (by rfl) B.len (by decide +kernel) (pa_cons (pv 0) pa_nil)) pe_int (nomark _))))) (pss_one (ps_ret pe_bl)) pss_nil)
  (pss_cons (ps_if (pt_not (pt_val (pe_callB (cr_all rfl) (by rfl) B.all (by decide +kernel) (pa_cons (pe_lc (own := [("pair", 3)]) (g := gName 3) (tt := tYes) (by rfl) sc_are_constructors.nd (pi_tup (pv 0)) (blkOk_by (N := ["value", "arity", "arities", "pair", "names"]) (sc := defScope s_are_constructors) (by decide +kernel)) (fun _ _ _ _ _ => (pg_name (i := 3) sc_are_constructors.nd rfl (Or.inl rfl))) (fun _ _ _ _ _ => pts_nil) (fun _ _ _ _ _ => (pe_and (pe_callB (isiK K) (by rfl) B.isinstance (by decide +kernel) (pa_cons (pv 3) (pa_cons (pe_bltn (v := .ty "tuple") rfl B.tuple (by decide +kernel) rfl) pa_nil))) (pe_and (pe_cmpR op_eq (pe_callB (lenS K) (by rfl) B.len (by decide +kernel) (pa_cons (pv 3) pa_nil)) pe_int (nomark _)) (pe_one (pe_call G_is_high (hr.mono (by decide)) rfl m_is_high k_is_high b_is_high .nil pass0 (pa_cons (pe_ix (ixT K) (pv 3) pe_int (fun _ _ => rfl)) pa_nil))))))) pa_nil)))) (pss_one (ps_ret pe_bl)) pss_nil)
  (pss_cons (ps_setLc (i := 4) (own := [("pair", 3)]) (g := gName 3) (tt := tYes) (by rfl) sc_are_constructors.nd rfl rfl (sw_true rfl rfl rfl (by decide +kernel)) (pi_tup (pv 0)) (blkOk_by (N := ["value", "arity", "arities", "pair", "names"]) (sc := defScope s_are_constructors) (by decide +kernel)) (fun _ _ _ _ _ => (pg_name (i := 3) sc_are_constructors.nd rfl (Or.inl rfl))) (fun _ _ _ _ _ => pts_nil) (fun _ _ _ _ _ => (pe_ix (ixT K) (pv 3) pe_int (fun _ _ => rfl))))
  (pss_one (ps_ret (pe_and (pe_cmpR op_eq (pe_lenSetN (by rfl) B.len (by rfl) B.set (pv 4)) (pe_callB (lenS K) (by rfl) B.len (by decide +kernel) (pa_cons (pv 4) pa_nil)) (nomark _)) (pe_one (pe_callB (cr_all rfl) (by rfl) B.all (by decide +kernel) (pa_cons (pe_lc (own := [("pair", 3)]) (g := gName 3) (tt := tYes) (by rfl) sc_are_constructors.nd (pi_tup (pv 0)) (blkOk_by (N := ["value", "arity", "arities", "pair", "names"]) (sc := defScope s_are_constructors) (by decide +kernel)) (fun _ _ _ _ _ => (pg_name (i := 3) sc_are_constructors.nd rfl (Or.inl rfl))) (fun _ _ _ _ _ => pts_nil) (fun _ _ _ _ _ => (pe_call G_is_carried (hr.mono (by decide)) rfl m_is_carried k_is_carried b_is_carried .nil pass0 (pa_cons (pe_ix (ixT K) (pv 3) pe_int (fun _ _ => rfl)) (pa_cons (pv 1) (pa_cons (pv 2) pa_nil)))))) pa_nil))))))))), ?_⟩
  refine ⟨_, rfl, _, _, _, _, true, rfl, .ty _, tyx_tup hp, kit_ty (by decide +kernel), _, rfl, iteF ?_⟩
  refine ⟨_, rfl, p, _, rfl, .inr hp, rfl, _, rfl, iteF ?_⟩
  -- what stands at the places of the two pairs
  have two : ∀ (i : Nat) (x : V), [V.ref b1, V.ref b2][i]? = some x → ∃ (bi : Addr) (z : Str) (u : V) (ci : Option Ty), x = .ref bi ∧ HighOk z ∧ [("Box" : Str), "No"][i]? = some z ∧ SqT K H bi [.str z, u] ∧ CarH K H ci u ∧ (∀ T, ci = some T → c = some T) := by
    intro i x hx
    match i, hx with
    | 0, hx =>
      cases hx
      exact ⟨b1, "Box", cv, c, rfl, box_high, rfl, hb1, hc, fun T h => h⟩
    | 1, hx =>
      cases hx
      exact ⟨b2, "No", .non, none, rfl, no_high, rfl, hb2, rfl, fun T h => nomatch h⟩
  refine ⟨_, rfl, p, rfl, ⟨_, hp⟩, fun D hD => lc_tup (K := K) (a := p) (xs := [V.ref b1, V.ref b2]) (AllInv H D) (.start hD) (fun i H3 _ z => tups_of z.1 _ _ hp) ?_ ?_⟩
  · intro i x H3 hx z
    have hi2 : i < 2 := lt_of_get hx
    obtain ⟨bi, zi, u, ci, rfl, hz, _, hbi, _⟩ := two i x hx
    have hb3 := tups_of z.1 _ _ hbi
    refine ⟨rfl, _, rfl, _, _, _, _, true, rfl, .ty _, tyx_tup hb3, kit_ty (by decide +kernel), _, rfl, iteT ?_⟩
    refine ⟨_, rfl, bi, _, rfl, .inr hb3, rfl, _, rfl, iteT ?_⟩
    exact ⟨_, rfl, bi, _, _, _, rfl, rfl, hb3, atI_nat (j := 0) rfl, zi, rfl, hz, fun H4 g4 => (z.call g4).step hD (by omega)⟩
  · intro H3 z
    refine ⟨D, _, rfl, SqL.of z.2, ?_⟩
    rw [all_rep]
    refine ⟨_, rfl, iteF ?_⟩
    have g3 := z.1
    have hp3 := tups_of g3 _ _ hp
    refine ⟨_, rfl, p, rfl, ⟨_, hp3⟩, fun D2 hD2 => lc_tup (K := K) (a := p) (xs := [V.ref b1, V.ref b2]) (fun i H4 => Same H3 H4 ∧ H4 D2 = some (.lst (([("Box" : Str), "No"].take i).map V.str))) ⟨same_upd hD2 _, upd_same⟩ (fun i H4 _ y => tups_of y.1 _ _ hp3) ?_ ?_⟩
    · rintro i x H4 hx ⟨g4, h4⟩
      have hi2 : i < 2 := lt_of_get hx
      obtain ⟨bi, zi, u, ci, rfl, hz, hzi, hbi, _⟩ := two i x hx
      refine ⟨rfl, _, rfl, bi, _, _, _, rfl, rfl, tups_of (g3.trans g4) _ _ hbi, atI_nat (j := 0) rfl, _, h4, by rw [List.length_map, List.length_take]; exact small1000 (by omega), same_set g4 hD2 _, ?_⟩
      rw [upd_same, take_snoc hzi, List.map_append]
      rfl
    · rintro H4 ⟨g4, h4⟩
      have h4 : H4 D2 = some (.lst ([("Box" : Str), "No"].map V.str)) := h4
      have g34 := g3.trans g4
      have hp4 := tups_of g34 _ _ hp
      refine ⟨_, rfl, D2, [("Box" : Str), "No"], rfl, SqL.of h4, by decide +kernel, by decide, _, rfl, D2, _, rfl, .inl (SqL.of h4), rfl, _, rfl, iteT ?_⟩
      refine ⟨_, rfl, p, rfl, ⟨_, hp4⟩, fun D3 hD3 => lc_tup (K := K) (a := p) (xs := [V.ref b1, V.ref b2]) (AllInv H4 D3) (.start hD3) (fun i H5 _ y => tups_of y.1 _ _ hp4) ?_ ?_⟩
      · intro i x H5 hx y
        have hi2 : i < 2 := lt_of_get hx
        obtain ⟨bi, zi, u, ci, rfl, hz, hzi, hbi, hcu, hcc⟩ := two i x hx
        have g5 := g34.trans y.1
        exact ⟨rfl, _, rfl, bi, _, _, _, rfl, rfl, tups_of g5 _ _ hbi, atI_nat (j := 1) rfl, _, rfl, _, rfl, ci, u, n, b, ar, rfl, hcu.mono (tups_of g5), tups_of g5 _ _ hb, fun T hT => ho T (hcc T hT), fun H6 g6 => (y.call g6).step hD3 (by omega)⟩
      · intro H5 y
        refine ⟨D3, _, rfl, SqL.of y.2, ?_⟩
        rw [all_rep]
        exact q H5 (g34.trans y.1)
end
end Lq
namespace Lq
open PySem L2
theorem bf_eq (r q : Addr) : bf r q = ([("_rows", V.ref r), ("arities", V.ref q)] : List (Str × V)) := by
  show (if ("_rows" : Str) = "arities" then [(("_rows" : Str), V.ref q)] else (("_rows" : Str), V.ref r) :: putF "arities" (V.ref q) []) = ([("_rows", V.ref r), ("arities", V.ref q)] : List (Str × V))
  rw [if_neg ar_]
  all_goals rfl
theorem bf_put_rows (r q t : Addr) : putF "_rows" (.ref t) (bf r q) = bf t q := by
  rw [bf_eq, bf_eq]
  show (if ("_rows" : Str) = "_rows" then (("_rows" : Str), V.ref t) :: [(("arities" : Str), V.ref q)] else _) = ([("_rows", V.ref t), ("arities", V.ref q)] : List (Str × V))
  rw [if_pos rfl]
theorem bf_put_ar (r q t : Addr) : putF "arities" (.ref t) (bf r q) = bf r t := by
  rw [bf_eq, bf_eq]
  show (if ("_rows" : Str) = "arities" then _ else (("_rows" : Str), V.ref r) :: (if ("arities" : Str) = "arities" then [(("arities" : Str), V.ref t)] else _)) = ([("_rows", V.ref r), ("arities", V.ref t)] : List (Str × V))
  rw [if_neg ar_, if_pos rfl]
theorem tups_ins {K : PySem.W.Frag} {H : Hp} {t C dx : Addr} {fs : List (Str × V)} (h : H t = some (.ins C dx fs)) (o : HO) : Tups K H (upd H t o) := by
  intro a ys q
  rcases q with (q | ⟨u, q⟩) | q
  · exact .inl (.inl (by rw [upd_ne (ne_of q h (by intro z; cases z))]; exact q))
  · exact .inl (.inr ⟨u, by rw [upd_ne (ne_of q h (by intro z; cases z))]; exact q⟩)
  · exact .inr q
def firstRows : List Row := [⟨0, some [], "int"⟩, ⟨0, some [], "string"⟩, ⟨0, some [], "bool"⟩, ⟨0, none, "exn"⟩, ⟨1, some [0], "list"⟩, ⟨1, some [], "ref"⟩]
structure Fr (K : PySem.W.Frag) (mg : Str → Option Value) (a0 : Addr) (rs0 : List V) : Prop where
  m : mg "FIRST_ROWS" = some (.ref a0)
  sq : ∀ H, SqT K H a0 rs0
  all : ∀ H, All2 (RowH K H) firstRows rs0
theorem natV_app (a b : List Nat) : natV (a ++ b) = natV a ++ natV b := List.map_append
theorem arOf_app (a b : List Row) : arOf (a ++ b) = arOf a ++ arOf b := List.map_append
theorem All2.rows {K : PySem.W.Frag} {H : Hp} : ∀ {nrs : List NRow} {vs : List V}, All2 (NRowH K H) nrs vs → All2 (RowH K H) (nrs.map NRow.row) vs
  | [], _, h => h
  | r :: rs, _, h => by
    obtain ⟨x, ys, rfl, h1, h2⟩ := h
    exact ⟨x, ys, rfl, h1.row, All2.rows h2⟩
/-- behind i turns of [row[1] for row in ..] -/
def ArInv (rws : List Row) (H1 : Hp) (D : Addr) (i : Nat) (H : Hp) : Prop := Same H1 H ∧ H D = some (.lst (natV (arOf (rws.take i))))
theorem ArInv.step {rws : List Row} {H1 H : Hp} {D : Addr} {i : Nat} {row : Row} (hD : H1 D = none) (h : ArInv rws H1 D i H) (e : rws[i]? = some row) (hi : i < 900) :
    ∃ acc, H D = some (.lst acc) ∧ acc.length < sizeLine ∧ ArInv rws H1 D (i + 1) (upd H D (.lst (acc ++ [.int (row.n : Int)]))) := by
  refine ⟨_, h.2, ?_, same_set h.1 hD _, ?_⟩
  · rw [natV_len]
    unfold arOf
    rw [List.length_map, List.length_take]
    exact small1000 (by omega)
  · rw [upd_same, take_snoc e, arOf_app, natV_app]
    rfl
section
variable {P : Program} {w : World} {K : PySem.W.Frag} {mg : Str → Option Value} {base : Heap} {C : Addr}
abbrev s_Book___init__ : Stmt := inClass (top 41) 0
theorem sc_Book___init__ : FnScope ["self", "row"] ["self"] (defScope s_Book___init__) := ⟨rfl, rfl, rfl, by decide +kernel, rfl, by decide +kernel, by decide +kernel⟩
def spInit (K : PySem.W.Frag) (C a0 : Addr) : Sp := fun vs H Q _ => ∃ (H0 : Hp) (p dx : Addr), vs = [.ref p] ∧ Same H0 H ∧ H0 p = none ∧ H p = some (.ins C dx []) ∧
  ∀ (H' : Hp) (q : Addr), Same H0 H' → H' p = some (.ins C dx (bf a0 q)) → SqT K H' q (natV (arOf firstRows)) → Q .non H'
theorem ok_init {f a0 : Addr} {fd : FuncData} {rs0 : List V} (F : Fun K "__init__" "Book.__init__" s_Book___init__ f fd) (B : Bi mg) (T : Bk K mg C) (R : Fr K mg a0 rs0) : FnOk P w K mg base CX0 1 f fd ["self"] (spInit K C a0) := by
  refine F.ok sc_Book___init__ (fun vs H Q E h => ?_) (fun cdv A outer s H vs Q E hr h => ?_)
  · obtain ⟨H0, p, dx, rfl, _⟩ := h
    rfl
  obtain ⟨H0, p, dx, rfl, s0, p0, hp, q⟩ := h
  have T_FIRST_ROWS := R.m
  refine ⟨_, (pss_cons (ps_fld (pv 0) (pe_glob rfl T_FIRST_ROWS r_ref) rfl)
  (pss_one (ps_fld (pv 0) (pe_callTy call_tuple_of (by rfl) B.tuple (by decide +kernel) (pa_cons (pe_lc (own := [("row", 1)]) (g := gName 1) (tt := tYes) (by rfl) sc_Book___init__.nd (pi_tup (pe_glob rfl T_FIRST_ROWS r_ref)) (blkOk_by (N := ["self", "row"]) (sc := defScope s_Book___init__) (by decide +kernel)) (fun _ _ _ _ _ => (pg_name (i := 1) sc_Book___init__.nd rfl (Or.inl rfl))) (fun _ _ _ _ _ => pts_nil) (fun _ _ _ _ _ => (pe_ix (ixT K) (pv 1) pe_int (fun _ _ => rfl)))) pa_nil)) rfl))), ?_⟩
  refine ⟨_, rfl, p, C, dx, [], rfl, hp, T.cl, T.nR, (by show 0 < 1000; decide), ?_⟩
  have g1 : Same H0 (upd H p (.ins C dx (putF "_rows" (.ref a0) []))) := same_set s0 p0 _
  refine ⟨a0, rfl, ⟨_, R.sq _⟩, fun D hD => lc_tup (K := K) (a := a0) (xs := rs0) (ArInv firstRows _ D) ⟨same_upd hD _, upd_same⟩ (fun i H3 _ _ => R.sq _) ?_ ?_⟩
  · intro i x H3 hx z
    have hlen := (R.all H3).len
    have hil := lt_of_get hx
    have h6 : firstRows.length = 6 := rfl
    obtain ⟨row, hrow⟩ : ∃ row, firstRows[i]? = some row := ⟨firstRows[i]'(by omega), List.getElem?_eq_getElem _⟩
    obtain ⟨y, hy, hyR⟩ := (R.all H3).get hrow
    rw [hx] at hy
    cases hy
    obtain ⟨pr, zz, av, cv, rfl, hpr, _⟩ := hyR
    exact ⟨rfl, _, rfl, pr, _, _, _, rfl, rfl, hpr, atI_nat (j := 1) rfl, z.step hD hrow (by omega)⟩
  · rintro H3 ⟨g3, h3⟩
    have hlen := (R.all H3).len
    rw [hlen, List.take_length] at h3
    refine ⟨D, _, rfl, .inl ⟨SqL.of h3, fun q1 hq1 => ?_⟩⟩
    have h3p : H3 p = some (.ins C dx (putF "_rows" (.ref a0) [])) := g3 _ _ upd_same
    have g4 := same_upd hq1 (.tup (natV (arOf firstRows)))
    refine ⟨_, rfl, p, C, dx, _, rfl, g4 _ _ h3p, T.cl, T.nA, (by show 1 < 1000; decide), ?_⟩
    refine q _ q1 (same_set (g1.trans (g3.trans g4)) p0 _) upd_same ?_
    exact tups_ins (g4 _ _ h3p) _ _ _ sq_new
abbrev s_Book__extended : Stmt := inClass (top 41) 7
theorem sc_Book__extended : FnScope ["self", "rows", "book", "row"] ["self", "rows"] (defScope s_Book__extended) := ⟨rfl, rfl, rfl, by decide +kernel, rfl, by decide +kernel, by decide +kernel⟩
def spExt (K : PySem.W.Frag) (C : Addr) : Sp := fun vs H Q _ => ∃ (b : V) (a : Addr) (rows : List Row) (nrs : List NRow) (ws : List V), vs = [b, .ref a] ∧ BookH K C H rows b ∧ SqT K H a ws ∧ All2 (NRowH K H) nrs ws ∧ rows.length ≤ 400 ∧ nrs.length ≤ 400 ∧
  ∀ (H' : Hp) (t : Addr) (bv tv : V), Same H H' → SqT K H' t [bv, tv] → BookH K C H' (rows ++ nrs.map NRow.row) bv → Q (.ref t) H'
theorem ok_extended {a0 f_init : Addr} {fd_init : FuncData} {rs0 : List V} (A : AtM K C "_extended" "Book._extended" s_Book__extended ["self", "rows"]) (B : Bi mg) (T : Bk K mg C) (R : Fr K mg a0 rs0) (M_Book : Mk K C f_init)
    (G_init : FnOk P w K mg base CX0 1 f_init fd_init ["self"] (spInit K C a0)) (b_init : Binds K fd_init ["self"] []) : HasM P w K mg base C "_extended" ["self", "rows"] 3 (spExt K C) := by
  refine .mk A fun f fd F => ?_
  refine F.ok sc_Book__extended (fun vs H Q E h => ?_) (fun cdv A outer s H vs Q E hr h => ?_)
  · obtain ⟨b, a, rows, nrs, ws, rfl, _⟩ := h
    rfl
  obtain ⟨b, a, rows, nrs, ws, rfl, ⟨b', dxb, r, q', rs, rfl, hb, hrr, hra, hrq⟩, hS, hA, hl1, hl2, q⟩ := h
  refine ⟨_, (pss_cons (ps_set (i := 2) sc_Book__extended.nd rfl (Or.inl rfl) (pe_make0 M_Book G_init (hr.mono (by decide)) rfl T.mgC b_init .nil pass0))
  (pss_cons (ps_fld (pv 2) (pe_tup (StX.pa_star (pe_fld (pv 0) rfl) (StX.pa_star (pv 1) pa_nil))) rfl)
  (pss_cons (ps_fld (pv 2) (pe_tup (StX.pa_star (pe_fld (pv 0) rfl) (StX.pa_star (pe_lc (own := [("row", 3)]) (g := gName 3) (tt := tYes) (by rfl) sc_Book__extended.nd (pi_tup (pv 1)) (blkOk_by (N := ["self", "rows", "book", "row"]) (sc := defScope s_Book__extended) (by decide +kernel)) (fun _ _ _ _ _ => (pg_name (i := 3) sc_Book__extended.nd rfl (Or.inl rfl))) (fun _ _ _ _ _ => pts_nil) (fun _ _ _ _ _ => (pe_ix (ixT K) (pv 3) pe_int (fun _ _ => rfl)))) pa_nil))) rfl)
  (pss_one (ps_ret (pe_tup (pa_cons (pv 2) (pa_cons (pe_tupRg rfl (by rfl) B.tuple (prg_2 (by rfl) B.range (pe_op op_add (pe_callB (lenS K) (by rfl) B.len (by decide +kernel) (pa_cons (pe_fld (pv 0) rfl) pa_nil)) pe_int) (pe_op op_add (pe_callB (lenS K) (by rfl) B.len (by decide +kernel) (pa_cons (pe_fld (pv 2) rfl) pa_nil)) pe_int))) pa_nil)))))))), ?_⟩
  intro x dx nx ndx nex
  have s0 : Same H (upd (upd H dx (.own x)) x (.ins C dx [])) := fun c o e => by
    rw [upd_ne (ne_of_none e nx), upd_ne (ne_of_none e ndx)]
    exact e
  refine ⟨H, x, dx, rfl, s0, nx, upd_same, fun H1 q1 g1 hx1 _ => ⟨rfl, ?_⟩⟩
  have e1 : ws ++ [] = ws := List.append_nil ws
  have hrl := hra.len
  have hwl := hA.len
  have hb1 := g1 _ _ hb
  refine ⟨_, rfl, b', C, dxb, _, _, rfl, hb1, T.cl, T.nR, bf_rows _ _, r, rs, rfl, .inl (tups_of g1 _ _ hrr), _, rfl, a, ws, rfl, .inl (tups_of g1 _ _ hS), ?_, fun t1 ht1 => ?_⟩
  · rw [e1, List.length_append]
    exact small300 (by omega)
  have g2 := same_upd ht1 (.tup (rs ++ (ws ++ [])))
  have hx2 := g2 _ _ hx1
  refine ⟨_, rfl, x, C, dx, _, rfl, hx2, T.cl, T.nR, (by rw [bf_eq]; show 2 < 1000; decide), ?_⟩
  rw [bf_put_rows]
  have g3 : Same H _ := same_set (g1.trans g2) nx (.ins C dx (bf t1 q1))
  have t23 : Tups K (upd H1 t1 (.tup (rs ++ (ws ++ [])))) _ := tups_ins hx2 (.ins C dx (bf t1 q1))
  have ht1' : SqT K (upd (upd H1 t1 (.tup (rs ++ (ws ++ [])))) x (.ins C dx (bf t1 q1))) t1 (rs ++ ws) := by
    have e : rs ++ (ws ++ []) = rs ++ ws := by rw [e1]
    exact (congrArg (SqT K _ t1) e).mp (t23 _ _ (sq_new (K := K) (H := H1) (p := t1) (xs := rs ++ (ws ++ []))))
  have hx3 : upd (upd H1 t1 (.tup (rs ++ (ws ++ [])))) x (.ins C dx (bf t1 q1)) x = some (.ins C dx (bf t1 q1)) := upd_same
  generalize upd (upd H1 t1 (.tup (rs ++ (ws ++ [])))) x (.ins C dx (bf t1 q1)) = H3 at g3 ht1' hx3
  have hA3 := (hA.mono (NRowH.mono (tups_of g3))).rows
  have hS3 := tups_of g3 _ _ hS
  refine ⟨_, rfl, b', C, dxb, _, _, rfl, g3 _ _ hb, T.cl, T.nA, bf_ar _ _, q', natV (arOf rows), rfl, .inl (tups_of g3 _ _ hrq), ?_⟩
  refine ⟨_, rfl, a, rfl, ⟨_, hS3⟩, fun D hD => lc_tup (K := K) (a := a) (xs := ws) (ArInv (nrs.map NRow.row) H3 D) ⟨same_upd hD _, upd_same⟩ (fun i H4 _ z => tups_of z.1 _ _ hS3) ?_ ?_⟩
  · intro i y H4 hy z
    have hil := lt_of_get hy
    have hlen := hA3.len
    obtain ⟨row, hrow⟩ : ∃ row, (nrs.map NRow.row)[i]? = some row := ⟨(nrs.map NRow.row)[i]'(by omega), List.getElem?_eq_getElem _⟩
    obtain ⟨y', hy', hyR⟩ := hA3.get hrow
    rw [hy] at hy'
    cases hy'
    obtain ⟨pr, zz, av, cv, rfl, hpr, _⟩ := hyR
    exact ⟨rfl, _, rfl, pr, _, _, _, rfl, rfl, tups_of z.1 _ _ hpr, atI_nat (j := 1) rfl, z.step hD hrow (by omega)⟩
  · rintro H4 ⟨g4, h4⟩
    have hfull : (nrs.map NRow.row).take ws.length = nrs.map NRow.row := List.take_of_length_le (by rw [List.length_map]; omega)
    rw [hfull] at h4
    have g34 := g3.trans g4
    have hal : (arOf rows).length = rows.length := List.length_map _
    have hal2 : (arOf (nrs.map NRow.row)).length = nrs.length := (List.length_map _).trans (List.length_map _)
    refine ⟨D, _, rfl, .inr (SqL.of h4), ?_, fun t2 ht2 => ?_⟩
    · rw [List.append_nil, List.length_append, natV_len, natV_len]
      exact small300 (by omega)
    have g5 := same_upd ht2 (.tup (natV (arOf rows) ++ (natV (arOf (nrs.map NRow.row)) ++ [])))
    have hx5 := g5 _ _ (g4 _ _ hx3)
    refine ⟨_, rfl, x, C, dx, _, rfl, hx5, T.cl, T.nA, (by rw [bf_eq]; show 2 < 1000; decide), ?_⟩
    rw [bf_put_ar]
    have t56 : Tups K _ _ := tups_ins (K := K) hx5 (.ins C dx (bf t1 t2))
    have ht2' := t56 _ _ (sq_new (K := K) (H := H4) (p := t2) (xs := natV (arOf rows) ++ (natV (arOf (nrs.map NRow.row)) ++ [])))
    have e2 : natV (arOf rows) ++ (natV (arOf (nrs.map NRow.row)) ++ []) = natV (arOf (rows ++ nrs.map NRow.row)) := by
      rw [List.append_nil, ← natV_app, ← arOf_app]
    replace ht2' := (congrArg (SqT K _ t2) e2).mp ht2'
    have t36 : Tups K H3 _ := ((tups_of g4).trans (tups_of g5)).trans t56
    have g6 : Same H _ := same_set (g34.trans g5) nx (.ins C dx (bf t1 t2))
    have hx6 : upd (upd H4 t2 (.tup (natV (arOf rows) ++ (natV (arOf (nrs.map NRow.row)) ++ [])))) x (.ins C dx (bf t1 t2)) x = some (.ins C dx (bf t1 t2)) := upd_same
    generalize upd (upd H4 t2 (.tup (natV (arOf rows) ++ (natV (arOf (nrs.map NRow.row)) ++ [])))) x (.ins C dx (bf t1 t2)) = H6 at ht2' t36 g6 hx6
    have hbook : BookH K C H6 (rows ++ nrs.map NRow.row) (.ref x) := ⟨x, dx, t1, t2, rs ++ ws, rfl, hx6, t36 _ _ ht1', ((hra.mono (RowH.mono (tups_of g6))).app (hA.mono (NRowH.mono (tups_of g6))).rows), ht2'⟩
    refine ⟨_, rfl, _, rfl, b', C, dxb, _, _, rfl, g6 _ _ hb, T.cl, T.nR, bf_rows _ _, r, rs, rfl, .inr (tups_of g6 _ _ hrr), _, _, rfl, rfl, ?_⟩
    refine ⟨_, rfl, x, C, dx, _, _, rfl, hx6, T.cl, T.nR, bf_rows _ _, t1, rs ++ ws, rfl, .inr (t36 _ _ ht1'), _, _, rfl, rfl, _, _, rfl, rfl, RgOk.of_le (by omega) (by rw [List.length_append]; omega) (by omega) (by omega), fun t3 ht3 => ?_⟩
    have g7 := same_upd ht3 (.tup (rgV (((rs.length : Nat) : Int) + 1) ((((rs ++ ws).length : Nat) : Int) + 1)))
    refine ⟨by show 2 ≤ sizeLine; decide, fun t4 ht4 => ?_⟩
    have g8 := same_upd ht4 (.tup [V.ref x, V.ref t3])
    exact q _ t4 _ _ (g6.trans (g7.trans g8)) sq_new (hbook.mono (g7.trans g8))
end
end Lq
namespace Lq
open PySem L2
theorem All2.mem {α : Type} {R : α → V → Prop} : ∀ {es : List α} {xs : List V}, All2 R es xs → ∀ {i : Nat} {x : V}, xs[i]? = some x → ∃ e, es[i]? = some e ∧ R e x
  | [], _, h, i, x, e => by rw [show _ = [] from h] at e; cases e
  | a :: r, _, h, 0, x, he => by
    obtain ⟨y, ys, rfl, h1, _⟩ := h
    cases he
    exact ⟨a, rfl, h1⟩
  | a :: r, _, h, i + 1, x, he => by
    obtain ⟨y, ys, rfl, _, h2⟩ := h
    exact All2.mem h2 he
section
variable {P : Program} {w : World} {K : PySem.W.Frag} {mg : Str → Option Value} {base : Heap} {C : Addr}
abbrev s_Book_with_stamps : Stmt := inClass (top 41) 6
theorem sc_Book_with_stamps : FnScope ["self", "rows", "row", "arities"] ["self", "rows"] (defScope s_Book_with_stamps) := ⟨rfl, rfl, rfl, by decide +kernel, rfl, by decide +kernel, by decide +kernel⟩
def ConOk (ar : List Nat) (r : NRow) : Prop := ∀ T, r.con = some (some T) → T.Ok ar ∧ T.sz ≤ 300 ∧ ∀ i, i ∈ T.vars → i < r.n
def spStamps (K : PySem.W.Frag) (C : Addr) (kw : List V) : Sp := fun vs H Q _ => ∃ (b : V) (a : Addr) (rows : List Row) (nrs : List NRow) (ws : List V), vs = [b, .ref a] ∧ BookH K C H rows b ∧ SqT K H a ws ∧ All2 (NRowH K H) nrs ws ∧ rows.length ≤ 400 ∧ nrs.length ≤ 400 ∧
  (∀ r ∈ nrs, OutOk kw r ∧ ConOk (arOf (rows ++ nrs.map NRow.row)) r) ∧
  ∀ (H' : Hp) (t : Addr) (bv tv : V), Same H H' → SqT K H' t [bv, tv] → BookH K C H' (rows ++ nrs.map NRow.row) bv → Q (.ref t) H'
theorem ok_with_stamps {kw : List V} (A : AtM K C "with_stamps" "Book.with_stamps" s_Book_with_stamps ["self", "rows"]) (B : Bi mg) (T : Bk K mg C) (D__is_outline : Has P w K mg base "_is_outline" ["value"] 5 (spOutline K kw)) (D_are_constructors : Has P w K mg base "are_constructors" ["value", "arity", "arities"] 7 (spCons K)) (DM__extended : HasM P w K mg base C "_extended" ["self", "rows"] 3 (spExt K C)) : HasM P w K mg base C "with_stamps" ["self", "rows"] 8 (spStamps K C kw) := by
  refine .mk A fun f fd F => ?_
  refine F.ok sc_Book_with_stamps (fun vs H Q E h => ?_) (fun cdv A outer s H vs Q E hr h => ?_)
  · obtain ⟨b, a, rows, nrs, ws, rfl, _⟩ := h
    rfl
  obtain ⟨b, a, rows, nrs, ws, rfl, hB, hS, hA, hl1, hl2, hok, q⟩ := h
  obtain ⟨f__is_outline, fd__is_outline, G__is_outline, b__is_outline, k__is_outline, m__is_outline⟩ := D__is_outline
  obtain ⟨f_are_constructors, fd_are_constructors, G_are_constructors, b_are_constructors, k_are_constructors, m_are_constructors⟩ := D_are_constructors
  obtain ⟨fm__extended, fdm__extended, GM__extended, bm__extended, mm__extended⟩ := DM__extended
  refine ⟨_, (pss_cons (ps_if (PW.pt (pw_or (pt_not (pt_val (pe_callB (isiK K) (by rfl) B.isinstance (by decide +kernel) (pa_cons (pv 1) (pa_cons (pe_bltn (v := .ty "tuple") rfl B.tuple (by decide +kernel) rfl) pa_nil))))) (pw_or1 (pt_not (pt_val (pe_callB (cr_all rfl) (by rfl) B.all (by decide +kernel) (pa_cons (pe_lc (own := [("row", 2)]) (g := gName 2) (tt := tYes) (by rfl) sc_Book_with_stamps.nd (pi_tup (pv 1)) (blkOk_by (N := ["self", "rows", "row", "arities"]) (sc := defScope s_Book_with_stamps) (by decide +kernel)) (fun _ _ _ _ _ => (pg_name (i := 2) sc_Book_with_stamps.nd rfl (Or.inl rfl))) (fun _ _ _ _ _ => pts_nil) (fun _ _ _ _ _ => (pe_call G__is_outline (hr.mono (by decide)) rfl m__is_outline k__is_outline b__is_outline .nil pass0 (pa_cons (pv 2) pa_nil)))) pa_nil))))))) (pss_one ps_never) pss_nil)
  (pss_cons (ps_set (i := 3) sc_Book_with_stamps.nd rfl (Or.inr rfl) (pe_tup (StX.pa_star (pe_fld (pv 0) rfl) (StX.pa_star (pe_lc (own := [("row", 2)]) (g := gName 2) (tt := tYes) (by rfl) sc_Book_with_stamps.nd (pi_tup (pv 1)) (blkOk_by (N := ["self", "rows", "row", "arities"]) (sc := defScope s_Book_with_stamps) (by decide +kernel)) (fun _ _ _ _ _ => (pg_name (i := 2) sc_Book_with_stamps.nd rfl (Or.inl rfl))) (fun _ _ _ _ _ => pts_nil) (fun _ _ _ _ _ => (pe_ix (ixT K) (pv 2) pe_int (fun _ _ => rfl)))) pa_nil))))
  (pss_cons (ps_if (pt_not (pt_val (pe_callB (cr_all rfl) (by rfl) B.all (by decide +kernel) (pa_cons (pe_lc (own := [("row", 2)]) (g := gName 2) (tt := tYes) (by rfl) sc_Book_with_stamps.nd (pi_tup (pv 1)) (blkOk_by (N := ["self", "rows", "row", "arities"]) (sc := defScope s_Book_with_stamps) (by decide +kernel)) (fun _ _ _ _ _ => (pg_name (i := 2) sc_Book_with_stamps.nd rfl (Or.inl rfl))) (fun _ _ _ _ _ => pts_nil) (fun _ _ _ _ _ => (pe_or (pe_cmpR op_isN (pe_ix (ixT K) (pv 2) pe_int (fun _ _ => rfl)) pe_non (nomark _)) (pe_one (pe_call G_are_constructors (hr.mono (by decide)) rfl m_are_constructors k_are_constructors b_are_constructors .nil pass0 (pa_cons (pe_ix (ixT K) (pv 2) pe_int (fun _ _ => rfl)) (pa_cons (pe_ix (ixT K) (pv 2) pe_int (fun _ _ => rfl)) (pa_cons (pv 3) pa_nil)))))))) pa_nil)))) (pss_one ps_never) pss_nil)
  (pss_one (ps_ret (pe_meth (pv 0) T.cl mm__extended GM__extended (hr.mono (by decide)) bm__extended .nil pass0 (pa_cons (pv 1) pa_nil))))))), ?_⟩
  have hwl := hA.len
  have hB' := hB
  obtain ⟨b', dxb, r, q', rs, rfl, hb, hrr, hra, hrq⟩ := hB'
  refine ⟨_, rfl, _, _, _, _, true, rfl, .ty _, tyx_tup hS, kit_ty (by decide +kernel), _, rfl, iteF ?_⟩
  refine ⟨_, rfl, a, rfl, ⟨_, hS⟩, fun D hD => lc_tup (K := K) (a := a) (xs := ws) (AllInv H D) (.start hD) (fun i H3 _ z => tups_of z.1 _ _ hS) ?_ ?_⟩
  · intro i x H3 hx z
    have hil := lt_of_get hx
    obtain ⟨nr, hnr, hxR⟩ := hA.mem hx
    obtain ⟨ho, _⟩ := hok nr (List.mem_of_getElem? hnr)
    exact ⟨rfl, _, rfl, x, nr, rfl, hxR.mono (tups_of z.1), ho, fun H4 g4 => (z.call g4).step hD (by omega)⟩
  · intro H3 z
    have g3 := z.1
    refine ⟨D, _, rfl, SqL.of z.2, ?_⟩
    rw [all_rep]
    refine ⟨_, rfl, iteF ?_⟩
    have hS3 := tups_of g3 _ _ hS
    have hA3 := (hA.mono (NRowH.mono (tups_of g3))).rows
    refine ⟨_, rfl, b', C, dxb, _, _, rfl, g3 _ _ hb, T.cl, T.nA, bf_ar _ _, q', natV (arOf rows), rfl, .inl (tups_of g3 _ _ hrq), ?_⟩
    refine ⟨_, rfl, a, rfl, ⟨_, hS3⟩, fun D2 hD2 => lc_tup (K := K) (a := a) (xs := ws) (ArInv (nrs.map NRow.row) H3 D2) ⟨same_upd hD2 _, upd_same⟩ (fun i H4 _ y => tups_of y.1 _ _ hS3) ?_ ?_⟩
    · intro i y H4 hy z
      have hil := lt_of_get hy
      obtain ⟨row, hrow, hyR⟩ := hA3.mem hy
      obtain ⟨pr, zz, av, cv, rfl, hpr, _⟩ := hyR
      exact ⟨rfl, _, rfl, pr, _, _, _, rfl, rfl, tups_of z.1 _ _ hpr, atI_nat (j := 1) rfl, z.step hD2 hrow (by omega)⟩
    · rintro H4 ⟨g4, h4⟩
      have hfull : (nrs.map NRow.row).take ws.length = nrs.map NRow.row := List.take_of_length_le (by rw [List.length_map]; omega)
      rw [hfull] at h4
      have g34 := g3.trans g4
      have hal : (arOf rows).length = rows.length := List.length_map _
      have hal2 : (arOf (nrs.map NRow.row)).length = nrs.length := (List.length_map _).trans (List.length_map _)
      refine ⟨D2, _, rfl, .inr (SqL.of h4), ?_, fun t2 ht2 => ?_⟩
      · rw [List.append_nil, List.length_append, natV_len, natV_len]
        exact small300 (by omega)
      have g5 := same_upd ht2 (.tup (natV (arOf rows) ++ (natV (arOf (nrs.map NRow.row)) ++ [])))
      have e2 : natV (arOf rows) ++ (natV (arOf (nrs.map NRow.row)) ++ []) = natV (arOf (rows ++ nrs.map NRow.row)) := by
        rw [List.append_nil, ← natV_app, ← arOf_app]
      have hq5 := (congrArg (SqT K _ t2) e2).mp (sq_new (K := K) (H := H4) (p := t2) (xs := natV (arOf rows) ++ (natV (arOf (nrs.map NRow.row)) ++ [])))
      have g35 := g34.trans g5
      generalize upd H4 t2 (.tup (natV (arOf rows) ++ (natV (arOf (nrs.map NRow.row)) ++ []))) = H5 at g35 hq5
      have hS5 := tups_of g35 _ _ hS
      refine ⟨_, rfl, a, rfl, ⟨_, hS5⟩, fun D3 hD3 => lc_tup (K := K) (a := a) (xs := ws) (AllInv H5 D3) (.start hD3) (fun i H6 _ z => tups_of z.1 _ _ hS5) ?_ ?_⟩
      · intro i x H6 hx y
        have hil := lt_of_get hx
        have g6 := g35.trans y.1
        obtain ⟨nr, hnr, hxR⟩ := hA.mem hx
        obtain ⟨_, hco⟩ := hok nr (List.mem_of_getElem? hnr)
        obtain ⟨p, av, cv, rfl, hp, hav, hcv⟩ := hxR
        have hp6 := tups_of g6 _ _ hp
        refine ⟨rfl, _, rfl, p, _, _, _, rfl, rfl, hp6, atI_nat (j := 3) rfl, rfl, ?_⟩
        cases hc : nr.con with
        | none =>
          rw [hc] at hcv
          have hcv : cv = .non := hcv
          subst hcv
          exact ⟨_, rfl, iteT (y.step hD3 (by omega))⟩
        | some c =>
          rw [hc] at hcv
          have hcv6 : ConH K H6 (some c) cv := ConH.mono (tups_of g6) hcv
          obtain ⟨qq, b1, b2, cc, rfl, _⟩ := hcv
          exact ⟨_, rfl, iteF ⟨_, rfl, p, _, _, _, rfl, rfl, hp6, atI_nat (j := 3) rfl, _, rfl, p, _, _, _, rfl, rfl, hp6, atI_nat (j := 1) rfl, _, rfl, c, _, nr.n, t2, arOf (rows ++ nrs.map NRow.row), rfl, hcv6, tups_of y.1 _ _ hq5, fun T hT => hco T (by rw [hc, hT]), fun H7 g7 => (y.call g7).step hD3 (by omega)⟩⟩
      · intro H6 y
        refine ⟨D3, _, rfl, SqL.of y.2, ?_⟩
        rw [all_rep]
        refine ⟨_, rfl, iteF ?_⟩
        have g6 := g35.trans y.1
        exact ⟨_, rfl, b', dxb, _, rfl, g6 _ _ hb, bf_no _ _ (by decide +kernel) (by decide +kernel), _, rfl, _, a, rows, nrs, ws, rfl, hB.mono g6, tups_of g6 _ _ hS, hA.mono (NRowH.mono (tups_of g6)), hl1, hl2, fun H7 t bv tv g7 ht hbk => q H7 t bv tv (g6.trans g7) ht hbk⟩
end
end Lq
/-! for i, x in enumerate(t), t a tuple -/
namespace Lq
open PySem PySem.Spec PyProof.Rows L2
section
open AutoSeq1 (wpAny_loadPart')
theorem enum_newT (l : Addr) (its : Array Value) (n : Nat) (dd : Option Addr) (sl : Array (Option Value)) :
    Meets (Builtin.«enumerate.__new__» ⟨[.type "enumerate", .ref l], []⟩) (fun _ R s =>
      s.heap.get? l = some { cls := .type "tuple", dict := dd, data := .seq its n, slots := sl } ∧
      R (.ok (.ret (.ref (s.heap.push { cls := .type "tuple_iterator", data := .fields #[.ref l, .int 0 0] }).objs.size)))
        { s with heap := Heap.push (s.heap.push { cls := .type "tuple_iterator", data := .fields #[.ref l, .int 0 0] }) { cls := .type "enumerate", data := .fields #[.none, .bool false, .ref s.heap.objs.size, rawInt 0, .none, .none] } }) :=
  .of_wp fun prog w A R s h => by
    obtain ⟨hp, g, d, tk, os⟩ := s
    obtain ⟨hl, h⟩ := h
    have qsub := sub_enumerate
    have qT : Heap.IsTuple (Shared.heap ⟨hp, g, d, tk, os⟩) l its := ⟨_, hl, rfl, n, rfl⟩
    wp_walk using wpAny_loadPart' hl
    refine wpAny_stack_any fun st => wpAny_pure ?_
    split
    · rename_i c _ _ _ _ _
      cases (c == Value.type "enumerate")
      · wp_walk using wpAny_loadPart' hl, wpAny_pyIter_tuple qT
        exact ⟨_, rfl, h⟩
      · wp_walk using wpAny_loadPart' hl, wpAny_pyIter_tuple qT
        exact ⟨_, rfl, h⟩
    · wp_walk using wpAny_loadPart' hl, wpAny_pyIter_tuple qT
      exact ⟨_, rfl, h⟩
end
section
variable {prog : Program} {w : World} {A : Around} {E : Value → Shared → Prop} {s : Shared}
theorem enum_callT {l : Addr} {its : Array Value} {Q : Value → Shared → Prop} (hT : s.heap.IsTuple l its)
    (h : ∀ h', IsEnum h' (s.heap.objs.size + 1) s.heap.objs.size 0 .none → h'.IsTupleIter s.heap.objs.size l 0 →
      (∀ b o, s.heap.get? b = some o → h'.get? b = some o) → Q (.ref (s.heap.objs.size + 1)) { s with heap := h' }) :
    wpAny (model prog w) A (call (.type "enumerate") [.ref l]) Q E s := by
  obtain ⟨⟨c, dd, dt, sl⟩, hl, hc, n, hd⟩ := hT
  replace hc : c = .type "tuple" := hc
  replace hd : dt = .seq its n := hd
  subst hc hd
  refine callType_new F.called_enumerate (by decide) (F.typeCall_enumerate_1 _) (F.newCall_enumerate_1 _)
    (fun obj => F.args_object_init_2 obj _) F.entry_enumerate_new (enum_newT l its n dd sl) ⟨hl, ?_⟩
  let h1 := s.heap.push { cls := .type "tuple_iterator", data := .fields #[.ref l, .int 0 0] }
  have hz : h1.objs.size = s.heap.objs.size + 1 := Heap.size_push ..
  show _ ∧ _
  rw [show (s.heap.push { cls := .type "tuple_iterator", data := .fields #[.ref l, .int 0 0] }).objs.size = s.heap.objs.size + 1 from hz]
  have he : IsEnum (h1.push { cls := .type "enumerate", data := .fields #[.none, .bool false, .ref s.heap.objs.size, rawInt 0, .none, .none] }) (s.heap.objs.size + 1) s.heap.objs.size 0 .none := by
    have q := Heap.get?_push_size h1 (o := { cls := .type "enumerate", data := .fields #[.none, .bool false, .ref s.heap.objs.size, rawInt 0, .none, .none] }) rfl
    rw [hz] at q
    exact q
  exact ⟨⟨_, he, rfl⟩, h _ he ⟨_, Heap.get?_push_of_some _ (Heap.get?_push_size _ rfl), rfl, rfl⟩ fun b o x => Heap.get?_push_of_some _ (Heap.get?_push_of_some _ x)⟩
end
/-- the tuple at a, each item in a new pair -/
def IteT (K : PySem.W.Frag) (a : Addr) (xs : List V) : It :=
  ⟨fun i H => SqT K H a xs ∧ i < xs.length,
   fun i H v H' => ∃ T x, xs[i]? = some x ∧ v = .ref T ∧ H T = none ∧ H' = upd H T (.tup [.int (i : Nat), x]),
   fun i H => SqT K H a xs ∧ xs.length ≤ i⟩
theorem turn_enumT {P : Program} {w : World} {K : PySem.W.Frag} {elts : List Expr} {kk : Nat} {tpos : Pos} (a e it : Addr) (xs : List V) :
    Turn P w K (.Tuple elts kk tpos) (IteT K a xs) [e, it] e (fun i h => (∃ old, IsEnum h e it ((i : Nat) : Int) old) ∧ h.IsTupleIter it a i ∧ e ≠ it ∧ i ≤ xs.length) where
  mem := by simp
  obj := fun i h st b hb => by
    obtain ⟨⟨old, he⟩, ⟨o, ho, hc, hd⟩, _⟩ := st
    rcases (show b = e ∨ b = it by simpa using hb) with z | z
    · rw [z]
      exact ⟨_, he, fun v q => nomatch q⟩
    · rw [z]
      exact ⟨o, ho, fun v q => by rw [hd] at q; cases q⟩
  keep := fun i h h' st k => let ⟨⟨old, he⟩, hi, hne, hle⟩ := st; ⟨⟨old, k e (by simp) _ he⟩, hi.at fun o q => k it (by simp) o q, hne, hle⟩
  item := by
    intro X hP hw hK hc i pins s σ H E I hf st hg
    subst hP hw hK
    obtain ⟨⟨old, he⟩, hit, hne, hle⟩ := st
    obtain ⟨hq, hxl⟩ := hg
    have hx : xs[i]? = some xs[i] := List.getElem?_eq_getElem hxl
    generalize xs[i] = x at hx
    obtain ⟨its, rv, p, hz⟩ := I.tuple hq
    obtain ⟨u, hu, ru⟩ := rv.get hx
    have hel : e < s.heap.objs.size := Heap.lt_size he
    have hil : it < s.heap.objs.size := by
      obtain ⟨_, q, _⟩ := hit
      exact Heap.lt_size q
    have hae : a ≠ e := by
      intro z
      obtain ⟨o, ho, hc', _⟩ := p
      rw [z, he] at ho
      cases ho
      simp at hc'
    have hai : a ≠ it := by
      intro z
      obtain ⟨o, ho, hc', _⟩ := p
      obtain ⟨o2, ho2, hc2, _⟩ := hit
      rw [z, ho2] at ho
      cases ho
      rw [hc2] at hc'
      simp at hc'
    have hlt : i < its.toArray.size := by
      rw [List.size_toArray]
      exact (List.getElem?_eq_some_iff.mp hu).1
    refine wpAny_pyNext_enum_itemD (Draws.tuple (A := X.A.in1) (I.ok.hd hc) it a hai its.toArray) he ⟨hit, p⟩ hlt hne (by simp [hne, Ne.symm hae]) fun y h' tk hy ho hit' hT hsz hk => ?_
    have ey : y = u := by
      have : its.toArray[i]? = some u := by simpa using hu
      rw [this] at hy
      injection hy with hy
      exact hy.symm
    subst ey
    refine ⟨_, rfl, wpAny_letOwnedTupleGo_enum (s := { s with heap := h', toks := tk + 1 }) ho fun h'' he' sb => ?_⟩
    have hT2 : h''.get? s.heap.objs.size = some { cls := .type "tuple", data := .seq #[.int i tk, y] } := (sb.2 _ (Nat.ne_of_gt hel)).trans hT
    have new : ObjOk X.prog X.w (upd H s.heap.objs.size (.tup [.int (i : Nat), x])) h'' s.heap.objs.size (.tup [.int (i : Nat), x]) :=
      ⟨by show 2 ≤ sizeLine; decide, [.int i tk, y], .cons ⟨_, rfl⟩ (.cons ru .nil), ⟨_, hT2, rfl, _, rfl⟩⟩
    have I1 : Inv X pins σ (upd H s.heap.objs.size (.tup [.int (i : Nat), x])) { s with heap := h'', toks := tk + 1 } :=
      I.turnedNew (ch := [e, it]) (fun b ob hb q => (sb.2 b (fun z => hb (by simp [z]))).trans
        (hk b ob (fun z => hb (by simp [z])) (fun z => hb (by simp [z])) q)) hf (Nat.le_refl _) new
    refine ⟨.ref s.heap.objs.size, _, I1, rfl, ⟨_, x, hx, rfl, I.hok.fresh (Nat.le_refl _), rfl⟩,
      ⟨⟨y, ?_⟩, hit'.1.at fun o q => (sb.2 it (Ne.symm hne)).trans q, hne, hxl⟩, fun b hb => ?_⟩
    · rw [show ((i + 1 : Nat) : Int) = (i : Int) + 1 by omega]
      exact he'
    · have hb' : b < s.heap.objs.size := by
        rcases (show b = e ∨ b = it by simpa using hb) with z | z
        · rw [z]
          exact hel
        · rw [z]
          exact hil
      rw [upd_ne (Nat.ne_of_lt hb')]
      exact (hf b hb).1
  done := by
    intro X hP hw hK hc i pins s σ H E I hf st hg
    subst hP hw hK
    obtain ⟨⟨old, he⟩, hit, hne, hle⟩ := st
    obtain ⟨hq, hx⟩ := hg
    obtain ⟨its, rv, p, hz⟩ := I.tuple hq
    obtain ⟨f0, f1, f2, f3, f4, f5⟩ := hf it (by simp)
    have hl := rv.length
    have hai : a ≠ it := by
      intro z
      obtain ⟨o, ho, hc', _⟩ := p
      obtain ⟨o2, ho2, hc2, _⟩ := hit
      rw [z, ho2] at ho
      cases ho
      rw [hc2] at hc'
      simp at hc'
    have hin : i = its.toArray.size := by
      rw [List.size_toArray]
      omega
    rw [hin] at hit
    exact wpAny_pyNext_enum_endD (Draws.tuple (A := X.A.in1) (I.ok.hd hc) it a hai its.toArray) he ⟨hit, p⟩
      fun h' eb => ⟨rfl, I.turned (t' := s.toks) (fun b o hb q => eb b o hb q) f0 f1 f3 f4 f5⟩
  self := fun A i s Q E st h => let ⟨⟨_, he⟩, _⟩ := st; wpAny_pyIter_enum he h
def iEnumT (K : PySem.W.Frag) (ta : TA) : TI := fun σ H R => ta σ H fun vs H1 => ∃ a xs, vs = [.ref a] ∧ SqT K H1 a xs ∧ R (IteT K a xs) H1
theorem pi_enumT {X : Cx} {e : Expr} {ta : TA} {p pos tpos : Pos} {elts : List Expr} {kk : Nat} (hg : Gl X "enumerate") (hm : X.mg "enumerate" = none) (ha : PA X [e] ta) (hs : starEach [e] X.env = [(false, eval e X.env)] := by rfl) :
    PI X (.Tuple elts kk tpos) (.Call (.Name "enumerate" p) [e] [] pos) (iEnumT X.K ta) := by
  refine ⟨fun pins s σ H R I h => ?_⟩
  refine Call_ (ld_blt I hg hm boot_enumerate (PyProof.Rows.callWith_type1
    (thn (ha.run pos pins s σ H _ I h) fun us s1 ⟨vs, H1, I1, r1, q1⟩ => ?_) hs rfl))
  obtain ⟨a, xs, ex, hq, q⟩ := q1
  subst ex
  cases r1 with
  | cons r rr =>
    cases rr
    cases r
    obtain ⟨its, rv, p', hz⟩ := I1.tuple hq
    refine enum_callT p' fun h' he hit hk => wpAny_pyIter_enum he ?_
    have I2 : Inv X pins σ H1 { s1 with heap := h' } := I1.kept (t' := s1.toks) hk
    refine ⟨s1.heap.objs.size + 1, [s1.heap.objs.size + 1, s1.heap.objs.size], _, _, H1, rfl, I2,
      turn_enumT a (s1.heap.objs.size + 1) s1.heap.objs.size xs, ⟨⟨.none, he⟩, hit, Nat.succ_ne_self _, Nat.zero_le _⟩, fun b hb => ?_, q⟩
    have hle : s1.heap.objs.size ≤ b := by
      rcases (show b = s1.heap.objs.size + 1 ∨ b = s1.heap.objs.size by simpa using hb) with z | z
      · rw [z]
        exact Nat.le_succ _
      · rw [z]
        exact Nat.le_refl _
    exact I1.fpOk hle (I1.hok.fresh hle)
/-- a for over enumerate of a tuple that stays -/
theorem for_enumT {K : PySem.W.Frag} {a : Addr} {xs : List V} {g : TG} {tb : TS} {D : Ends} {σ : L2.St} {H : Hp} (Pv : Nat → L2.St → Hp → Prop) (h0 : Pv 0 σ H) (hq : ∀ i σ H, Pv i σ H → SqT K H a xs)
    (hs : ∀ (i : Nat) (x : V) (T : Addr) (σ : L2.St) (H : Hp), xs[i]? = some x → Pv i σ H → H T = none → g (.ref T) σ (upd H T (.tup [.int (i : Nat), x])) fun σ2 H2 => tb { D with nx := Pv (i + 1), ct := Pv (i + 1), bk := D.nx } σ2 H2)
    (hd : ∀ σ H, Pv xs.length σ H → D.nx σ H) :
    ∃ W : Nat → Nat → L2.St → Hp → Prop, (∃ m, W 0 m σ H) ∧ ∀ i m σ H, W i m σ H →
      ((IteT K a xs).stop i H ∧ D.nx σ H) ∨ ((IteT K a xs).go i H ∧ ∃ N : L2.St → Hp → Prop, (∀ σ' H', N σ' H' → ∃ m', m' < m ∧ W (i + 1) m' σ' H') ∧ ∀ v H', (IteT K a xs).yld i H v H' → g v σ H' fun σ2 H2 => tb { D with nx := N, ct := N, bk := D.nx } σ2 H2) := by
  refine ⟨fun i m σ H => m = xs.length - i ∧ i ≤ xs.length ∧ Pv i σ H, ⟨xs.length, by simp, Nat.zero_le _, h0⟩, ?_⟩
  rintro i m σ H ⟨rfl, hi, p⟩
  have q := hq i σ H p
  by_cases hlt : i < xs.length
  · refine .inr ⟨⟨q, hlt⟩, Pv (i + 1), fun σ' H' p' => ⟨xs.length - (i + 1), by omega, rfl, hlt, p'⟩, fun v H' y => ?_⟩
    obtain ⟨T, x, hx, rfl, hT, rfl⟩ := y
    exact hs i x T σ H hx p hT
  · have e : i = xs.length := by omega
    subst e
    exact .inl ⟨⟨q, Nat.le_refl _⟩, hd σ H p⟩
end Lq
namespace Lq
open PySem L2
/-! ### the law's drawing -/
def HatOk (H : Hp) (h : Addr) : Prop := ∃ i j k : Int, H h = some (.lst [.int i, .int j, .int k])
/-- all but the hat at h is as it was -/
def Gw (h : Addr) (H H' : Hp) : Prop := (∀ b o, b ≠ h → H b = some o → H' b = some o) ∧ HatOk H' h
theorem Gw.trans {h : Addr} {H H1 H2 : Hp} (a : Gw h H H1) (b : Gw h H1 H2) : Gw h H H2 := ⟨fun c o hc e => b.1 c o hc (a.1 c o hc e), b.2⟩
theorem Gw.of_same {h : Addr} {H H1 : Hp} (k : HatOk H h) (s : Same H H1) : Gw h H H1 := ⟨fun c o _ e => s c o e, by
  obtain ⟨i, j, l, e⟩ := k
  exact ⟨i, j, l, s _ _ e⟩⟩
theorem Gw.refl {h : Addr} {H : Hp} (k : HatOk H h) : Gw h H H := .of_same k (.refl _)
theorem Gw.tups {K : PySem.W.Frag} {h : Addr} {H H1 : Hp} (k : HatOk H h) (g : Gw h H H1) : Tups K H H1 := by
  obtain ⟨i, j, l, e⟩ := k
  intro a xs q
  rcases q with (q | ⟨u, q⟩) | q
  · exact .inl (.inl (g.1 _ _ (ne_of q e (by intro z; cases z)) q))
  · exact .inl (.inr ⟨u, g.1 _ _ (ne_of q e (by intro z; cases z)) q⟩)
  · exact .inr q
theorem Gw.book {K : PySem.W.Frag} {C h : Addr} {H H1 : Hp} (k : HatOk H h) (g : Gw h H H1) {rows : List Row} {v : V} (hB : BookH K C H rows v) : BookH K C H1 rows v := by
  have t := g.tups (K := K) k
  obtain ⟨i, j, l, e⟩ := k
  obtain ⟨b, dx, r, q, rs, h1, h2, h3, h4, h5⟩ := hB
  exact ⟨b, dx, r, q, rs, h1, g.1 _ _ (ne_of h2 e (by intro z; cases z)) h2, t _ _ h3, h4.mono (RowH.mono t), t _ _ h5⟩
theorem Gw.lst {K : PySem.W.Frag} {h p : Addr} {H H1 : Hp} (g : Gw h H H1) {xs : List V} (hp : p ≠ h) (q : SqL K H p xs) : SqL K H1 p xs := by
  rcases q with (q | ⟨u, q⟩) | q
  · exact .inl (.inl (g.1 _ _ hp q))
  · exact .inl (.inr ⟨u, g.1 _ _ hp q⟩)
  · exact .inr q
theorem fmod_nat (i : Int) {n : Nat} (h : 0 < n) : ∃ r : Nat, i.fmod (n : Int) = (r : Int) ∧ r < n := by
  have h1 : i.fmod (n : Int) = i % (n : Int) := Int.fmod_eq_emod_of_nonneg i (by omega)
  have h2 := Int.emod_nonneg i (show (n : Int) ≠ 0 by omega)
  have h3 := Int.emod_lt_of_pos i (show (0 : Int) < (n : Int) by omega)
  exact ⟨(i % (n : Int)).toNat, by rw [h1]; omega, by omega⟩
section
variable {P : Program} {w : World} {K : PySem.W.Frag} {mg : Str → Option Value} {base : Heap} {C : Addr}
abbrev s__law_hat : Stmt := top 59
theorem sc__law_hat : FnScope ["_law_script", "_law_spot", "_law_cell", "_law_great"] ["_law_script", "_law_spot"] (defScope s__law_hat) := ⟨rfl, rfl, rfl, by decide +kernel, rfl, by decide +kernel, by decide +kernel⟩
def spHat (K : PySem.W.Frag) : Sp := fun vs H Q _ => ∃ (a : Addr) (ns : List Int) (n : Nat), vs = [.ref a, .int (n : Int)] ∧ SqL K H a (ns.map V.int) ∧ n < 1000 ∧
  ∀ (H' : Hp) (h : Addr), Same H H' → H h = none → HatOk H' h → Q (.ref h) H'
theorem ok_hat (A : At K mg "_law_hat" s__law_hat ["_law_script", "_law_spot"]) (B : Bi mg) : Has P w K mg base "_law_hat" ["_law_script", "_law_spot"] 1 (spHat K) := by
  refine .mk A fun f fd F => ?_
  refine F.ok sc__law_hat (fun vs H Q E h => ?_) (fun cdv A outer s H vs Q E hr h => ?_)
  · obtain ⟨a, ns, n, rfl, _⟩ := h
    rfl
  obtain ⟨a, ns, n, rfl, hS, hn, q⟩ := h
  refine ⟨_, (pss_cons (ps_set (i := 2) sc__law_hat.nd rfl (Or.inl rfl) (pe_ifExp (pt_cmpR op_lt (pv 1) (pe_callB (lenS K) (by rfl) B.len (by decide +kernel) (pa_cons (pv 0) pa_nil)) (nomark _)) (pe_ix (ixL K) (pv 0) (pv 1) (fun _ _ => rfl)) (pe_op op_add (pe_op op_mul pe_int (pv 1)) pe_int)))
  (pss_cons (ps_set (i := 3) sc__law_hat.nd rfl (Or.inl rfl) (pe_op op_modN (pe_callB call_abs (by rfl) B.abs (by decide +kernel) (pa_cons (pe_callTy call_int1 (by rfl) B.int (by decide +kernel) (pa_cons (pv 2) pa_nil)) pa_nil)) (pe_op op_powB (pe_op op_pow pe_int pe_int) pe_int)))
  (pss_one (ps_ret (pe_lst (pa_cons (pe_callB (call_max2 rfl) (by rfl) B.max (by decide +kernel) (pa_cons pe_int (pa_cons (pe_op op_sub (pv 3) (pe_op op_pow pe_int pe_int)) pa_nil))) (pa_cons (pe_op op_add (pe_op op_add (pe_op op_add (pe_op op_mul (pe_op op_modN (pv 3) pe_int) pe_int) (pe_op op_mul pe_int (pv 1))) (pe_op op_mul pe_int (pe_callTy call_int1 (by rfl) B.int (by decide +kernel) (pa_cons (pe_cmpR op_lt (pv 2) pe_int (nomark _)) pa_nil)))) pe_int) (pa_cons pe_int pa_nil)))))))), ?_⟩
  have hl : (ns.map V.int).length = ns.length := List.length_map _
  -- the rest of the def, once the cell is known
  have rest : ∀ c : Int, ∃ z, z = V.int c := fun c => ⟨_, rfl⟩
  refine ⟨_, rfl, _, rfl, a, _, rfl, .inl hS, _, _, rfl, rfl, _, rfl, ite2 (fun hc => ?_) (fun hc => ?_)⟩
  · have hc' : (n : Int) < (((ns.map V.int).length : Nat) : Int) := of_decide_eq_true hc
    rw [hl] at hc'
    have hnl : n < ns.length := by omega
    have hat : (ns.map V.int)[n]? = some (.int ns[n]) := by
      rw [List.getElem?_map, List.getElem?_eq_getElem hnl]
      rfl
    refine ⟨_, rfl, _, rfl, a, _, _, _, rfl, rfl, hS, at_of (j := n) rfl hat, ?_⟩
    refine ⟨_, rfl, .inl ⟨_, rfl, _, rfl, _, _, rfl, rfl, ⟨by decide, by decide, by decide⟩, _, _, rfl, rfl, ⟨by decide, by decide +kernel⟩, _, _, rfl, rfl, (by show ((10 : Int) ^ Int.toNat 59) ^ Int.toNat 5 ≠ 0; decide +kernel), ?_⟩⟩
    refine ⟨_, rfl, _, _, rfl, rfl, ⟨by decide, by decide, by decide⟩, _, _, rfl, rfl, _, _, rfl, ?_⟩
    refine ⟨_, rfl, _, _, rfl, rfl, (by show (2147483497 : Int) ≠ 0; decide), _, _, rfl, rfl, .inr ⟨by decide, by decide⟩, _, rfl, _, _, rfl, rfl, .inl ⟨by decide, by decide⟩, _, _, rfl, rfl, ?_⟩
    refine ⟨_, rfl, _, _, rfl, rfl, .inr ⟨_, rfl, _, _, rfl, rfl, .inl ⟨by decide, by decide⟩, _, _, rfl, rfl, _, _, rfl, rfl, ?_⟩⟩
    exact ⟨by show 3 ≤ sizeLine; decide, fun h hh => q _ h (same_upd hh _) hh ⟨_, _, _, upd_same⟩⟩
  · refine ⟨_, rfl, _, _, rfl, rfl, .inl ⟨by decide, by decide⟩, _, _, rfl, rfl, ?_⟩
    refine ⟨_, rfl, .inl ⟨_, rfl, _, rfl, _, _, rfl, rfl, ⟨by decide, by decide, by decide⟩, _, _, rfl, rfl, ⟨by decide, by decide +kernel⟩, _, _, rfl, rfl, (by show ((10 : Int) ^ Int.toNat 59) ^ Int.toNat 5 ≠ 0; decide +kernel), ?_⟩⟩
    refine ⟨_, rfl, _, _, rfl, rfl, ⟨by decide, by decide, by decide⟩, _, _, rfl, rfl, _, _, rfl, ?_⟩
    refine ⟨_, rfl, _, _, rfl, rfl, (by show (2147483497 : Int) ≠ 0; decide), _, _, rfl, rfl, .inr ⟨by decide, by decide⟩, _, rfl, _, _, rfl, rfl, .inl ⟨by decide, by decide⟩, _, _, rfl, rfl, ?_⟩
    refine ⟨_, rfl, _, _, rfl, rfl, .inr ⟨_, rfl, _, _, rfl, rfl, .inl ⟨by decide, by decide⟩, _, _, rfl, rfl, _, _, rfl, rfl, ?_⟩⟩
    exact ⟨by show 3 ≤ sizeLine; decide, fun h hh => q _ h (same_upd hh _) hh ⟨_, _, _, upd_same⟩⟩
abbrev s__law_lift : Stmt := top 60
theorem sc__law_lift : FnScope ["_law_hat_here", "_law_total", "_law_found", "_law_one", "_law_two"] ["_law_hat_here", "_law_total"] (defScope s__law_lift) := ⟨rfl, rfl, rfl, by decide +kernel, rfl, by decide +kernel, by decide +kernel⟩
def spLift : Sp := fun vs H Q _ => ∃ (h : Addr) (n : Nat), vs = [.ref h, .int (n : Int)] ∧ HatOk H h ∧ 0 < n ∧ n < 1000000 ∧ ∀ (H' : Hp) (r : Nat), r < n → Gw h H H' → Q (.int (r : Int)) H'
theorem ok_lift (A : At K mg "_law_lift" s__law_lift ["_law_hat_here", "_law_total"]) (B : Bi mg) : Has P w K mg base "_law_lift" ["_law_hat_here", "_law_total"] 1 spLift := by
  refine .mk A fun f fd F => ?_
  refine F.ok sc__law_lift (fun vs H Q E h => ?_) (fun cdv A outer s H vs Q E hr h => ?_)
  · obtain ⟨h, n, rfl, _⟩ := h
    rfl
  obtain ⟨h, n, rfl, ⟨i, j, k, hh⟩, h0, h1, q⟩ := h
  refine ⟨_, (pss_cons (ps_if (pt_cmpR op_gt (pe_ix (ixL K) (pv 0) pe_int (fun _ _ => rfl)) pe_int (nomark _)) (pss_cons (ps_set (i := 2) sc__law_lift.nd rfl (Or.inl rfl) (pe_op op_modN (pe_callTy call_int1 (by rfl) B.int (by decide +kernel) (pa_cons (pe_ix (ixL K) (pv 0) pe_int (fun _ _ => rfl)) pa_nil)) (pv 1)))
  (pss_cons (ps_asg (pe_op op_fdivN (pe_ix (ixL K) (pv 0) pe_int (fun _ _ => rfl)) (pv 1)) (pg_sub (pv 0) pe_int set_list))
  (pss_one (ps_ret (pv 2))))) pss_nil)
  (pss_cons (ps_asg (pe_op op_add (pe_ix (ixL K) (pv 0) pe_int (fun _ _ => rfl)) pe_int) (pg_sub (pv 0) pe_int set_list))
  (pss_cons (ps_set (i := 3) sc__law_lift.nd rfl (Or.inl rfl) (pe_op op_modN (pe_callTy call_int1 (by rfl) B.int (by decide +kernel) (pa_cons (pe_op op_add (pe_ix (ixL K) (pv 0) pe_int (fun _ _ => rfl)) (pe_op op_mul pe_int (pe_ix (ixL K) (pv 0) pe_int (fun _ _ => rfl)))) pa_nil)) pe_int))
  (pss_cons (ps_set (i := 4) sc__law_lift.nd rfl (Or.inl rfl) (pe_op op_add (pe_op op_mul (pe_op op_modN (pe_callTy call_int1 (by rfl) B.int (by decide +kernel) (pa_cons (pe_op op_add (pe_op op_mul (pv 3) (pv 3)) (pe_op op_mul pe_int (pe_ix (ixL K) (pv 0) pe_int (fun _ _ => rfl)))) pa_nil)) pe_int) pe_int) (pv 3)))
  (pss_one (ps_ret (pe_op op_modN (pe_callTy call_int1 (by rfl) B.int (by decide +kernel) (pa_cons (pe_op op_fdivN (pv 4) pe_int) pa_nil)) (pv 1)))))))), ?_⟩
  have gset : ∀ (H1 : Hp) (i j k : Int), (∀ b, b ≠ h → H1 b = H b) → Gw h H (upd H1 h (.lst [.int i, .int j, .int k])) := fun H1 i j k e =>
    ⟨fun b o hb ho => by rw [upd_ne hb, e b hb]; exact ho, ⟨i, j, k, upd_same⟩⟩
  refine ⟨_, rfl, h, _, _, _, rfl, rfl, SqL.of hh, atI_nat (j := 0) rfl, _, _, rfl, rfl, _, rfl, ite2 (fun hc => ?_) (fun hc => ?_)⟩
  · refine ⟨_, rfl, h, _, _, _, rfl, rfl, SqL.of hh, atI_nat (j := 0) rfl, .inl ⟨_, rfl, _, rfl, _, _, rfl, rfl, by omega, ?_⟩⟩
    refine ⟨_, rfl, h, _, _, _, rfl, rfl, SqL.of hh, atI_nat (j := 0) rfl, _, rfl, _, _, rfl, rfl, ⟨by omega, by omega⟩, _, rfl, h, _, _, 0, rfl, rfl, hh, rfl, ?_⟩
    obtain ⟨r, hr1, hr2⟩ := fmod_nat i h0
    refine ⟨_, rfl, ?_⟩
    have d : Q (.int (i.fmod n)) (upd H h (.lst [.int (i.fdiv n), .int j, .int k])) := by
      rw [hr1]
      exact q _ r hr2 (gset H _ _ _ fun b _ => rfl)
    exact d
  · refine ⟨_, rfl, h, _, _, _, rfl, rfl, SqL.of hh, atI_nat (j := 2) rfl, _, _, rfl, rfl, _, rfl, h, _, _, 2, rfl, rfl, hh, rfl, ?_⟩
    have hh2 : upd H h (.lst [.int i, .int j, .int (k + 1)]) h = some (.lst [.int i, .int j, .int (k + 1)]) := upd_same
    refine ⟨_, rfl, h, _, _, _, rfl, rfl, SqL.of hh2, atI_nat (j := 1) rfl, _, rfl, h, _, _, _, rfl, rfl, SqL.of hh2, atI_nat (j := 2) rfl, _, _, rfl, rfl, .inl ⟨by decide, by decide⟩, _, _, rfl, rfl, .inl ⟨_, rfl, _, _, rfl, rfl, (by show (2305843009213693907 : Int) ≠ 0; decide), ?_⟩⟩
    obtain ⟨one, ho1, ho2⟩ := fmod_nat (j + 8219 * (k + 1)) (n := 2305843009213693907) (by decide)
    have ho3 : -(2 ^ 64) < (j + 8219 * (k + 1)).fmod 2305843009213693907 ∧ (j + 8219 * (k + 1)).fmod 2305843009213693907 < 2 ^ 64 := by
      have e : (j + 8219 * (k + 1)).fmod 2305843009213693907 = (one : Int) := ho1
      rw [e]
      omega
    have n0 : (n : Int) ≠ 0 := by omega
    refine ⟨_, rfl, _, rfl, _, _, rfl, rfl, .inl ho3, ?_⟩
    refine ⟨_, rfl, h, _, _, _, rfl, rfl, SqL.of hh2, atI_nat (j := 2) rfl, _, _, rfl, rfl, .inl ⟨by decide, by decide⟩, _, _, rfl, rfl, .inl ⟨_, rfl, _, _, rfl, rfl, (by show (2305843009213693921 : Int) ≠ 0; decide), ?_⟩⟩
    refine ⟨_, _, rfl, rfl, .inr ⟨by decide, by decide⟩, _, rfl, _, _, rfl, rfl, ?_⟩
    refine ⟨_, rfl, _, _, rfl, rfl, ⟨by omega, by omega⟩, .inl ⟨_, rfl, _, rfl, _, _, rfl, rfl, n0, ?_⟩⟩
    obtain ⟨r, hr1, hr2⟩ := fmod_nat (((((j + 8219 * (k + 1)).fmod 2305843009213693907 * (j + 8219 * (k + 1)).fmod 2305843009213693907 + 89 * (k + 1)).fmod 2305843009213693921 * 7368791 + (j + 8219 * (k + 1)).fmod 2305843009213693907)).fdiv 65536) h0
    have d : Q (.int ((((((j + 8219 * (k + 1)).fmod 2305843009213693907 * (j + 8219 * (k + 1)).fmod 2305843009213693907 + 89 * (k + 1)).fmod 2305843009213693921 * 7368791 + (j + 8219 * (k + 1)).fmod 2305843009213693907)).fdiv 65536).fmod n)) (upd H h (.lst [.int i, .int j, .int (k + 1)])) := by
      rw [hr1]
      exact q _ r hr2 (gset H _ _ _ fun b _ => rfl)
    exact d
abbrev s__law_choice : Stmt := top 61
theorem sc__law_choice : FnScope ["_law_hat_here", "_law_items"] ["_law_hat_here", "_law_items"] (defScope s__law_choice) := ⟨rfl, rfl, rfl, by decide +kernel, rfl, by decide +kernel, by decide +kernel⟩
def spChoice (K : PySem.W.Frag) : Sp := fun vs H Q _ => ∃ (h p : Addr) (xs : List V), vs = [.ref h, .ref p] ∧ HatOk H h ∧ p ≠ h ∧ SqL K H p xs ∧ 0 < xs.length ∧ xs.length < 1000000 ∧ ∀ (H' : Hp) (r : Nat) (x : V), xs[r]? = some x → Gw h H H' → Q x H'
theorem ok_choice (A : At K mg "_law_choice" s__law_choice ["_law_hat_here", "_law_items"]) (B : Bi mg) (D__law_lift : Has P w K mg base "_law_lift" ["_law_hat_here", "_law_total"] 1 spLift) : Has P w K mg base "_law_choice" ["_law_hat_here", "_law_items"] 2 (spChoice K) := by
  refine .mk A fun f fd F => ?_
  refine F.ok sc__law_choice (fun vs H Q E h => ?_) (fun cdv A outer s H vs Q E hr h => ?_)
  · obtain ⟨h, p, xs, rfl, _⟩ := h
    rfl
  obtain ⟨h, p, xs, rfl, hh, hne, hp, h0, h1, q⟩ := h
  obtain ⟨f__law_lift, fd__law_lift, G__law_lift, b__law_lift, k__law_lift, m__law_lift⟩ := D__law_lift
  refine ⟨_, (pss_one (ps_ret (pe_ix (ixL K) (pv 1) (pe_call G__law_lift (hr.mono (by decide)) rfl m__law_lift k__law_lift b__law_lift .nil pass0 (pa_cons (pv 0) (pa_cons (pe_callB (lenS K) (by rfl) B.len (by decide +kernel) (pa_cons (pv 1) pa_nil)) pa_nil))) (fun _ _ => rfl)))), ?_⟩
  refine ⟨_, rfl, _, rfl, _, rfl, p, _, rfl, .inl hp, h, xs.length, rfl, hh, h0, h1, fun H1 r hr1 g1 => ?_⟩
  exact ⟨p, _, _, xs[r], rfl, rfl, g1.lst hne hp, at_of (j := r) rfl (List.getElem?_eq_getElem hr1), q H1 r _ (List.getElem?_eq_getElem hr1) g1⟩
end
end Lq
namespace Lq
open PySem L2
abbrev tv (n : Nat) : Ty := .node (.var n) []
abbrev tfn (A B : Ty) : Ty := .node .fn [A, B]
abbrev ttup (ts : List Ty) : Ty := .node .tup ts
abbrev tmd (s : Nat) (ts : List Ty) : Ty := .node (.made s) ts
theorem TyH.var {K : PySem.W.Frag} {H : Hp} {a : Addr} {n : Nat} (h : SqT K H a [.str "var", .int (n : Int)]) : TyH K H (tv n) (.ref a) := .mk ⟨_, h, rfl, rfl⟩ .nil
theorem TyH.fn {K : PySem.W.Frag} {H : Hp} {a : Addr} {A B : Ty} {x y : V} (h : SqT K H a [.str "fn", x, y]) (hA : TyH K H A x) (hB : TyH K H B y) : TyH K H (tfn A B) (.ref a) := .mk ⟨_, h, rfl, rfl⟩ (.cons hA (.cons hB .nil))
theorem TyH.tup {K : PySem.W.Frag} {H : Hp} {a b : Addr} {ts : List Ty} {xs : List V} (h : SqT K H a [.str "tuple", .ref b]) (hb : SqT K H b xs) (hs : TysH K H ts xs) : TyH K H (ttup ts) (.ref a) := .mk ⟨_, h, b, rfl, hb⟩ hs
theorem TyH.made {K : PySem.W.Frag} {H : Hp} {a b : Addr} {s : Nat} {ts : List Ty} {xs : List V} (h : SqT K H a [.str "made", .int (s : Int), .ref b]) (hb : SqT K H b xs) (hs : TysH K H ts xs) : TyH K H (tmd s ts) (.ref a) := .mk ⟨_, h, b, rfl, hb⟩ hs
theorem HatOk.mono {H H' : Hp} {h : Addr} (k : HatOk H h) (s : Same H H') : HatOk H' h := by
  obtain ⟨i, j, l, e⟩ := k
  exact ⟨i, j, l, s _ _ e⟩
theorem HatOk.ne {H : Hp} {h l : Addr} (k : HatOk H h) (e : H l = none) : l ≠ h := by
  obtain ⟨i, j, k, e2⟩ := k
  exact fun z => by rw [z, e2] at e; cases e
/-- what is drawn out of a list stands for one of what its items stand for -/
theorem drawn {α : Type} {R : Hp → α → V → Prop} {es : List α} {xs : List V} {H H' : Hp} (m : ∀ e x, R H e x → R H' e x) (h : All2 (R H) es xs) {r : Nat} {x : V} (e : xs[r]? = some x) : ∃ a ∈ es, R H' a x := by
  obtain ⟨a, ha, hR⟩ := h.mem e
  exact ⟨a, List.mem_of_getElem? ha, m _ _ hR⟩
def aks2 : List (Option (List Nat)) := [none, some [], some [0], some [1], some [0, 1], some [0, 1]]
def aks1 : List (Option (List Nat)) := [none, some [], some [0], some [0]]
def aks0 : List (Option (List Nat)) := [none, some []]
def cars : List (Option Ty) := [none, some (tv 0), some (tmd 5 [tv 0]), some (tfn (tv 0) (tv 0))]
structure Drawn (nrs : List NRow) : Prop where
  ex : ∃ a2 a1 a0 con, nrs = [⟨"pair", 2, a2, none⟩, ⟨"box", 1, a1, con⟩, ⟨"far", 0, a0, none⟩] ∧ a2 ∈ aks2 ∧ a1 ∈ aks1 ∧ a0 ∈ aks0 ∧ ∀ T, con = some T → T ∈ cars
section
variable {P : Program} {w : World} {K : PySem.W.Frag} {mg : Str → Option Value} {base : Heap} {C : Addr}
theorem z0 : (0 : Nat) ≤ sizeLine := by decide
theorem z1 : (1 : Nat) ≤ sizeLine := by decide
theorem z2 : (2 : Nat) ≤ sizeLine := by decide
theorem z3 : (3 : Nat) ≤ sizeLine := by decide
theorem z4 : (4 : Nat) ≤ sizeLine := by decide
theorem z6 : (6 : Nat) ≤ sizeLine := by decide
abbrev s__law_rows : Stmt := top 62
theorem sc__law_rows : FnScope ["_law_hat_here", "_law_two", "_law_carried", "_law_built", "_law_one"] ["_law_hat_here"] (defScope s__law_rows) := ⟨rfl, rfl, rfl, by decide +kernel, rfl, by decide +kernel, by decide +kernel⟩
def spRows (K : PySem.W.Frag) : Sp := fun vs H Q _ => ∃ h : Addr, vs = [.ref h] ∧ HatOk H h ∧ ∀ (H' : Hp) (p : Addr) (nrs : List NRow) (ws : List V), Gw h H H' → Drawn nrs → SqT K H' p ws → All2 (NRowH K H') nrs ws → Q (.ref p) H'
theorem ok_rows (A : At K mg "_law_rows" s__law_rows ["_law_hat_here"]) (B : Bi mg) (D__law_choice : Has P w K mg base "_law_choice" ["_law_hat_here", "_law_items"] 2 (spChoice K)) : Has P w K mg base "_law_rows" ["_law_hat_here"] 3 (spRows K) := by
  refine .mk A fun f fd F => ?_
  refine F.ok sc__law_rows (fun vs H Q E h => ?_) (fun cdv A outer s H vs Q E hr h => ?_)
  · obtain ⟨h, rfl, _⟩ := h
    rfl
  obtain ⟨h, rfl, hh, q⟩ := h
  obtain ⟨f__law_choice, fd__law_choice, G__law_choice, b__law_choice, k__law_choice, m__law_choice⟩ := D__law_choice
  refine ⟨_, (pss_cons (ps_set (i := 1) sc__law_rows.nd rfl (Or.inl rfl) (pe_tup (pa_cons pe_str (pa_cons pe_int (pa_cons (pe_call G__law_choice (hr.mono (by decide)) rfl m__law_choice k__law_choice b__law_choice .nil pass0 (pa_cons (pv 0) (pa_cons (pe_lst (pa_cons pe_non (pa_cons (pe_tup pa_nil) (pa_cons (pe_tup (pa_cons pe_int pa_nil)) (pa_cons (pe_tup (pa_cons pe_int pa_nil)) (pa_cons (pe_tup (pa_cons pe_int (pa_cons pe_int pa_nil))) (pa_cons (pe_tup (pa_cons pe_int (pa_cons pe_int pa_nil))) pa_nil))))))) pa_nil))) (pa_cons pe_non pa_nil))))))
  (pss_cons (ps_set (i := 2) sc__law_rows.nd rfl (Or.inl rfl) (pe_call G__law_choice (hr.mono (by decide)) rfl m__law_choice k__law_choice b__law_choice .nil pass0 (pa_cons (pv 0) (pa_cons (pe_lst (pa_cons pe_non (pa_cons (pe_tup (pa_cons pe_str (pa_cons pe_int pa_nil))) (pa_cons (pe_tup (pa_cons pe_str (pa_cons pe_int (pa_cons (pe_tup (pa_cons (pe_tup (pa_cons pe_str (pa_cons pe_int pa_nil))) pa_nil)) pa_nil)))) (pa_cons (pe_tup (pa_cons pe_str (pa_cons (pe_tup (pa_cons pe_str (pa_cons pe_int pa_nil))) (pa_cons (pe_tup (pa_cons pe_str (pa_cons pe_int pa_nil))) pa_nil)))) pa_nil))))) pa_nil))))
  (pss_cons (ps_set (i := 3) sc__law_rows.nd rfl (Or.inl rfl) (pe_call G__law_choice (hr.mono (by decide)) rfl m__law_choice k__law_choice b__law_choice .nil pass0 (pa_cons (pv 0) (pa_cons (pe_lst (pa_cons pe_non (pa_cons (pe_tup (pa_cons (pe_tup (pa_cons pe_str (pa_cons (pv 2) pa_nil))) (pa_cons (pe_tup (pa_cons pe_str (pa_cons pe_non pa_nil))) pa_nil))) pa_nil))) pa_nil))))
  (pss_cons (ps_set (i := 4) sc__law_rows.nd rfl (Or.inl rfl) (pe_tup (pa_cons pe_str (pa_cons pe_int (pa_cons (pe_call G__law_choice (hr.mono (by decide)) rfl m__law_choice k__law_choice b__law_choice .nil pass0 (pa_cons (pv 0) (pa_cons (pe_lst (pa_cons pe_non (pa_cons (pe_tup pa_nil) (pa_cons (pe_tup (pa_cons pe_int pa_nil)) (pa_cons (pe_tup (pa_cons pe_int pa_nil)) pa_nil))))) pa_nil))) (pa_cons (pv 3) pa_nil))))))
  (pss_one (ps_ret (pe_tup (pa_cons (pv 1) (pa_cons (pv 4) (pa_cons (pe_tup (pa_cons pe_str (pa_cons pe_int (pa_cons (pe_call G__law_choice (hr.mono (by decide)) rfl m__law_choice k__law_choice b__law_choice .nil pass0 (pa_cons (pv 0) (pa_cons (pe_lst (pa_cons pe_non (pa_cons (pe_tup pa_nil) pa_nil))) pa_nil))) (pa_cons pe_non pa_nil))))) pa_nil)))))))))), ?_⟩
  refine ⟨_, rfl, z0, fun t1 h1 => ⟨z1, fun t2 h2 => ⟨z1, fun t3 h3 => ⟨z2, fun t4 h4 => ⟨z2, fun t5 h5 => ⟨z6, fun l hl => ?_⟩⟩⟩⟩⟩⟩
  have s1 := same_upd h1 (.tup (natV []))
  have s2 := same_upd h2 (.tup (natV [0]))
  have s3 := same_upd h3 (.tup (natV [1]))
  have s4 := same_upd h4 (.tup (natV [0, 1]))
  have s5 := same_upd h5 (.tup (natV [0, 1]))
  have s6 := same_upd hl (.lst [.non, .ref t1, .ref t2, .ref t3, .ref t4, .ref t5])
  have e5 := s5.trans s6
  have e4 := s4.trans e5
  have e3 := s3.trans e4
  have e2 := s2.trans e3
  have k1 := hh.mono (s1.trans e2)
  have L1 : All2 (AskH K _) aks2 [.non, .ref t1, .ref t2, .ref t3, .ref t4, .ref t5] := ⟨_, _, rfl, rfl, _, _, rfl, ⟨t1, rfl, tups_of e2 _ _ sq_new⟩, _, _, rfl, ⟨t2, rfl, tups_of e3 _ _ sq_new⟩, _, _, rfl, ⟨t3, rfl, tups_of e4 _ _ sq_new⟩, _, _, rfl, ⟨t4, rfl, tups_of e5 _ _ sq_new⟩, _, _, rfl, ⟨t5, rfl, tups_of s6 _ _ sq_new⟩, rfl⟩
  refine ⟨h, l, _, rfl, k1, (hh.mono (s1.trans (s2.trans (s3.trans (s4.trans s5))))).ne hl, SqL.of upd_same, (by show 0 < 6; decide), (by show 6 < 1000000; decide), fun H1 r x hx g1 => ?_⟩
  obtain ⟨a2, ha2, hx2⟩ := drawn (fun e x h => AskH.mono (g1.tups k1) h) L1 hx
  have G1 : Gw h H H1 := (Gw.of_same hh (s1.trans e2)).trans g1
  clear k1 L1 g1
  refine ⟨z4, fun p2 hp2 => ?_⟩
  have w2 := same_upd hp2 (.tup [.str "pair", .int 2, x, .non])
  have k2 := G1.2.mono w2
  have G2 := G1.trans (Gw.of_same G1.2 w2)
  have R2 : NRowH K _ ⟨"pair", 2, a2, none⟩ (.ref p2) := ⟨p2, x, .non, rfl, sq_new, hx2.mono (tups_of w2), rfl⟩
  clear s1 s2 s3 s4 s5 s6 e5 e4 e3 e2 hx2 G1 w2
  -- what is carried
  refine ⟨_, rfl, z2, fun t1 h1 => ⟨z2, fun t2 h2 => ⟨z1, fun t3 h3 => ⟨z3, fun t4 h4 => ⟨z2, fun t5 h5 => ⟨z2, fun t6 h6 => ⟨z3, fun t7 h7 => ⟨z4, fun l hl => ?_⟩⟩⟩⟩⟩⟩⟩⟩
  have s1 := same_upd h1 (.tup [.str "var", .int 0])
  have s2 := same_upd h2 (.tup [.str "var", .int 0])
  have s3 := same_upd h3 (.tup [.ref t2])
  have s4 := same_upd h4 (.tup [.str "made", .int 5, .ref t3])
  have s5 := same_upd h5 (.tup [.str "var", .int 0])
  have s6 := same_upd h6 (.tup [.str "var", .int 0])
  have s7 := same_upd h7 (.tup [.str "fn", .ref t5, .ref t6])
  have s8 := same_upd hl (.lst [.non, .ref t1, .ref t4, .ref t7])
  have e7 := s7.trans s8
  have e6 := s6.trans e7
  have e5 := s5.trans e6
  have e4 := s4.trans e5
  have e3 := s3.trans e4
  have e2 := s2.trans e3
  have e1 := s1.trans e2
  have k3 := k2.mono e1
  have L2 : All2 (CarH K _) cars [.non, .ref t1, .ref t4, .ref t7] := ⟨_, _, rfl, rfl, _, _, rfl, .var (tups_of e2 _ _ sq_new), _, _, rfl, .made (tups_of e5 _ _ sq_new) (tups_of e4 _ _ sq_new) (.cons (.var (tups_of e3 _ _ sq_new)) .nil),
    _, _, rfl, .fn (tups_of s8 _ _ sq_new) (.var (tups_of e6 _ _ sq_new)) (.var (tups_of e7 _ _ sq_new)), rfl⟩
  refine ⟨h, l, _, rfl, k3, (k2.mono (s1.trans (s2.trans (s3.trans (s4.trans (s5.trans (s6.trans s7))))))).ne hl, SqL.of upd_same, (by show 0 < 4; decide), (by show 4 < 1000000; decide), fun H3 r2 y hy g3 => ?_⟩
  obtain ⟨c, hc, hyC⟩ := drawn (fun e x h => CarH.mono (g3.tups k3) h) L2 hy
  have T3 := (g3.tups (K := K) k3)
  have R2 := (R2.mono (tups_of e1)).mono T3
  have G3 : Gw h H H3 := (G2.trans (Gw.of_same k2 e1)).trans g3
  clear k2 k3 L2 g3 T3 G2 s1 s2 s3 s4 s5 s6 s7 s8 e1 e2 e3 e4 e5 e6 e7
  -- what it is made of
  refine ⟨_, rfl, _, rfl, z2, fun t1 h1 => ⟨z2, fun t2 h2 => ⟨z2, fun t3 h3 => ⟨z2, fun l hl => ?_⟩⟩⟩⟩
  have s1 := same_upd h1 (.tup [.str "Box", y])
  have s2 := same_upd h2 (.tup [.str "No", .non])
  have s3 := same_upd h3 (.tup [.ref t1, .ref t2])
  have s4 := same_upd hl (.lst [.non, .ref t3])
  have e3 := s3.trans s4
  have e2 := s2.trans e3
  have e1 := s1.trans e2
  have k4 := G3.2.mono e1
  have L3 : All2 (ConH K _) [none, some c] [.non, .ref t3] := ⟨_, _, rfl, rfl, _, _, rfl, ⟨t3, t1, t2, y, rfl, tups_of s4 _ _ sq_new, tups_of e2 _ _ sq_new, tups_of e3 _ _ sq_new, hyC.mono (tups_of e1)⟩, rfl⟩
  refine ⟨h, l, _, rfl, k4, (G3.2.mono (s1.trans (s2.trans s3))).ne hl, SqL.of upd_same, (by show 0 < 2; decide), (by show 2 < 1000000; decide), fun H4 r3 b hb g4 => ?_⟩
  obtain ⟨con, hcon, hbC⟩ := drawn (fun e x h => ConH.mono (g4.tups k4) h) L3 hb
  have R2 := (R2.mono (tups_of e1)).mono (g4.tups (K := K) k4)
  have G4 : Gw h H H4 := (G3.trans (Gw.of_same G3.2 e1)).trans g4
  clear k4 L3 g4 G3 s1 s2 s3 s4 e1 e2 e3 hyC
  -- the second row
  refine ⟨_, rfl, z0, fun t1 h1 => ⟨z1, fun t2 h2 => ⟨z1, fun t3 h3 => ⟨z4, fun l hl => ?_⟩⟩⟩⟩
  have s1 := same_upd h1 (.tup (natV []))
  have s2 := same_upd h2 (.tup (natV [0]))
  have s3 := same_upd h3 (.tup (natV [0]))
  have s4 := same_upd hl (.lst [.non, .ref t1, .ref t2, .ref t3])
  have e3 := s3.trans s4
  have e2 := s2.trans e3
  have e1 := s1.trans e2
  have k5 := G4.2.mono e1
  have L4 : All2 (AskH K _) aks1 [.non, .ref t1, .ref t2, .ref t3] := ⟨_, _, rfl, rfl, _, _, rfl, ⟨t1, rfl, tups_of e2 _ _ sq_new⟩, _, _, rfl, ⟨t2, rfl, tups_of e3 _ _ sq_new⟩, _, _, rfl, ⟨t3, rfl, tups_of s4 _ _ sq_new⟩, rfl⟩
  refine ⟨h, l, _, rfl, k5, (G4.2.mono (s1.trans (s2.trans s3))).ne hl, SqL.of upd_same, (by show 0 < 4; decide), (by show 4 < 1000000; decide), fun H5 r4 z hz g5 => ?_⟩
  obtain ⟨a1, ha1, hzA⟩ := drawn (fun e x h => AskH.mono (g5.tups k5) h) L4 hz
  have R2 := (R2.mono (tups_of e1)).mono (g5.tups (K := K) k5)
  have hbC := (hbC.mono (tups_of e1)).mono (g5.tups (K := K) k5)
  have G5 : Gw h H H5 := (G4.trans (Gw.of_same G4.2 e1)).trans g5
  clear k5 L4 g5 G4 s1 s2 s3 s4 e1 e2 e3
  refine ⟨_, rfl, z4, fun p1 hp1 => ?_⟩
  have w1 := same_upd hp1 (.tup [.str "box", .int 1, z, b])
  have R1 : NRowH K _ ⟨"box", 1, a1, con⟩ (.ref p1) := ⟨p1, z, b, rfl, sq_new, hzA.mono (tups_of w1), hbC.mono (tups_of w1)⟩
  have R2 := R2.mono (tups_of w1)
  have k6 := G5.2.mono w1
  have G6 := G5.trans (Gw.of_same G5.2 w1)
  clear G5 w1 hzA hbC
  -- the third row
  refine ⟨_, rfl, _, rfl, _, rfl, z0, fun t1 h1 => ⟨z2, fun l hl => ?_⟩⟩
  have s1 := same_upd h1 (.tup (natV []))
  have s4 := same_upd hl (.lst [.non, .ref t1])
  have e1 := s1.trans s4
  have k7 := k6.mono e1
  have L5 : All2 (AskH K _) aks0 [.non, .ref t1] := ⟨_, _, rfl, rfl, _, _, rfl, ⟨t1, rfl, tups_of s4 _ _ sq_new⟩, rfl⟩
  refine ⟨h, l, _, rfl, k7, (k6.mono s1).ne hl, SqL.of upd_same, (by show 0 < 2; decide), (by show 2 < 1000000; decide), fun H6 r5 v hv g6 => ?_⟩
  obtain ⟨a0, ha0, hvA⟩ := drawn (fun e x h => AskH.mono (g6.tups k7) h) L5 hv
  have R2 := (R2.mono (tups_of e1)).mono (g6.tups (K := K) k7)
  have R1 := (R1.mono (tups_of e1)).mono (g6.tups (K := K) k7)
  have G7 : Gw h H H6 := (G6.trans (Gw.of_same k6 e1)).trans g6
  refine ⟨z4, fun p0 hp0 => ⟨z3, fun p hp => ?_⟩⟩
  have w1 := same_upd hp0 (.tup [.str "far", .int 0, v, .non])
  have w2 := same_upd hp (.tup [.ref p2, .ref p1, .ref p0])
  have w3 := w1.trans w2
  refine q _ p _ _ (G7.trans (Gw.of_same G7.2 w3)) ⟨a2, a1, a0, con, rfl, ha2, ha1, ha0, fun T e => ?_⟩ sq_new ⟨_, _, rfl, R2.mono (tups_of w3), _, _, rfl, R1.mono (tups_of w3), _, _, rfl, ⟨p0, v, .non, rfl, tups_of w2 _ _ sq_new, hvA.mono (tups_of w3), rfl⟩, rfl⟩
  rw [e] at hcon
  have hcon := List.mem_cons.mp hcon
  rcases hcon with hcon | hcon
  · cases hcon
  · have hcon := List.mem_singleton.mp hcon
    injection hcon with hcon
    rw [hcon]
    exact hc
end
end Lq
namespace Lq
open PySem L2
def TRowH (K : PySem.W.Frag) (H : Hp) (row : Row) (v : V) : Prop := ∃ (p : Addr) (z av : V), v = .ref p ∧ SqT K H p [z, .int (row.n : Int), av] ∧ AskH K H row.ask av ∧ z = .str row.z
theorem TRowH.mono {K : PySem.W.Frag} {H H' : Hp} (e : Tups K H H') (row : Row) (v : V) (h : TRowH K H row v) : TRowH K H' row v := by
  obtain ⟨p, z, av, h1, h2, h3⟩ := h
  exact ⟨p, z, av, h1, e _ _ h2, h3.1.mono e, h3.2⟩
def tkv : Nat → List V → List (Key × V)
  | _, [] => []
  | n, v :: r => (Sum.inl (n : Int), v) :: tkv (n + 1) r
theorem tkv_ne : ∀ (n : Nat) (vs : List V) (m : Nat), (m < n ∨ n + vs.length ≤ m) → (tkv n vs).any (fun kv => decide (kv.1 = (Sum.inl (m : Int) : Key))) = false
  | n, [], m, _ => rfl
  | n, v :: r, m, h => by
    have h1 : ¬ ((Sum.inl (n : Int) : Key) = Sum.inl (m : Int)) := by
      intro e
      injection e with e
      rw [List.length_cons] at h
      omega
    show (decide ((Sum.inl (n : Int) : Key) = Sum.inl (m : Int)) || (tkv (n + 1) r).any _) = false
    rw [decide_eq_false h1, Bool.false_or]
    exact tkv_ne (n + 1) r m (by rw [List.length_cons] at h; omega)
theorem tkv_app : ∀ (n : Nat) (vs : List V) (v : V), tkv n (vs ++ [v]) = tkv n vs ++ [(Sum.inl ((n + vs.length : Nat) : Int), v)]
  | n, [], v => rfl
  | n, x :: r, v => by
    show (Sum.inl (n : Int), x) :: tkv (n + 1) (r ++ [v]) = _
    rw [tkv_app (n + 1) r v, List.length_cons, show n + 1 + r.length = n + (r.length + 1) by omega]
    rfl
theorem tkv_put (n : Nat) (vs : List V) (v : V) : putK (tkv n vs) (Sum.inl ((n + vs.length : Nat) : Int)) v = tkv n (vs ++ [v]) := by
  unfold putK
  rw [tkv_ne n vs _ (.inr (Nat.le_refl _)), if_neg Bool.false_ne_true, tkv_app]
theorem tkv_get : ∀ (n : Nat) (vs : List V) (i : Nat), valV (tkv n vs) (Sum.inl ((n + i : Nat) : Int)) = vs[i]?
  | n, [], i => rfl
  | n, v :: r, 0 => by
    unfold valV
    show (List.find? _ ((Sum.inl (n : Int), v) :: tkv (n + 1) r)).map _ = _
    rw [List.find?_cons_of_pos (by simp)]
    rfl
  | n, v :: r, i + 1 => by
    have h1 : ¬ ((Sum.inl (n : Int) : Key) = Sum.inl ((n + (i + 1) : Nat) : Int)) := by
      intro e
      injection e with e
      omega
    have := tkv_get (n + 1) r i
    rw [show n + 1 + i = n + (i + 1) by omega] at this
    rw [List.getElem?_cons_succ, ← this]
    unfold valV
    show (List.find? _ ((Sum.inl (n : Int), v) :: tkv (n + 1) r)).map _ = _
    rw [List.find?_cons_of_neg]
    simpa using h1
theorem tkv_len : ∀ (n : Nat) (vs : List V), (tkv n vs).length = vs.length
  | _, [] => rfl
  | n, v :: r => by
    show (tkv (n + 1) r).length + 1 = _
    rw [tkv_len, List.length_cons]
/-- the law's own table of stamps -/
def TabH (K : PySem.W.Frag) (H : Hp) (d : Addr) (rows : List Row) : Prop := ∃ vs, H d = some (.dK (tkv 1 vs)) ∧ All2 (TRowH K H) rows vs
theorem TabH.get {K : PySem.W.Frag} {H : Hp} {d : Addr} {rows : List Row} (h : TabH K H d rows) {s : Nat} {row : Row} (h0 : 0 < s) (e : rows[s - 1]? = some row) : ∃ v, DGet H d (.int (s : Int)) (some v) ∧ TRowH K H row v := by
  obtain ⟨vs, hd, ha⟩ := h
  obtain ⟨v, hv, hR⟩ := ha.get e
  have g := DGet.k (k := Sum.inl (s : Int)) hd
  have := tkv_get 1 vs (s - 1)
  rw [show 1 + (s - 1) = s by omega, hv] at this
  rw [this] at g
  exact ⟨v, g, hR⟩
theorem TabH.mono {K : PySem.W.Frag} {H H' : Hp} {d : Addr} (s : Same H H') {rows : List Row} (h : TabH K H d rows) : TabH K H' d rows := by
  obtain ⟨vs, hd, ha⟩ := h
  exact ⟨vs, s _ _ hd, ha.mono (TRowH.mono (tups_of s))⟩
theorem TabH.gw {K : PySem.W.Frag} {H H' : Hp} {d h : Addr} (k : HatOk H h) (g : Gw h H H') {rows : List Row} (t : TabH K H d rows) : TabH K H' d rows := by
  have tt := g.tups (K := K) k
  obtain ⟨vs, hd, ha⟩ := t
  obtain ⟨i, j, l, e⟩ := k
  exact ⟨vs, g.1 _ _ (ne_of hd e (by intro z; cases z)) hd, ha.mono (TRowH.mono tt)⟩
theorem tups_dK {K : PySem.W.Frag} {H : Hp} {t : Addr} {kvs : List (Key × V)} (h : H t = some (.dK kvs)) (o : HO) : Tups K H (upd H t o) := by
  intro a ys q
  rcases q with (q | ⟨u, q⟩) | q
  · exact .inl (.inl (by rw [upd_ne (ne_of q h (by intro z; cases z))]; exact q))
  · exact .inl (.inr ⟨u, by rw [upd_ne (ne_of q h (by intro z; cases z))]; exact q⟩)
  · exact .inr q
section
variable {P : Program} {w : World} {K : PySem.W.Frag} {mg : Str → Option Value} {base : Heap} {C : Addr}
theorem merge5 (a b c d e : V) : mergeK [] (tkv 1 [a, b, c, d, e]) = tkv 1 [a, b, c, d, e] := rfl
abbrev s__law_table : Stmt := top 63
theorem sc__law_table : FnScope ["_law_rows_here", "_law_found", "_law_at", "_law_row"] ["_law_rows_here"] (defScope s__law_table) := ⟨rfl, rfl, rfl, by decide +kernel, rfl, by decide +kernel, by decide +kernel⟩
def spTable (K : PySem.W.Frag) : Sp := fun vs H Q _ => ∃ (p : Addr) (nrs : List NRow) (ws : List V), vs = [.ref p] ∧ SqT K H p ws ∧ All2 (NRowH K H) nrs ws ∧ nrs.length ≤ 100 ∧ ∀ (H' : Hp) (d : Addr), Same H H' → TabH K H' d (firstRows ++ nrs.map NRow.row) → Q (.ref d) H'
theorem ok_table (A : At K mg "_law_table" s__law_table ["_law_rows_here"]) (B : Bi mg) : Has P w K mg base "_law_table" ["_law_rows_here"] 1 (spTable K) := by
  refine .mk A fun f fd F => ?_
  refine F.ok sc__law_table (fun vs H Q E h => ?_) (fun cdv A outer s H vs Q E hr h => ?_)
  · obtain ⟨p, nrs, ws, rfl, _⟩ := h
    rfl
  obtain ⟨p, nrs, ws, rfl, hp, ha, hl, q⟩ := h
  refine ⟨_, (pss_cons (ps_set (i := 1) sc__law_table.nd rfl (Or.inl rfl) (pe_disp (pps_cons pe_int (pe_tup (pa_cons pe_str (pa_cons pe_int (pa_cons (pe_tup pa_nil) pa_nil)))) (pps_cons pe_int (pe_tup (pa_cons pe_str (pa_cons pe_int (pa_cons (pe_tup pa_nil) pa_nil)))) (pps_cons pe_int (pe_tup (pa_cons pe_str (pa_cons pe_int (pa_cons (pe_tup pa_nil) pa_nil)))) (pps_cons pe_int (pe_tup (pa_cons pe_str (pa_cons pe_int (pa_cons pe_non pa_nil)))) (pps_cons pe_int (pe_tup (pa_cons pe_str (pa_cons pe_int (pa_cons (pe_tup (pa_cons pe_int pa_nil)) pa_nil)))) pps_nil))))) rfl rfl (fun z => nomatch z) (by decide)))
  (pss_cons (ps_dput (hu_of hr) (pv 1) pe_int (pe_tup (pa_cons pe_str (pa_cons pe_int (pa_cons (pe_tup pa_nil) pa_nil)))) rfl)
  (pss_cons (ps_for PassesOwn.never rfl (pi_enumT (by rfl) B.enumerate (pa_cons (pv 0) pa_nil)) (pg_tup rfl (pgs_cons (pg_name (i := 2) sc__law_table.nd rfl (Or.inl rfl)) (pgs_cons (pg_name (i := 3) sc__law_table.nd rfl (Or.inl rfl)) pgs_nil))) (pss_one (ps_dput (hu_of hr) (pv 1) (pe_op op_add pe_int (pv 2)) (pe_slice sl_tup (pv 3) po_none (po_some pe_int)) rfl)))
  (pss_one (ps_ret (pv 1)))))), ?_⟩
  have hl2 := ha.len
  refine fun d hd => ⟨z0, fun a1 ha1 => ⟨z3, fun t1 ht1 => ⟨z0, fun a2 ha2 => ⟨z3, fun t2 ht2 => ⟨z0, fun a3 ha3 => ⟨z3, fun t3 ht3 => ⟨z3, fun t4 ht4 => ⟨z1, fun a5 ha5 => ⟨z3, fun t5 ht5 => ?_⟩⟩⟩⟩⟩⟩⟩⟩⟩
  have g0 := same_upd hd (.dK [])
  have u1 := same_upd ha1 (.tup (natV []))
  have v1 := same_upd ht1 (.tup [.str "int", .int 0, .ref a1])
  have u2 := same_upd ha2 (.tup (natV []))
  have v2 := same_upd ht2 (.tup [.str "string", .int 0, .ref a2])
  have u3 := same_upd ha3 (.tup (natV []))
  have v3 := same_upd ht3 (.tup [.str "bool", .int 0, .ref a3])
  have v4 := same_upd ht4 (.tup [.str "exn", .int 0, .non])
  have u5 := same_upd ha5 (.tup (natV [0]))
  have v5 := same_upd ht5 (.tup [.str "list", .int 1, .ref a5])
  have e9 := u5.trans v5
  have e8 := v4.trans e9
  have e7 := v3.trans e8
  have e6 := u3.trans e7
  have e5 := v2.trans e6
  have e4 := u2.trans e5
  have e3 := v1.trans e4
  have e2 := u1.trans e3
  have hd1 := e2 d (.dK []) upd_same
  have T5 : All2 (TRowH K _) [⟨0, some [], "int"⟩, ⟨0, some [], "string"⟩, ⟨0, some [], "bool"⟩, ⟨0, none, "exn"⟩, ⟨1, some [0], "list"⟩] [.ref t1, .ref t2, .ref t3, .ref t4, .ref t5] :=
    ⟨_, _, rfl, ⟨t1, _, _, rfl, tups_of e4 _ _ sq_new, ⟨a1, rfl, tups_of e3 _ _ sq_new⟩, rfl⟩, _, _, rfl, ⟨t2, _, _, rfl, tups_of e6 _ _ sq_new, ⟨a2, rfl, tups_of e5 _ _ sq_new⟩, rfl⟩, _, _, rfl, ⟨t3, _, _, rfl, tups_of e8 _ _ sq_new, ⟨a3, rfl, tups_of e7 _ _ sq_new⟩, rfl⟩,
      _, _, rfl, ⟨t4, _, _, rfl, tups_of e9 _ _ sq_new, rfl, rfl⟩, _, _, rfl, ⟨t5, _, _, rfl, sq_new, ⟨a5, rfl, tups_of v5 _ _ sq_new⟩, rfl⟩, rfl⟩
  have gH := g0.trans e2
  refine ⟨hd1, tkv 1 [.ref t1, .ref t2, .ref t3, .ref t4, .ref t5], rfl, by show 5 ≤ 15; decide, ?_⟩
  rw [merge5]
  have T5 := T5.mono (TRowH.mono (tups_dK hd1 (.dK (tkv 1 [.ref t1, .ref t2, .ref t3, .ref t4, .ref t5]))))
  have gH := same_set gH hd (.dK (tkv 1 [.ref t1, .ref t2, .ref t3, .ref t4, .ref t5]))
  refine ⟨z0, fun a6 ha6 => ⟨z3, fun t6 ht6 => ⟨_, rfl, ?_⟩⟩⟩
  have u6 := same_upd ha6 (.tup (natV []))
  have v6 := same_upd ht6 (.tup [.str "ref", .int 1, .ref a6])
  have e6' := u6.trans v6
  have hd3 := e6' d (.dK (tkv 1 [.ref t1, .ref t2, .ref t3, .ref t4, .ref t5])) upd_same
  refine ⟨d, _, rfl, DPut.k (k := Sum.inl 6) hd3 (by show 5 < sizeLine; decide), ?_⟩
  have T6 : All2 (TRowH K _) firstRows [.ref t1, .ref t2, .ref t3, .ref t4, .ref t5, .ref t6] := (T5.mono (TRowH.mono (tups_of e6'))).app ⟨_, _, rfl, ⟨t6, _, _, rfl, sq_new, ⟨a6, rfl, tups_of v6 _ _ sq_new⟩, rfl⟩, rfl⟩
  have T6 := T6.mono (TRowH.mono (tups_dK hd3 (.dK (putK (tkv 1 [.ref t1, .ref t2, .ref t3, .ref t4, .ref t5]) (Sum.inl 6) (.ref t6)))))
  have gH := same_set (gH.trans e6') hd (.dK (putK (tkv 1 [.ref t1, .ref t2, .ref t3, .ref t4, .ref t5]) (Sum.inl 6) (.ref t6)))
  refine ⟨_, rfl, p, ws, rfl, tups_of gH _ _ hp, for_enumT (K := K) (fun i σ H3 => ∃ s2 s3 vs3, σ = [some (.ref p), some (.ref d), s2, s3] ∧ Same H H3 ∧ H3 d = some (.dK (tkv 1 vs3)) ∧ All2 (TRowH K H3) (firstRows ++ (nrs.take i).map NRow.row) vs3)
    ⟨_, _, _, rfl, gH, upd_same, by rw [List.take_zero, List.map_nil, List.append_nil]; exact T6⟩ (fun i σ H3 z => ?_) ?_ ?_⟩
  · obtain ⟨_, _, _, _, g3, _⟩ := z
    exact tups_of g3 _ _ hp
  · rintro i x T σ H3 hx ⟨s2, s3, vs3, rfl, g3, hd4, ha3⟩ hT
    obtain ⟨nr, hnr, hxR⟩ := ha.mem hx
    have w := same_upd hT (.tup [.int (i : Nat), x])
    obtain ⟨pr, av, cv, rfl, hpr, hav, _⟩ := hxR
    have hpr := tups_of (g3.trans w) _ _ hpr
    have hav := hav.mono (tups_of (g3.trans w))
    refine ⟨T, _, rfl, sq_new, rfl, _, _, rfl, _, _, rfl, rfl, ?_⟩
    have hil := lt_of_get hnr
    have hl3 := ha3.len
    rw [List.length_append, List.length_map, List.length_take, Nat.min_eq_left (Nat.le_of_lt hil), show firstRows.length = 6 from rfl] at hl3
    have hd5 := w _ _ hd4
    refine ⟨_, rfl, _, rfl, pr, _, rfl, hpr, (show ¬ (HT.sIx 4 0 none = 0 ∧ HT.sIx 4 4 (some 3) = 4) by decide), fun np hnp => ?_⟩
    have w2 := same_upd hnp (.tup [.str nr.z, .int (nr.n : Int), av])
    have hd6 := w2 _ _ hd5
    refine ⟨_, rfl, _, rfl, _, _, rfl, rfl, d, _, rfl, DPut.k (k := Sum.inl (7 + (i : Int))) hd6 (by rw [tkv_len]; exact small1000 (by omega)), ?_⟩
    have ek : (Sum.inl (7 + (i : Int)) : Key) = Sum.inl ((1 + vs3.length : Nat) : Int) := by
      rw [hl3]
      exact congrArg Sum.inl (by omega)
    rw [ek, tkv_put]
    have w3 := w.trans w2
    have nw : All2 (TRowH K _) [nr.row] [.ref np] := All2.one ⟨np, _, av, rfl, sq_new, hav.mono (tups_of w2), rfl⟩
    have ha4 := (((ha3.mono (TRowH.mono (tups_of w3))).app nw).mono (TRowH.mono (tups_dK hd6 (.dK (tkv 1 (vs3 ++ [.ref np]))))))
    refine ⟨_, _, _, rfl, same_set (g3.trans w3) hd _, upd_same, ?_⟩
    rw [take_snoc hnr, List.map_append, ← List.append_assoc]
    exact ha4
  · rintro σ H3 ⟨s2, s3, vs3, rfl, g3, hd4, ha3⟩
    rw [hl2, List.take_length] at ha3
    exact ⟨_, rfl, q H3 d g3 ⟨vs3, hd4, ha3⟩⟩
end
end Lq
namespace Lq
open PySem L2
def ar9 : List Nat := [0, 0, 0, 0, 1, 1, 2, 1, 0]
def bd : Nat → Nat
  | 0 => 1
  | d + 1 => 1 + 3 * bd d
theorem bd_pos : ∀ d, 1 ≤ bd d
  | 0 => Nat.le_refl _
  | d + 1 => Nat.le_add_right _ _
theorem mem_pres_inv {t : Ty} : ∀ {ts : List Ty}, t ∈ Ty.pres ts → ∃ u ∈ ts, t ∈ u.pre
  | [], h => by
    rw [pres_nil] at h
    cases h
  | x :: r, h => by
    rw [pres_cons] at h
    rcases List.mem_append.mp h with h | h
    · exact ⟨x, List.mem_cons_self, h⟩
    · obtain ⟨u, h1, h2⟩ := mem_pres_inv h
      exact ⟨u, List.mem_cons_of_mem _ h1, h2⟩
theorem Ty.Ok.node {ar : List Nat} {l : Lab} {ts : List Ty} (h : LocOk ar l ts.length) (hs : ∀ t ∈ ts, t.Ok ar) : (Ty.node l ts).Ok ar := fun t ht => by
  rw [pre_eq] at ht
  rcases List.mem_cons.mp ht with e | ht
  · rw [e]
    exact h
  · obtain ⟨u, h1, h2⟩ := mem_pres_inv ht
    exact hs u h1 t h2
theorem vars_node {l : Lab} {ts : List Ty} {n : Nat} (h : n ∈ (Ty.node l ts).vars) : l.num = some n ∨ ∃ t ∈ ts, n ∈ t.vars := by
  obtain ⟨t, ht, hn⟩ := List.mem_filterMap.mp h
  rw [pre_eq] at ht
  rcases List.mem_cons.mp ht with e | ht
  · rw [e] at hn
    exact .inl hn
  · obtain ⟨u, h1, h2⟩ := mem_pres_inv ht
    exact .inr ⟨u, h1, List.mem_filterMap.mpr ⟨t, h2, hn⟩⟩
mutual
def Ty.dep : Ty → Nat
  | .node _ ts => Ty.deps ts + 1
def Ty.deps : List Ty → Nat
  | [] => 0
  | t :: r => max (Ty.dep t) (Ty.deps r)
end
theorem deps_le {k : Nat} : ∀ {ts : List Ty}, (∀ t ∈ ts, t.dep ≤ k) → Ty.deps ts ≤ k
  | [], _ => by rw [Ty.deps]; exact Nat.zero_le _
  | t :: r, h => by
    rw [Ty.deps]
    exact Nat.max_le.mpr ⟨h t List.mem_cons_self, deps_le fun u hu => h u (List.mem_cons_of_mem _ hu)⟩
theorem deps_at : ∀ (ts : List Ty), ts = [] ∨ ∃ t ∈ ts, Ty.deps ts = t.dep
  | [] => .inl rfl
  | t :: r => by
    refine .inr ?_
    rw [Ty.deps]
    rcases Nat.le_total t.dep (Ty.deps r) with h | h
    · rw [Nat.max_eq_right h]
      rcases deps_at r with rfl | ⟨u, hu, e⟩
      · refine ⟨t, List.mem_cons_self, ?_⟩
        rw [Ty.deps] at h ⊢
        omega
      · exact ⟨u, List.mem_cons_of_mem _ hu, e⟩
    · rw [Nat.max_eq_left h]
      exact ⟨t, List.mem_cons_self, rfl⟩
/-- a drawn type -/
structure TyB (c b : Nat) (T : Ty) : Prop where
  ok : T.Ok ar9
  vr : ∀ n, n ∈ T.vars → n < c
  sz : T.sz ≤ b
  dp : 3 ^ T.dep ≤ 2 * b + 1
theorem szs_le {b : Nat} : ∀ {ts : List Ty}, (∀ t ∈ ts, t.sz ≤ b) → Ty.szs ts ≤ ts.length * b
  | [], _ => by rw [szs_nil]; exact Nat.zero_le _
  | t :: r, h => by
    have h1 := h t List.mem_cons_self
    have h2 := szs_le (ts := r) fun u hu => h u (List.mem_cons_of_mem _ hu)
    rw [szs_cons, List.length_cons, Nat.succ_mul]
    omega
theorem TyB.node {c b : Nat} {l : Lab} {ts : List Ty} (h : LocOk ar9 l ts.length) (hl : l.num = none) (hs : ∀ t ∈ ts, TyB c b t) (h3 : ts.length ≤ 3) : TyB c (1 + 3 * b) (.node l ts) := by
  refine ⟨.node h fun t ht => (hs t ht).ok, fun n hn => ?_, ?_, ?_⟩
  · rcases vars_node hn with e | ⟨t, h1, h2⟩
    · rw [hl] at e
      cases e
    · exact (hs t h1).vr n h2
  · have := szs_le fun t ht => (hs t ht).sz
    have h4 : ts.length * b ≤ 3 * b := Nat.mul_le_mul_right b h3
    rw [Ty.sz]
    omega
  · rw [Ty.dep, Nat.pow_succ]
    rcases deps_at ts with rfl | ⟨t, ht, e⟩
    · rw [Ty.deps]
      omega
    · have := (hs t ht).dp
      rw [e]
      omega
theorem TyB.leaf {c b : Nat} {l : Lab} (h : LocOk ar9 l 0) (hl : ∀ n, l.num = some n → n < c) (hb : 1 ≤ b) : TyB c b (.node l []) := by
  refine ⟨Ty.Ok.node h fun t ht => (nomatch ht), fun n hn => ?_, ?_, ?_⟩
  · rcases vars_node hn with e | ⟨t, h1, _⟩
    · exact hl n e
    · cases h1
  · rw [Ty.sz, szs_nil]
    exact hb
  · rw [Ty.dep, Ty.deps]
    omega
theorem TyB.up {c b b' : Nat} {T : Ty} (h : TyB c b T) (e : b ≤ b') : TyB c b' T := ⟨h.ok, h.vr, Nat.le_trans h.sz e, Nat.le_trans h.dp (by omega)⟩
theorem tOr_both {ta tb : TT} {σ : St} {H : Hp} {Q : Bool → Hp → Prop} {a b : Bool} (ha : ∀ R : Bool → Hp → Prop, R a H → ta σ H R) (hb : ∀ R : Bool → Hp → Prop, R b H → tb σ H R) (h : Q (a || b) H) : tOr ta tb σ H Q := by
  refine ha _ ?_
  cases a with
  | true => exact (if_pos rfl).mpr h
  | false => exact (if_neg Bool.false_ne_true).mpr (hb _ h)
def stampsP : List Nat := [1, 1, 2, 3, 4, 9]
def plainT : List Ty := stampsP.map fun s => tmd s []
theorem plain_b {c b : Nat} (hb : 1 ≤ b) {t : Ty} (h : t ∈ plainT) : TyB c b t := by
  obtain ⟨s, hs, rfl⟩ := List.mem_map.mp h
  refine .leaf ?_ (fun n e => nomatch e) hb
  simp only [stampsP, List.mem_cons, List.not_mem_nil, or_false] at hs
  rcases hs with rfl | rfl | rfl | rfl | rfl | rfl <;> exact ⟨by decide, by decide, rfl⟩
section
variable {P : Program} {w : World} {K : PySem.W.Frag} {mg : Str → Option Value} {base : Heap} {C : Addr}
abbrev s__law_type : Stmt := top 64
theorem sc__law_type : FnScope ["_law_hat_here", "_law_count", "_law_deep", "_law_way", "_law_plain", "_law_stamp", "_law_some", "_law_turn"] ["_law_hat_here", "_law_count", "_law_deep"] (defScope s__law_type) := ⟨rfl, rfl, rfl, by decide +kernel, rfl, by decide +kernel, by decide +kernel⟩
/-- n calls are allowed -/
def spType (K : PySem.W.Frag) (n : Nat) : Sp := fun vs H Q _ => ∃ (h : Addr) (c d : Nat), vs = [.ref h, .int (c : Int), .int (d : Int)] ∧ HatOk H h ∧ 0 < c ∧ c ≤ 3 ∧ d + 1 = n ∧ ∀ (H' : Hp) (T : Ty) (v : V), Gw h H H' → TyH K H' T v → TyB c (bd d) T → Q v H'
theorem no_calls {f : Addr} {fd : FuncData} : FnOk P w K mg base CX0 2 f fd ["_law_hat_here", "_law_count", "_law_deep"] (spType K 0) := by
  have no : ∀ vs H Q E, ¬ spType K 0 vs H Q E := fun vs H Q E h => by
    obtain ⟨h, c, d, _, _, _, _, h1, _⟩ := h
    omega
  exact ⟨fun vs H Q E h => absurd h (no vs H Q E), fun A outer s H args us vs Q E _ _ _ _ h => absurd h (no vs H Q E)⟩
theorem type_step {n : Nat} {f__law_type : Addr} {fd__law_type : FuncData} (F : Fun K "_law_type" "_law_type" s__law_type f__law_type fd__law_type) (b__law_type : Binds K fd__law_type ["_law_hat_here", "_law_count", "_law_deep"] []) (m__law_type : mg "_law_type" = some (.ref f__law_type)) (B : Bi mg)
    (D__law_lift : Has P w K mg base "_law_lift" ["_law_hat_here", "_law_total"] 1 spLift) (D__law_choice : Has P w K mg base "_law_choice" ["_law_hat_here", "_law_items"] 2 (spChoice K)) (G__law_type : FnOk P w K mg base CX0 (n + 2) f__law_type fd__law_type ["_law_hat_here", "_law_count", "_law_deep"] (spType K n)) :
    FnOk P w K mg base CX0 (n + 3) f__law_type fd__law_type ["_law_hat_here", "_law_count", "_law_deep"] (spType K (n + 1)) := by
  have k__law_type := F.kp
  refine F.ok sc__law_type (fun vs H Q E h => ?_) (fun cdv A outer s H vs Q E hr h => ?_)
  · obtain ⟨h, c, d, rfl, _⟩ := h
    rfl
  obtain ⟨h, c, d, rfl, hh, c0, c3, hdn, q⟩ := h
  obtain ⟨f__law_lift, fd__law_lift, G__law_lift, b__law_lift, k__law_lift, m__law_lift⟩ := D__law_lift
  obtain ⟨f__law_choice, fd__law_choice, G__law_choice, b__law_choice, k__law_choice, m__law_choice⟩ := D__law_choice
  refine ⟨_, (pss_cons (ps_set (i := 3) sc__law_type.nd rfl (Or.inl rfl) (pe_call G__law_lift (hr.mono (by omega)) rfl m__law_lift k__law_lift b__law_lift .nil pass0 (pa_cons (pv 0) (pa_cons pe_int pa_nil))))
  (pss_cons (ps_if (PW.pt (pw_or (pt_cmpR op_eq (pv 2) pe_int (nomark _)) (pw_or1 (pt_cmpR op_lt (pv 3) pe_int (nomark _))))) (pss_cons (ps_set (i := 4) sc__law_type.nd rfl (Or.inl rfl) (pe_op op_cat (pe_lc (own := [("_law_stamp", 5)]) (g := gName 5) (tt := tYes) (by rfl) sc__law_type.nd (pi_tup (pe_tup (pa_cons pe_int (pa_cons pe_int (pa_cons pe_int (pa_cons pe_int (pa_cons pe_int (pa_cons pe_int pa_nil)))))))) (blkOk_by (N := ["_law_hat_here", "_law_count", "_law_deep", "_law_way", "_law_plain", "_law_stamp", "_law_some", "_law_turn"]) (sc := defScope s__law_type) (by decide +kernel)) (fun _ _ _ _ _ => (pg_name (i := 5) sc__law_type.nd rfl (Or.inl rfl))) (fun _ _ _ _ _ => pts_nil) (fun _ _ _ _ _ => (pe_tup (pa_cons pe_str (pa_cons (pv 5) (pa_cons (pe_tup pa_nil) pa_nil)))))) (pe_lst (pa_cons (pe_tup (pa_cons pe_str (pa_cons (pe_tup pa_nil) pa_nil))) pa_nil))))
  (pss_cons (ps_set (i := 6) sc__law_type.nd rfl (Or.inl rfl) (pe_ifExp (pt_cmpR op_gt (pv 1) pe_int (nomark _)) (pe_op op_rep (pe_lst (pa_cons (pe_tup (pa_cons pe_str (pa_cons (pe_call G__law_lift (hr.mono (by omega)) rfl m__law_lift k__law_lift b__law_lift .nil pass0 (pa_cons (pv 0) (pa_cons (pv 1) pa_nil))) pa_nil))) pa_nil)) pe_int) (pe_lst pa_nil)))
  (pss_one (ps_ret (pe_call G__law_choice (hr.mono (by omega)) rfl m__law_choice k__law_choice b__law_choice .nil pass0 (pa_cons (pv 0) (pa_cons (pe_op op_cat (pv 4) (pv 6)) pa_nil))))))) pss_nil)
  (pss_cons (ps_if (pt_cmpR op_lt (pv 3) pe_int (nomark _)) (pss_one (ps_ret (pe_tup (pa_cons pe_str (pa_cons (pe_call G__law_type (hr.mono (by omega)) rfl m__law_type k__law_type b__law_type .nil pass0 (pa_cons (pv 0) (pa_cons (pv 1) (pa_cons (pe_op op_sub (pv 2) pe_int) pa_nil)))) (pa_cons (pe_call G__law_type (hr.mono (by omega)) rfl m__law_type k__law_type b__law_type .nil pass0 (pa_cons (pv 0) (pa_cons (pv 1) (pa_cons (pe_op op_sub (pv 2) pe_int) pa_nil)))) pa_nil)))))) pss_nil)
  (pss_cons (ps_if (pt_cmpR op_eq (pv 3) pe_int (nomark _)) (pss_one (ps_ret (pe_tup (pa_cons pe_str (pa_cons (pe_callTy call_tuple_of (by rfl) B.tuple (by decide +kernel) (pa_cons (pe_lc (own := [("_law_turn", 7)]) (g := gName 7) (tt := tYes) (by rfl) sc__law_type.nd (pi_range1 (by rfl) B.range (pa_cons (pe_op op_add pe_int (pe_callTy call_int1 (by rfl) B.int (by decide +kernel) (pa_cons (pe_cmpR op_eq (pe_call G__law_lift (hr.mono (by omega)) rfl m__law_lift k__law_lift b__law_lift .nil pass0 (pa_cons (pv 0) (pa_cons pe_int pa_nil))) pe_int (nomark _)) pa_nil))) pa_nil)) (blkOk_by (N := ["_law_hat_here", "_law_count", "_law_deep", "_law_way", "_law_plain", "_law_stamp", "_law_some", "_law_turn"]) (sc := defScope s__law_type) (by decide +kernel)) (fun _ _ _ _ _ => (pg_name (i := 7) sc__law_type.nd rfl (Or.inl rfl))) (fun _ _ _ _ _ => pts_nil) (fun _ _ _ _ _ => (pe_call G__law_type (hr.mono (by omega)) rfl m__law_type k__law_type b__law_type .nil pass0 (pa_cons (pv 0) (pa_cons (pv 1) (pa_cons (pe_op op_sub (pv 2) pe_int) pa_nil)))))) pa_nil)) pa_nil))))) pss_nil)
  (pss_cons (ps_if (pt_cmpR op_eq (pv 3) pe_int (nomark _)) (pss_one (ps_ret (pe_tup (pa_cons pe_str (pa_cons pe_int (pa_cons (pe_tup (pa_cons (pe_call G__law_type (hr.mono (by omega)) rfl m__law_type k__law_type b__law_type .nil pass0 (pa_cons (pv 0) (pa_cons (pv 1) (pa_cons (pe_op op_sub (pv 2) pe_int) pa_nil)))) (pa_cons (pe_call G__law_type (hr.mono (by omega)) rfl m__law_type k__law_type b__law_type .nil pass0 (pa_cons (pv 0) (pa_cons (pv 1) (pa_cons (pe_op op_sub (pv 2) pe_int) pa_nil)))) pa_nil))) pa_nil)))))) pss_nil)
  (pss_one (ps_ret (pe_tup (pa_cons pe_str (pa_cons (pe_call G__law_choice (hr.mono (by omega)) rfl m__law_choice k__law_choice b__law_choice .nil pass0 (pa_cons (pv 0) (pa_cons (pe_lst (pa_cons pe_int (pa_cons pe_int (pa_cons pe_int pa_nil)))) pa_nil))) (pa_cons (pe_tup (pa_cons (pe_call G__law_type (hr.mono (by omega)) rfl m__law_type k__law_type b__law_type .nil pass0 (pa_cons (pv 0) (pa_cons (pv 1) (pa_cons (pe_op op_sub (pv 2) pe_int) pa_nil)))) pa_nil)) pa_nil))))))))))), ?_⟩
  refine ⟨_, rfl, h, 9, rfl, hh, by decide, by decide, fun H1 way hway g1 => ?_⟩
  have dcall : ∀ (Hx : Hp) (d' : Nat) (Q' : VK) (E' : XK), d = d' + 1 → HatOk Hx h → (∀ H' T v, Gw h Hx H' → TyH K H' T v → TyB c (bd d') T → Q' v H') → spType K n [.ref h, .int (c : Int), .int ((d : Int) - 1)] Hx Q' E' := fun Hx d' Q' E' e hx k =>
    ⟨h, c, d', congrArg (fun z => [V.ref h, V.int (c : Int), V.int z]) (show (d : Int) - 1 = (d' : Int) by omega), hx, c0, c3, by omega, k⟩
  dsimp only [gName, tSeq, tIfS]
  refine tOr_both (a := decide (V.int (d : Int) = V.int 0)) (b := decide ((way : Int) < 3)) (fun R r => ⟨_, rfl, rfl, _, rfl, r⟩) (fun R r => ⟨_, rfl, _, _, rfl, rfl, _, rfl, r⟩) (ite2 (fun hc => ?_) (fun hc => ?_))
  · refine ⟨z6, fun tt htt => ⟨tt, rfl, ⟨_, sq_new⟩, fun D hD => ?_⟩⟩
    have g2 := Gw.of_same g1.2 (same_upd htt (.tup (natV stampsP)))
    refine lc_tup (K := K) (a := tt) (xs := natV stampsP) (fun i H3 => Same _ H3 ∧ ∃ xs, H3 D = some (.lst xs) ∧ TysH K H3 (plainT.take i) xs) ⟨same_upd hD _, [], upd_same, .nil⟩ (fun i H3 _ z => tups_of z.1 _ _ sq_new) ?_ ?_
    · rintro i x H3 hx ⟨g3, xs, h3, hT⟩
      obtain ⟨m, hm, rfl⟩ := natV_at hx
      refine ⟨rfl, _, rfl, z0, fun e he => ⟨z3, fun p hp => ?_⟩⟩
      have w1 := same_upd he (.tup [])
      have w2 := same_upd hp (.tup [.str "made", .int (m : Int), .ref e])
      have w3 := w1.trans w2
      have hl := hT.len
      rw [List.length_take, show plainT.length = 6 from rfl] at hl
      refine ⟨xs, w3 _ _ h3, small1000 (by omega), same_set (g3.trans w3) hD _, _, upd_same, ?_⟩
      have e1 : plainT[i]? = some (tmd m []) := by
        unfold plainT
        rw [List.getElem?_map, hm]
        rfl
      rw [take_snoc e1]
      have t3 := tups_set (K := K) (w3 _ _ h3) (.lst (xs ++ [.ref p]))
      exact ((hT.mono (tups_of w3)).mono t3).app (.cons (TyH.made (t3 _ _ sq_new) (t3 _ _ (tups_of w2 _ _ sq_new)) .nil) .nil)
    · rintro H3 ⟨g3, xs, h3, hT⟩
      have hT : TysH K H3 plainT xs := hT
      have gg3 := (g1.trans g2).trans (Gw.of_same (g2.2) g3)
      refine ⟨z0, fun e he => ⟨z2, fun p hp => ⟨z1, fun l hl => ?_⟩⟩⟩
      have w1 := same_upd he (.tup [])
      have w2 := same_upd hp (.tup [.str "tuple", .ref e])
      have w3 := same_upd hl (.lst [.ref p])
      have w23 := w2.trans w3
      have w4 := w1.trans w23
      have hxl : xs.length = 6 := hT.len
      refine ⟨D, l, xs, [.ref p], rfl, rfl, w4 _ _ h3, upd_same, by rw [hxl]; show 6 + 1 ≤ sizeLine; decide, fun pl hpl => ?_⟩
      have w5 := same_upd hpl (.lst (xs ++ [.ref p]))
      have hT := (hT.mono (tups_of (w4.trans w5))).app (.cons (TyH.tup (tups_of (w3.trans w5) _ _ sq_new) (tups_of (w23.trans w5) _ _ sq_new) .nil) .nil)
      have gg4 := gg3.trans (Gw.of_same gg3.2 (w4.trans w5))
      refine ⟨_, rfl, _, _, rfl, rfl, _, rfl, ite2 (fun _ => ?_) (fun hc2 => absurd (of_decide_eq_false (Bool.eq_false_iff.mpr hc2)) (by omega))⟩
      refine ⟨_, rfl, _, rfl, h, c, rfl, gg4.2, c0, by omega, fun H5 r hr5 g5 => ⟨z2, fun m hm => ⟨z1, fun l2 hl2 => ?_⟩⟩⟩
      have v1 := same_upd hm (.tup [.str "var", .int (r : Int)])
      have v2 := same_upd hl2 (.lst [.ref m])
      refine ⟨l2, 9, [.ref m], rfl, rfl, upd_same, by decide, by decide, (by show 1 * 9 ≤ sizeLine; decide), fun p3 hp3 => ?_⟩
      have v3 := same_upd hp3 (.lst (List.replicate 9 [V.ref m]).flatten)
      have v12 := v1.trans v2
      have v23 := v2.trans v3
      have v123 := v1.trans v23
      have gg5 := (gg4.trans g5).trans (Gw.of_same (gg4.trans g5).2 v123)
      have hT := (hT.mono (g5.tups gg4.2)).mono (tups_of v123)
      have hpl5 := v123 _ _ (g5.1 pl _ (gg3.2.mono w4 |>.ne hpl) upd_same)
      have hV : TyH K _ (tv r) (.ref m) := TyH.var (tups_of v23 _ _ sq_new)
      have hVs : TysH K _ (List.replicate 9 (tv r)) (List.replicate 9 [V.ref m]).flatten := .cons hV (.cons hV (.cons hV (.cons hV (.cons hV (.cons hV (.cons hV (.cons hV (.cons hV .nil))))))))
      have hAll := hT.app hVs
      refine ⟨_, rfl, _, rfl, _, rfl, pl, p3, _, _, rfl, rfl, hpl5, upd_same, by rw [List.length_append, hxl]; show 6 + 1 + 9 ≤ sizeLine; decide, fun q1 hq1 => ?_⟩
      have v4 := same_upd hq1 (.lst ((xs ++ [.ref p]) ++ (List.replicate 9 [V.ref m]).flatten))
      have hAll := hAll.mono (tups_of v4)
      refine ⟨h, q1, _, rfl, gg5.2.mono v4, gg5.2.ne hq1, SqL.of upd_same, by rw [List.length_append, List.length_append, hxl]; exact Nat.lt_of_lt_of_le (by show 0 < 6 + 1; decide) (Nat.le_add_right _ _), by rw [List.length_append, List.length_append, hxl]; show 6 + 1 + 9 < 1000000; decide, fun H6 r6 x hx g6 => ?_⟩
      obtain ⟨t, ht, htH⟩ := hAll.get hx
      have k6 := gg5.2.mono v4
      refine q H6 t x ((gg5.trans (Gw.of_same gg5.2 v4)).trans g6) (htH.mono (g6.tups k6)) ?_
      have hm6 := List.mem_of_getElem? ht
      rcases List.mem_append.mp hm6 with hm6 | hm6
      · rcases List.mem_append.mp hm6 with hm6 | hm6
        · exact plain_b (bd_pos d) hm6
        · rw [List.mem_singleton.mp hm6]
          exact .leaf (show (0 : Nat) ≠ 1 by decide) (fun n e => nomatch e) (bd_pos d)
      · rw [(List.mem_replicate.mp hm6).2]
        exact .leaf (show 0 = 0 ∧ (r : Int) < 10 ^ 60 from ⟨rfl, by omega⟩) (fun n e => by cases e; exact hr5) (bd_pos d)
  · obtain ⟨d', hd'⟩ : ∃ d', d = d' + 1 := by
      cases d with
      | zero => exact absurd (by rw [Bool.or_eq_true]; exact .inl (decide_eq_true rfl)) hc
      | succ d' => exact ⟨d', rfl⟩
    have ebd : bd d = 1 + 3 * bd d' := by rw [hd']; rfl
    refine ⟨_, rfl, _, _, rfl, rfl, _, rfl, ite2 (fun _ => ?_) (fun _ => ?_)⟩
    · refine ⟨_, rfl, _, rfl, _, rfl, _, _, rfl, rfl, dcall _ d' _ E hd' g1.2 fun H2 T1 x1 g2 hT1 hB1 => ?_⟩
      refine ⟨_, rfl, _, rfl, _, rfl, _, _, rfl, rfl, dcall _ d' _ E hd' g2.2 fun H3 T2 x2 g3 hT2 hB2 => ?_⟩
      refine ⟨z3, fun p hp => ?_⟩
      have w1 := same_upd hp (.tup [.str "fn", x1, x2])
      refine q _ (tfn T1 T2) _ ((g1.trans (g2.trans g3)).trans (Gw.of_same g3.2 w1)) (TyH.fn sq_new ((hT1.mono (g3.tups g2.2)).mono (tups_of w1)) (hT2.mono (tups_of w1))) ?_
      rw [ebd]
      exact .node rfl rfl (fun t ht => by
        rcases List.mem_cons.mp ht with rfl | ht
        · exact hB1
        · rw [List.mem_singleton.mp ht]
          exact hB2) (by show 2 ≤ 3; decide)
    refine ⟨_, rfl, rfl, _, rfl, ite2 (fun _ => ?_) (fun _ => ?_)⟩
    · refine ⟨_, rfl, h, 4, rfl, g1.2, by decide, by decide, fun H2 r2 hr2 g2 => ⟨rfl, .inr ⟨_, rfl, _, _, rfl, rfl, ?_⟩⟩⟩
      have hN : ∃ N : Nat, (2 + (if decide (V.int (r2 : Int) = V.int 0) = true then 1 else 0) : Int) = (N : Int) ∧ (N = 2 ∨ N = 3) := by
        by_cases z : decide (V.int (r2 : Int) = V.int 0) = true
        · exact ⟨3, by rw [if_pos z]; rfl, .inr rfl⟩
        · exact ⟨2, by rw [if_neg z]; rfl, .inl rfl⟩
      obtain ⟨N, eN, hN⟩ := hN
      refine ⟨_, rfl, by rw [eN]; omega, by rw [eN]; omega, fun D hD => ?_⟩
      have eT : ((2 + (if decide (V.int (r2 : Int) = V.int 0) = true then 1 else 0) : Int)).toNat = N := by rw [eN]; rfl
      have D0 := same_upd hD (.lst [])
      refine lc_range (lo := 0) (n := ((2 + (if decide (V.int (r2 : Int) = V.int 0) = true then 1 else 0) : Int)).toNat) (fun i H3 => Gw h H2 H3 ∧ ∃ ts xs, H3 D = some (.lst xs) ∧ TysH K H3 ts xs ∧ ts.length = i ∧ ∀ t ∈ ts, TyB c (bd d') t)
        ⟨.of_same g2.2 D0, [], [], upd_same, .nil, rfl, fun t ht => nomatch ht⟩ ?_ ?_
      · rintro i H3 hi ⟨g3, ts, xs, h3, hT, hl, hB⟩
        rw [eT] at hi
        refine ⟨rfl, _, rfl, _, rfl, _, rfl, _, _, rfl, rfl, dcall _ d' _ E hd' g3.2 fun H4 T1 x1 g4 hT1 hB1 => ?_⟩
        have hne := g2.2.ne hD
        have h4 := g4.1 D _ hne h3
        have hxl := hT.len
        refine ⟨xs, h4, small1000 (by omega), ?_⟩
        have t5 := tups_set (K := K) h4 (.lst (xs ++ [x1]))
        have g5 : Gw h H2 (upd H4 D (.lst (xs ++ [x1]))) := by
          have g34 := g3.trans g4
          refine ⟨fun b o hb e => ?_, ?_⟩
          · rw [upd_ne (ne_of_none e hD)]
            exact g34.1 b o hb e
          · obtain ⟨a, b, c', e⟩ := g34.2
            exact ⟨a, b, c', by rw [upd_ne hne.symm]; exact e⟩
        refine ⟨g5, ts ++ [T1], xs ++ [x1], upd_same, ((hT.mono (g4.tups g3.2)).app (.cons hT1 .nil)).mono t5, by rw [List.length_append, hl]; rfl, fun t ht => ?_⟩
        rcases List.mem_append.mp ht with ht | ht
        · exact hB t ht
        · rw [List.mem_singleton.mp ht]
          exact hB1
      · rintro H3 ⟨g3, ts, xs, h3, hT, hl, hB⟩
        rw [eT] at hl
        refine ⟨D, _, rfl, .inl ⟨SqL.of h3, fun tp htp => ⟨z2, fun p hp => ?_⟩⟩⟩
        have w1 := same_upd htp (.tup xs)
        have w2 := same_upd hp (.tup [.str "tuple", .ref tp])
        have w3 := w1.trans w2
        refine q _ (ttup ts) _ ((g1.trans (g2.trans g3)).trans (Gw.of_same g3.2 w3)) (TyH.tup sq_new (tups_of w2 _ _ sq_new) (hT.mono (tups_of w3))) ?_
        rw [ebd]
        refine .node (show ts.length ≠ 1 from ?_) rfl hB ?_
        · omega
        · omega
    refine ⟨_, rfl, rfl, _, rfl, ite2 (fun _ => ?_) (fun _ => ?_)⟩
    · refine ⟨_, rfl, _, rfl, _, rfl, _, _, rfl, rfl, dcall _ d' _ E hd' g1.2 fun H2 T1 x1 g2 hT1 hB1 => ?_⟩
      refine ⟨_, rfl, _, rfl, _, rfl, _, _, rfl, rfl, dcall _ d' _ E hd' g2.2 fun H3 T2 x2 g3 hT2 hB2 => ?_⟩
      refine ⟨z2, fun tp htp => ⟨z3, fun p hp => ?_⟩⟩
      have w1 := same_upd htp (.tup [x1, x2])
      have w2 := same_upd hp (.tup [.str "made", .int 7, .ref tp])
      have w3 := w1.trans w2
      refine q _ (tmd 7 [T1, T2]) _ ((g1.trans (g2.trans g3)).trans (Gw.of_same g3.2 w3)) (TyH.made sq_new (tups_of w2 _ _ sq_new) (.cons ((hT1.mono (g3.tups g2.2)).mono (tups_of w3)) (.cons (hT2.mono (tups_of w3)) .nil))) ?_
      rw [ebd]
      exact .node ⟨by decide, by decide, rfl⟩ rfl (fun t ht => by
        rcases List.mem_cons.mp ht with rfl | ht
        · exact hB1
        · rw [List.mem_singleton.mp ht]
          exact hB2) (by show 2 ≤ 3; decide)
    refine ⟨_, rfl, z3, fun l hl => ?_⟩
    have u1 := same_upd hl (.lst (natV [5, 6, 8]))
    refine ⟨h, l, natV [5, 6, 8], rfl, g1.2.mono u1, g1.2.ne hl, SqL.of upd_same, (by show 0 < 3; decide), (by show 3 < 1000000; decide), fun H2 r x hx g2 => ?_⟩
    obtain ⟨s5, hs5, rfl⟩ := natV_at hx
    refine ⟨_, rfl, _, rfl, _, rfl, _, _, rfl, rfl, dcall _ d' _ E hd' g2.2 fun H3 T1 x1 g3 hT1 hB1 => ?_⟩
    refine ⟨z1, fun tp htp => ⟨z3, fun p hp => ?_⟩⟩
    have w1 := same_upd htp (.tup [x1])
    have w2 := same_upd hp (.tup [.str "made", .int (s5 : Int), .ref tp])
    have w3 := w1.trans w2
    refine q _ (tmd s5 [T1]) _ (((g1.trans (Gw.of_same g1.2 u1)).trans (g2.trans g3)).trans (Gw.of_same g3.2 w3)) (TyH.made sq_new (tups_of w2 _ _ sq_new) (.cons (hT1.mono (tups_of w3)) .nil)) ?_
    rw [ebd]
    have hs5 := List.mem_of_getElem? hs5
    refine .node (l := .made s5) (ts := [T1]) ?_ rfl (fun t ht => by rw [List.mem_singleton.mp ht]; exact hB1) (by show 1 ≤ 3; decide)
    simp only [List.mem_cons, List.not_mem_nil, or_false] at hs5
    rcases hs5 with rfl | rfl | rfl <;> exact ⟨by decide, by decide, rfl⟩
/-- with as many levels as calls -/
theorem ok_type (A : At K mg "_law_type" s__law_type ["_law_hat_here", "_law_count", "_law_deep"]) (B : Bi mg) (D__law_lift : Has P w K mg base "_law_lift" ["_law_hat_here", "_law_total"] 1 spLift) (D__law_choice : Has P w K mg base "_law_choice" ["_law_hat_here", "_law_items"] 2 (spChoice K)) (n : Nat) : ∃ f fd, FnOk P w K mg base CX0 (n + 2) f fd ["_law_hat_here", "_law_count", "_law_deep"] (spType K n) ∧ Binds K fd ["_law_hat_here", "_law_count", "_law_deep"] [] ∧ PySem.W.keepIn K (.ref f) = true ∧ mg "_law_type" = some (.ref f) := by
  obtain ⟨f, fd, F, m, b⟩ := A
  refine ⟨f, fd, ?_, b, F.kp, m⟩
  induction n with
  | zero => exact no_calls
  | succ n ih => exact type_step F b m B D__law_lift D__law_choice ih
end
end Lq
namespace Lq
open PySem L2
section
variable {P : Program} {w : World} {K : PySem.W.Frag} {mg : Str → Option Value} {base : Heap} {C : Addr}
abbrev s__law_inner : Stmt := top 65
theorem sc__law_inner : FnScope ["_law_kt"] ["_law_kt"] (defScope s__law_inner) := ⟨rfl, rfl, rfl, by decide +kernel, rfl, by decide +kernel, by decide +kernel⟩
theorem ok_inner (A : At K mg "_law_inner" s__law_inner ["_law_kt"]) : Has P w K mg base "_law_inner" ["_law_kt"] 1 (spChildren K) := by
  refine .mk A fun f fd F => ?_
  refine F.ok sc__law_inner (fun vs H Q E h => ?_) (fun cdv A outer s H vs Q E hr h => ?_)
  · obtain ⟨T, v, rfl, _⟩ := h
    rfl
  obtain ⟨T, v, rfl, hT, q⟩ := h
  refine ⟨_, (pss_cons (ps_if (pt_cmpR op_eq (pe_ix (ixT K) (pv 0) pe_int (fun _ _ => rfl)) pe_str (nomark _)) (pss_one (ps_ret (pe_tup pa_nil))) pss_nil)
  (pss_one (ps_ret (pe_ifExp (pt_cmpR op_eq (pe_ix (ixT K) (pv 0) pe_int (fun _ _ => rfl)) pe_str (nomark _)) (pe_slice sl_tup (pv 0) (po_some pe_int) po_none) (pe_ix (ixT K) (pv 0) (pe_un un_neg pe_int) (fun _ _ => rfl)))))), ?_⟩
  obtain ⟨a, xs, rfl, ⟨r, hS, hR⟩, hK⟩ := hT.out
  have i0 : atI (V.str T.lab.word :: r) 0 = some (V.str T.lab.word) := atI_nat (j := 0) rfl
  refine ⟨_, rfl, a, _, _, _, rfl, rfl, hS, i0, rfl, _, rfl, ?_⟩
  rw [w_var]
  obtain ⟨l, ts⟩ := T
  cases l with
  | var n =>
    obtain ⟨rfl, rfl⟩ := hR
    refine iteT ⟨by show 0 ≤ sizeLine; decide, fun t ht => ?_⟩
    exact q _ t [] (same_upd ht _) sq_new (hK.mono (tups_of (same_upd ht _)))
  | fn =>
    obtain ⟨rfl, h2⟩ := hR
    refine iteF ⟨_, rfl, a, _, _, _, rfl, rfl, hS, i0, rfl, _, rfl, iteT ?_⟩
    match xs, h2 with
    | [x, y], _ =>
      refine ⟨_, rfl, _, rfl, a, _, rfl, hS, (show ¬ (HT.sIx 3 0 (some 1) = 0 ∧ HT.sIx 3 3 none = 3) by decide), fun t ht => ?_⟩
      exact q _ t [x, y] (same_upd ht _) sq_new (hK.mono (tups_of (same_upd ht _)))
  | tup =>
    obtain ⟨b, rfl, hb⟩ := hR
    refine iteF ⟨_, rfl, a, _, _, _, rfl, rfl, hS, i0, rfl, _, rfl, iteF ?_⟩
    exact ⟨_, rfl, _, rfl, a, _, _, _, rfl, rfl, hS, rfl, q _ b xs (Same.refl _) hb hK⟩
  | made n =>
    obtain ⟨b, rfl, hb⟩ := hR
    refine iteF ⟨_, rfl, a, _, _, _, rfl, rfl, hS, i0, rfl, _, rfl, iteF ?_⟩
    exact ⟨_, rfl, _, rfl, a, _, _, _, rfl, rfl, hS, rfl, q _ b xs (Same.refl _) hb hK⟩
end
end Lq
namespace Lq
open PySem L2
theorem kid_sz {T t : Ty} (m : t ∈ T.kids) : t.sz < T.sz := by
  have : ∀ {ts : List Ty}, t ∈ ts → t.sz ≤ Ty.szs ts := fun {ts} h => by
    induction ts with
    | nil => cases h
    | cons x r ih =>
      rw [szs_cons]
      rcases List.mem_cons.mp h with e | h
      · rw [e]
        exact Nat.le_add_right _ _
      · have := ih h
        omega
  have := this m
  rw [T.sz_eq]
  omega
theorem szs_int : ∀ (ts : List Ty), (ts.map fun t => ((t.sz : Nat) : Int)).sum = ((Ty.szs ts : Nat) : Int)
  | [] => by rw [szs_nil]; rfl
  | t :: r => by
    rw [List.map_cons, List.sum_cons, szs_int r, szs_cons]
    omega
/-- the variables as they first stand -/
def addV (acc more : List Nat) : List Nat := acc ++ more.filter fun n => !decide (n ∈ acc)
mutual
def Ty.ord : Ty → List Nat
  | .node l ts => match l.num with
    | some n => [n]
    | none => Ty.ords [] ts
def Ty.ords : List Nat → List Ty → List Nat
  | acc, [] => acc
  | acc, t :: r => Ty.ords (addV acc (Ty.ord t)) r
end
theorem ords_snoc (t : Ty) : ∀ (ts : List Ty) (acc : List Nat), Ty.ords acc (ts ++ [t]) = addV (Ty.ords acc ts) t.ord
  | [], acc => by
    rw [List.nil_append, Ty.ords, Ty.ords, Ty.ords]
  | x :: r, acc => by
    rw [List.cons_append, Ty.ords, ords_snoc t r, Ty.ords]
theorem ord_var {T : Ty} {n : Nat} (h : T.lab.num = some n) : T.ord = [n] := by
  obtain ⟨l, ts⟩ := T
  have h : l.num = some n := h
  rw [Ty.ord, h]
theorem ord_node {T : Ty} (h : T.lab.num = none) : T.ord = Ty.ords [] T.kids := by
  obtain ⟨l, ts⟩ := T
  have h : l.num = none := h
  rw [Ty.ord, h]
  rfl
theorem addV_len (acc more : List Nat) : (addV acc more).length ≤ acc.length + more.length := by
  unfold addV
  rw [List.length_append]
  have := List.length_filter_le (fun n => !decide (n ∈ acc)) more
  omega
mutual
theorem ord_len : ∀ (T : Ty), T.ord.length ≤ T.sz
  | .node l ts => by
    rw [Ty.ord, Ty.sz]
    cases l.num with
    | some n => exact Nat.le_add_left _ _
    | none =>
      have := ords_len ts []
      show (Ty.ords [] ts).length ≤ _
      rw [List.length_nil] at this
      omega
theorem ords_len : ∀ (ts : List Ty) (acc : List Nat), (Ty.ords acc ts).length ≤ acc.length + Ty.szs ts
  | [], acc => by
    rw [Ty.ords, szs_nil]
    omega
  | t :: r, acc => by
    rw [Ty.ords, szs_cons]
    have h1 := ords_len r (addV acc t.ord)
    have h2 := addV_len acc t.ord
    have h3 := ord_len t
    omega
end
section
variable {P : Program} {w : World} {K : PySem.W.Frag} {mg : Str → Option Value} {base : Heap} {C : Addr}
abbrev s__law_vars : Stmt := top 66
theorem sc__law_vars : FnScope ["_law_kt", "_law_found", "_law_one", "_law_number"] ["_law_kt"] (defScope s__law_vars) := ⟨rfl, rfl, rfl, by decide +kernel, rfl, by decide +kernel, by decide +kernel⟩
def spLVars (K : PySem.W.Frag) (n : Nat) : Sp := fun vs H Q _ => ∃ (T : Ty) (v : V), vs = [v] ∧ TyH K H T v ∧ T.sz ≤ n ∧ T.sz ≤ 300 ∧ T.Leafy ∧ ∀ (H' : Hp) (p : Addr), Same H H' → H' p = some (.lst (natV T.ord)) → Q (.ref p) H'
theorem vars_none {f : Addr} {fd : FuncData} : FnOk P w K mg base CX0 1 f fd ["_law_kt"] (spLVars K 0) := by
  have no : ∀ vs H Q E, ¬ spLVars K 0 vs H Q E := fun vs H Q E h => by
    obtain ⟨T, v, _, _, h1, _⟩ := h
    have := sz_pos T
    omega
  exact ⟨fun vs H Q E h => absurd h (no vs H Q E), fun A outer s H args us vs Q E _ _ _ _ h => absurd h (no vs H Q E)⟩
theorem vars_step {n : Nat} {f__law_vars : Addr} {fd__law_vars : FuncData} (F : Fun K "_law_vars" "_law_vars" s__law_vars f__law_vars fd__law_vars) (b__law_vars : Binds K fd__law_vars ["_law_kt"] []) (m__law_vars : mg "_law_vars" = some (.ref f__law_vars)) (B : Bi mg)
    (D__law_inner : Has P w K mg base "_law_inner" ["_law_kt"] 1 (spChildren K)) (G__law_vars : FnOk P w K mg base CX0 (n + 1) f__law_vars fd__law_vars ["_law_kt"] (spLVars K n)) : FnOk P w K mg base CX0 (n + 2) f__law_vars fd__law_vars ["_law_kt"] (spLVars K (n + 1)) := by
  have k__law_vars := F.kp
  refine F.ok sc__law_vars (fun vs H Q E h => ?_) (fun cdv A outer s H vs Q E hr h => ?_)
  · obtain ⟨T, v, rfl, _⟩ := h
    rfl
  obtain ⟨T, v, rfl, hT, hn, h300, hlf, q⟩ := h
  obtain ⟨f__law_inner, fd__law_inner, G__law_inner, b__law_inner, k__law_inner, m__law_inner⟩ := D__law_inner
  refine ⟨_, (pss_cons (ps_if (pt_cmpR op_eq (pe_ix (ixT K) (pv 0) pe_int (fun _ _ => rfl)) pe_str (nomark _)) (pss_one (ps_ret (pe_lst (pa_cons (pe_ix (ixT K) (pv 0) pe_int (fun _ _ => rfl)) pa_nil)))) pss_nil)
  (pss_cons (ps_set (i := 1) sc__law_vars.nd rfl (Or.inr rfl) (pe_lst pa_nil))
  (pss_cons (ps_for PassesOwn.never rfl (pi_tup (pe_call G__law_inner (hr.mono (by omega)) rfl m__law_inner k__law_inner b__law_inner .nil pass0 (pa_cons (pv 0) pa_nil))) (pg_name (i := 2) sc__law_vars.nd rfl (Or.inl rfl)) (pss_one (ps_set (i := 1) sc__law_vars.nd rfl (Or.inr rfl) (pe_op op_cat (pv 1) (pe_lc (own := [("_law_number", 3)]) (g := gName 3) (tt := _) (by rfl) sc__law_vars.nd (pi_list (pe_call G__law_vars (hr.mono (by omega)) rfl m__law_vars k__law_vars b__law_vars .nil pass0 (pa_cons (pv 2) pa_nil))) (blkOk_by (N := ["_law_kt", "_law_found", "_law_one", "_law_number"]) (sc := defScope s__law_vars) (by decide +kernel)) (fun _ _ _ _ _ => (pg_name (i := 3) sc__law_vars.nd rfl (Or.inl rfl))) (fun _ _ _ _ _ => (pts_one (pt_cmpR (notInS K) (pv 3) (pv 1) rfl))) (fun _ _ _ _ _ => (pv 3)))))))
  (pss_one (ps_ret (pv 1)))))), ?_⟩
  obtain ⟨a, xs, rfl, ⟨r, hS, hR⟩, _⟩ := hT.out
  have i0 : atI (V.str T.lab.word :: r) 0 = some (V.str T.lab.word) := atI_nat (j := 0) rfl
  refine ⟨_, rfl, a, _, _, _, rfl, rfl, hS, i0, rfl, _, rfl, ?_⟩
  rw [w_var]
  cases hnum : T.lab.num with
  | some m =>
    have hlab : T.lab = .var m := by
      cases e : T.lab with
      | var k => rw [e] at hnum; cases hnum; rfl
      | _ => rw [e] at hnum; cases hnum
    rw [hlab] at hR hS ⊢
    obtain ⟨_, rfl⟩ := hR
    refine iteT ⟨_, rfl, a, _, _, _, rfl, rfl, hS, atI_nat (j := 1) rfl, by show 1 ≤ sizeLine; decide, fun p hp => q _ p (same_upd hp _) ?_⟩
    rw [upd_same, ord_var hnum]
    rfl
  | none =>
    have hv : T.lab.isVar = false := by
      cases e : T.lab with
      | var k => rw [e] at hnum; cases hnum
      | _ => rfl
    rw [hv]
    refine iteF ⟨by show 0 ≤ sizeLine; decide, fun f0 hf0 => ?_⟩
    have w0 := same_upd hf0 (.lst (natV []))
    refine ⟨_, rfl, T, _, rfl, hT.mono (tups_of w0), fun H2 c xs2 g2 hc hK => ?_⟩
    have hkl := kids_len T
    refine ⟨c, rfl, ⟨_, hc⟩, for_tup (K := K) (a := c) (xs := xs2) (fun i σ H3 => ∃ s2 s3 f, σ = [some (.ref a), some (.ref f), s2, s3] ∧ Same H2 H3 ∧ H3 f = some (.lst (natV (Ty.ords [] (T.kids.take i)))))
      ⟨_, _, f0, rfl, Same.refl _, g2 _ _ upd_same⟩ (fun i σ H3 _ z => ?_) ?_ ?_⟩
    · obtain ⟨_, _, _, _, g3, _⟩ := z
      exact tups_of g3 _ _ hc
    · rintro i x σ H3 hx ⟨s2, s3, f, rfl, g3, hf⟩
      obtain ⟨t, hti, ht⟩ := hK.get hx
      have hmem := List.mem_of_getElem? hti
      have htk := kid_sz hmem
      refine ⟨_, rfl, _, rfl, t, x, rfl, ht.mono (tups_of g3), by omega, by omega, hlf.kid hmem, fun H4 p g4 hp => ⟨p, rfl, ⟨_, SqL.of hp⟩, fun D hD => ?_⟩⟩
      have hf4 := g4 _ _ hf
      have hol := ord_len t
      refine lc_list (K := K) (a := p) (xs := natV t.ord) (fun j H5 => Same H4 H5 ∧ H5 D = some (.lst (natV ((t.ord.take j).filter fun n => !decide (n ∈ Ty.ords [] (T.kids.take i)))))) ⟨same_upd hD _, upd_same⟩ (fun j H5 _ z => SqL.of (z.1 _ _ hp)) ?_ ?_
      · rintro j x H5 hx5 ⟨g5, h5⟩
        obtain ⟨n', hn', rfl⟩ := natV_at hx5
        refine ⟨rfl, _, rfl, _, rfl, f, natV (Ty.ords [] (T.kids.take i)), rfl, .inl (SqL.of (g5 _ _ hf4)), rfl, flat_nat _, _, rfl, ?_⟩
        rw [inV_nat]
        by_cases hin : n' ∈ Ty.ords [] (T.kids.take i)
        · rw [decide_eq_true hin]
          refine iteF ⟨g5, ?_⟩
          rw [take_snoc hn', List.filter_append, List.filter_cons_of_neg (by simpa using hin), List.filter_nil, List.append_nil]
          exact h5
        · rw [decide_eq_false hin]
          refine iteT ⟨_, rfl, _, h5, ?_, same_set g5 hD _, ?_⟩
          · rw [natV_len]
            refine small1000 (Nat.le_trans (List.length_filter_le _ _) ?_)
            rw [List.length_take]
            omega
          · rw [upd_same, take_snoc hn', List.filter_append, List.filter_cons_of_pos (by simpa using hin), List.filter_nil, natV_app]
            rfl
      · rintro H5 ⟨g5, h5⟩
        rw [natV_len, List.take_length] at h5
        have h1 := ords_len (T.kids.take i) []
        have h2 : Ty.szs (T.kids.take i) ≤ 300 := by
          have e := szs_app (T.kids.take i) (T.kids.drop i)
          rw [List.take_append_drop] at e
          have := T.sz_eq
          omega
        refine ⟨f, D, _, _, rfl, rfl, g5 _ _ hf4, h5, ?_, fun p2 hp2 => ?_⟩
        · rw [natV_len, natV_len]
          have := List.length_filter_le (fun n => !decide (n ∈ Ty.ords [] (T.kids.take i))) t.ord
          rw [List.length_nil] at h1
          exact small300 (by omega)
        · refine ⟨_, _, p2, rfl, g3.trans (g4.trans (g5.trans (same_upd hp2 _))), ?_⟩
          rw [upd_same, take_snoc hti, ords_snoc, ← natV_app]
          rfl
    · rintro σ H3 ⟨s2, s3, f, rfl, g3, hf⟩
      rw [hK.len, List.take_length, ← ord_node hnum] at hf
      exact ⟨_, rfl, q H3 f (w0.trans (g2.trans g3)) hf⟩
theorem ok_lvars (A : At K mg "_law_vars" s__law_vars ["_law_kt"]) (B : Bi mg) (D__law_inner : Has P w K mg base "_law_inner" ["_law_kt"] 1 (spChildren K)) (n : Nat) : Has P w K mg base "_law_vars" ["_law_kt"] (n + 1) (spLVars K n) := by
  obtain ⟨f, fd, F, m, b⟩ := A
  refine ⟨f, fd, ?_, b, F.kp, m⟩
  induction n with
  | zero => exact vars_none
  | succ n ih => exact vars_step F b m B D__law_inner ih
end
end Lq
namespace Lq
open PySem L2
def addN (acc : List Nat) (n : Nat) : List Nat := if n ∈ acc then acc else acc ++ [n]
def foldA (acc : List Nat) (l : List Nat) : List Nat := l.foldl addN acc
theorem foldA_app (acc a b : List Nat) : foldA acc (a ++ b) = foldA (foldA acc a) b := List.foldl_append
theorem addV_one (acc : List Nat) (n : Nat) : addV acc [n] = addN acc n := by
  unfold addV addN
  by_cases h : n ∈ acc
  · rw [if_pos h, List.filter_cons_of_neg (by simpa using h), List.filter_nil, List.append_nil]
  · rw [if_neg h, List.filter_cons_of_pos (by simpa using h), List.filter_nil]
theorem addV_nil (acc : List Nat) : addV acc [] = acc := by
  unfold addV
  rw [List.filter_nil, List.append_nil]
theorem nil_addV (l : List Nat) : addV [] l = l := by
  unfold addV
  rw [List.nil_append]
  exact List.filter_eq_self.mpr fun n _ => by simp
theorem addV_assoc (acc a b : List Nat) : addV acc (addV a b) = addV (addV acc a) b := by
  unfold addV
  rw [List.filter_append, List.filter_filter, List.append_assoc]
  congr 2
  refine List.filter_congr fun n _ => ?_
  by_cases h1 : n ∈ acc
  · simp [h1]
  · by_cases h2 : n ∈ a <;> simp [h1, h2]
theorem vars_pre (T : Ty) : T.vars = (match T.lab.num with | some n => [n] | none => []) ++ (Ty.pres T.kids).filterMap fun t => t.lab.num := by
  unfold Ty.vars
  rw [pre_eq, List.filterMap_cons]
  cases T.lab.num <;> rfl
mutual
theorem ordA : ∀ (T : Ty), T.Leafy → ∀ acc, foldA acc T.vars = addV acc T.ord
  | .node l ts, hl, acc => by
    rw [vars_pre, foldA_app]
    cases e : l.num with
    | some n =>
      have hk : ts = [] := hl (.node l ts) (by rw [pre_eq]; exact List.mem_cons_self) (by show l.num ≠ none; rw [e]; exact fun z => nomatch z)
      subst hk
      rw [ord_var (T := .node l []) e, addV_one]
      show foldA (foldA acc (match l.num with | some n => [n] | none => [])) _ = _
      rw [e]
      show foldA (addN acc n) ((Ty.pres []).filterMap _) = _
      rw [pres_nil]
      rfl
    | none =>
      rw [ord_node (T := .node l ts) e]
      show foldA (foldA acc (match l.num with | some n => [n] | none => [])) ((Ty.pres ts).filterMap _) = addV acc (Ty.ords [] ts)
      rw [e, ordsA ts (fun t ht => hl.kid (T := .node l ts) ht) acc [], addV_nil]
      rfl
theorem ordsA : ∀ (ts : List Ty), (∀ t ∈ ts, t.Leafy) → ∀ acc b, addV acc (Ty.ords b ts) = foldA (addV acc b) ((Ty.pres ts).filterMap fun t => t.lab.num)
  | [], _, acc, b => by
    rw [Ty.ords, pres_nil]
    rfl
  | t :: r, hl, acc, b => by
    rw [Ty.ords, ordsA r (fun u hu => hl u (List.mem_cons_of_mem _ hu)), addV_assoc, pres_cons, List.filterMap_append, foldA_app]
    have := ordA t (hl t List.mem_cons_self) (addV acc b)
    unfold Ty.vars at this
    rw [this]
end
theorem ord_vars {T : Ty} (h : T.Leafy) : foldA [] T.vars = T.ord := by rw [ordA T h, nil_addV]
section
variable {P : Program} {w : World} {K : PySem.W.Frag} {mg : Str → Option Value} {base : Heap} {C : Addr}
def spVarsO (K : PySem.W.Frag) : Sp := fun vs H Q _ => ∃ (T : Ty) (v : V), vs = [v] ∧ TyH K H T v ∧ T.sz ≤ 1000 ∧ T.Leafy ∧
  ∀ (H' : Hp) (p : Addr), Same H H' → SqT K H' p (natV T.ord) → Q (.ref p) H'
theorem foldA_len : ∀ (l acc : List Nat), (foldA acc l).length ≤ acc.length + l.length
  | [], acc => Nat.le_refl _
  | n :: r, acc => by
    have := foldA_len r (addN acc n)
    have h : (addN acc n).length ≤ acc.length + 1 := by
      unfold addN
      split
      · exact Nat.le_succ _
      · rw [List.length_append, List.length_singleton]
        exact Nat.le_refl _
    show (foldA (addN acc n) r).length ≤ _
    rw [List.length_cons]
    omega
theorem ok_variables_o (A : At K mg "variables_in" s_variables_in ["T"]) (B : Bi mg) (D_nodes_of : Has P w K mg base "nodes_of" ["T"] 2 (spNodes K)) : Has P w K mg base "variables_in" ["T"] 3 (spVarsO K) := by
  refine .mk A fun f fd F => ?_
  refine F.ok sc_variables_in (fun vs H Q E h => ?_) (fun cdv A outer s H vs Q E hr h => ?_)
  · obtain ⟨T, v, rfl, _⟩ := h
    rfl
  obtain ⟨T, v, rfl, hT, hsz, hlf, q⟩ := h
  obtain ⟨f_nodes_of, fd_nodes_of, G_nodes_of, b_nodes_of, k_nodes_of, m_nodes_of⟩ := D_nodes_of
  refine ⟨_, (pss_cons (ps_setDc (i := 1) (own := [("part", 2)]) (g := gName 2) (tt := _) (by rfl) sc_variables_in.nd rfl rfl (sw_dict rfl rfl rfl (by decide +kernel)) (pi_list (pe_call G_nodes_of (hr.mono (by decide)) rfl m_nodes_of k_nodes_of b_nodes_of .nil pass0 (pa_cons (pv 0) pa_nil))) (blkOk_by (N := ["T", "found", "part"]) (sc := defScope s_variables_in) (by decide +kernel)) (fun _ _ _ _ _ => (pg_name (i := 2) sc_variables_in.nd rfl (Or.inl rfl))) (fun _ _ _ _ _ => (pts_one (pt_cmpR op_eq (pe_ix (ixT K) (pv 2) pe_int (fun _ _ => rfl)) pe_str (nomark _)))) (fun _ _ _ _ _ => (pe_ix (ixT K) (pv 2) pe_int (fun _ _ => rfl))) (fun _ _ _ _ _ => pe_bl))
  (pss_one (ps_ret (pe_callTy (tuple_dK rfl) (by rfl) B.tuple (by decide +kernel) (pa_cons (pv 1) pa_nil))))), ?_⟩
  refine ⟨_, rfl, T, v, rfl, hT, hsz, fun H2 p xs g2 _ hp hx => ?_⟩
  have hxl := hx.len
  rw [pre_len] at hxl
  refine ⟨p, rfl, ⟨xs, SqL.of hp⟩, fun D hD => dc_list (K := K) (a := p) (xs := xs)
    (fun i H3 => Same H2 H3 ∧ H3 D = some (.dK (keysT (foldA [] ((T.pre.take i).filterMap fun t => t.lab.num))))) ⟨same_upd hD _, upd_same⟩ (fun i H3 _ a => SqL.of (a.1 _ _ hp)) ?_ ?_⟩
  · rintro i x H3 hix ⟨g3, hd⟩
    obtain ⟨t, hti, ht⟩ := hx.get hix
    have hlt := lt_of_get hix
    obtain ⟨a, ws, rfl, ⟨r, hS, hR⟩, _⟩ := (ht.mono (tups_of g3)).out
    have i0 : atI (V.str t.lab.word :: r) 0 = some (V.str t.lab.word) := atI_nat (j := 0) rfl
    have hln : (foldA [] ((T.pre.take i).filterMap fun t => t.lab.num)).length ≤ 1000 := by
      have h1 := foldA_len ((T.pre.take i).filterMap fun t => t.lab.num) []
      have h2 := List.length_filterMap_le (fun t : Ty => t.lab.num) (T.pre.take i)
      rw [List.length_take] at h2
      rw [List.length_nil] at h1
      omega
    refine ⟨rfl, _, rfl, a, _, _, _, rfl, rfl, hS, i0, rfl, _, rfl, ?_⟩
    rw [w_var]
    obtain ⟨l, ts⟩ := t
    cases l with
    | var n =>
      obtain ⟨_, rfl⟩ := hR
      refine iteT ⟨_, rfl, a, _, _, _, rfl, rfl, hS, atI_nat (j := 1) rfl, keysT _, Sum.inl (n : Int), rfl, hd, by rw [keysT_len]; exact small1000 hln, same_set g3 hD _, ?_⟩
      rw [upd_same, keysT_put, take_snoc hti, List.filterMap_append, foldA_app]
      rfl
    | _ =>
      refine iteF ⟨g3, ?_⟩
      rw [take_snoc hti, List.filterMap_append, foldA_app]
      exact hd
  · rintro H3 ⟨g3, hd⟩
    rw [List.take_of_length_le (by rw [pre_len, hxl]; exact Nat.le_refl _)] at hd
    refine ⟨_, rfl, D, keysT (foldA [] T.vars), rfl, hd, fun q1 hq1 => ?_⟩
    rw [keysT_keys, ord_vars hlf] at *
    exact q _ q1 ((g2.trans g3).trans (same_upd hq1 _)) sq_new
end
end Lq
/-! walking over a list or a tuple, whichever it is -/
namespace Lq
open PySem PySem.Spec PyProof.Rows L2
def iEither (K : PySem.W.Frag) (te : TE) : TI := fun σ H R => te σ H fun v H2 =>
  ∃ p, v = .ref p ∧ (((∃ ys, SqL K H2 p ys) ∧ R (Itl K p) H2) ∨ ((∃ ys, SqT K H2 p ys) ∧ R (Itt K p) H2))
theorem pi_either {X : Cx} {tg e : Expr} {te : TE} (he : PE X e te) : PI X tg e (iEither X.K te) := by
  refine ⟨fun pins s σ H R J hh => ?_⟩
  refine thn (he.run pins s σ H _ J hh) fun u t ⟨v, H2, J2, ru, p, ev, w⟩ => ?_
  subst ev
  cases ru
  have fresh : ∀ b ∈ [t.heap.objs.size], FpOk X pins H2 b := fun b mb => by
    have eb := List.mem_singleton.mp mb
    rw [eb]
    exact J2.fpOk (Nat.le_refl _)
      (J2.hok.fresh (Nat.le_refl _))
  rcases w with ⟨⟨ys, hy⟩, w⟩ | ⟨⟨ys, hy⟩, w⟩
  · obtain ⟨its, _, hp, _⟩ := J2.list hy
    refine wpAny_pyIter_list hp.isList ⟨t.heap.objs.size,
      [t.heap.objs.size], _, _, H2, rfl, ?_, turn_list p _,
      ⟨_, Heap.get?_push_size _ rfl, rfl, rfl⟩, fresh, w⟩
    exact J2.kept (t' := t.toks) fun _ _ z =>
      Heap.get?_push_of_some _ z
  · obtain ⟨its, _, hp, _⟩ := J2.tuple hy
    have hp' : t.heap.IsTuple p its.toArray := hp
    refine wpAny_pyIter_tuple hp' ⟨t.heap.objs.size,
      [t.heap.objs.size], _, _, H2, rfl, ?_, turn_tuple p _,
      ⟨_, Heap.get?_push_size _ rfl, rfl, rfl⟩, fresh, w⟩
    exact J2.kept (t' := t.toks) fun _ _ z =>
      Heap.get?_push_of_some _ z
end Lq
namespace Lq
open PySem L2 PySem.Spec PyProof.Rows
section
variable {X : Cx} {CX : CXT} {k n : Nat} {C p g f : Addr} {mc : Value} {fd : FuncData} {ps ks : List Str} {sp : Sp} {E : XK} {o e : Expr} {es : List Expr} {kws : List Keyword} {x m : Str} {pos apos : Pos} {ta : TE} {t tk : TA} {pl : Sem Bool}
variable {gg : List Value → List Value → List Value} {gV : List V → List V → List V}
/-- e.m(.., k = v), e the class at C, m a classmethod -/
def tClsK (C : Addr) (n m : Nat) (sp : Sp) (gV : List V → List V → List V) (E : XK) (ta : TE) (t tk : TA) : TE := fun σ H Q => ta σ H fun x H1 => x = .ref C ∧ t σ H1 fun vs H2 => tk σ H2 fun zs H3 => vs.length = n ∧ zs.length = m ∧ sp (gV (.ref C :: vs) zs) H3 Q E
theorem pe_clsK (he : PE X o ta) (r : ClX.CRead X.K C mc) (c : ClX.CMet X.K C mc m p g) (F : FnOk X.prog X.w X.K X.mg X.base CX k g fd ps sp) (hr : Room k X.A) (hb : KBn X.K fd ps (n + 1) ks gg gV) (hx : Passes CX X E) (ha : PA X (e :: es) t) (hkw : PK X kws tk)
    (hall : (backToKw pos (keywordEach kws X.env)).all (·.1.isSome) = true := by rfl) (hks : (backToKw pos (keywordEach kws X.env)).filterMap (·.1) = ks := by rfl)
    (hst : starEach (e :: es) X.env = (false, eval e X.env) :: starEach es X.env := by rfl) (hpl : ((backTo pos (starEach (e :: es) X.env)).any (·.1) || (backToKw pos (keywordEach kws X.env)).any (·.1.isNone)) = false := by rfl)
    (ht : eval (.Call (.Attribute o m apos) (e :: es) kws pos) X.env = (do
      let ov ← eval o X.env
      standAt apos.atName
      let (f, first) ← holding [ov] (getMethod ov m pl)
      callWith pos f first (backTo pos (starEach (e :: es) X.env)) (backToKw pos (keywordEach kws X.env))) := by rfl) :
    PE X (.Call (.Attribute o m apos) (e :: es) kws pos) (tClsK C n ks.length sp gV E ta t tk) := by
  refine ⟨fun pins s σ H Q I h => PySem.W.methodCall_KW (pl := pl) (thn (he.run pins s σ H _ I h) fun u s1 ⟨x, H1, I1, rx, ex, q⟩ => ?_) ht⟩
  subst ex
  obtain rfl : u = Value.ref C := rx
  refine ClX.getmethcm_ok I1 r c fun s2 I2 => ?_
  refine PySem.W.callWith_of hpl (PySem.W.keeps_M (K := X.K) (self := .ref C) c.fi) (evalArgs_kw2 hall ?_ hst)
  refine thn (ha.run pos _ s2 σ H1 _ I2 q) fun us s3 ⟨vs, H2, I3, rv, q2⟩ => ?_
  refine thn (hkw.run pos _ s3 σ H2 _ I3 q2) fun ws s4 ⟨zs, H3, I4, rz, l1, l2, q3⟩ => ⟨⟨ClX.pin_at I4, I4.kIn⟩, ?_⟩
  have rs : Vals (V.ref C :: vs) (Value.ref C :: us) := .cons rfl rv
  have go : codeAny (model X.prog X.w) X.A (.call (.ref g) ⟨.ref C :: us, ks.zip ws⟩) (fun r s' => match r with | .ok (.ret v) => EP X (_ :: pins) σ Q v s' | .ok _ => False | .error e => X.xe e s') s4 :=
    codeAny_mono (F.run X.A X.stack s4 H3 ⟨.ref C :: us, ks.zip ws⟩ (gg (.ref C :: us) ws) (gV (.ref C :: vs) zs) Q E hr I4.env0 (hb.to s4 _ ws I4.kIn (by rw [List.length_cons, ← rv.length, l1]) (by rw [← rz.length, l2])) (hb.rel rs rz) q3) fun r s' hq => by
      cases r with
      | error e => exact hx _ σ H3 s4 e s' I4 hq
      | ok fl =>
        cases fl with
        | ret u => exact I4.after hq
        | next => exact False.elim hq
        | brk => exact False.elim hq
        | cont => exact False.elim hq
  show wpAny _ _ (call _ ([] ++ us) _) _ _ _
  rw [List.nil_append, hks]
  exact thn (wpAny_call (PySem.W.method_call (ClX.pin_at I4) go)) fun _ _ y => ClX.unpinE y
/-- C(..), C a local name that holds the class -/
def tMakeL (i : Nat) (C : Addr) (sp : Sp) (E : XK) (t : TA) : TE := fun σ H Q => σ[i]? = some (some (.ref C)) ∧ t σ H fun vs H1 => ∀ x dx, H1 x = none → H1 dx = none → dx ≠ x →
  sp (.ref x :: (vs ++ [])) (upd (upd H1 dx (.own x)) x (.ins C dx [])) (fun v H2 => v = .non ∧ Q (.ref x) H2) E
theorem pe_makeL {i : Nat} {p : Pos} (M : Mk X.K C f) (F : FnOk X.prog X.w X.K X.mg X.base CX k f fd ps sp) (hr : Room (k + 1) X.A) (hN : X.N[i]? = some x) (hv : Vis X.env.scope x) (hb : Binds X.K fd ps []) (hx : Passes CX X E) (ha : PA X (e :: es) t)
    (hdb : (x == ("__debug__" : Str)) = false := by decide) (hcd : (x == ("__classdict__" : Str)) = false := by decide)
    (he : starEach (e :: es) X.env = (false, eval e X.env) :: starEach es X.env := by rfl) (hpl : (backTo pos (starEach es X.env)).any (·.1) = false := by rfl) : PE X (.Call (.Name x p) (e :: es) [] pos) (tMakeL i C sp E t) := by
  refine ⟨fun pins s σ H Q I ⟨hs, ht⟩ => ?_⟩
  refine wpAny_Call_Name_kw (thn ((pe_var (pos := p) hN hv hdb hcd).run pins s σ H (fun v H1 => v = .ref C ∧ H1 = H) I ⟨.ref C, hs, rfl, rfl⟩) fun u s1 ⟨v, H1, I1, r1, q1⟩ => ?_)
  obtain ⟨rfl, rfl⟩ := q1
  cases r1
  exact PySem.W.callWith_K (h₀ := X.base) I.ok.mod.kin M.kp (thn (ha.run pos pins s1 σ _ _ I1 ht) fun us s2 ⟨vs, H2, I2, r, q⟩ => ⟨I2.kIn, run_make M F hr hb .nil hx I2 r q⟩) he hpl
end
section
variable {X : Cx}
/-- a tuple == (), whatever stands in it -/
def rNilT (K : PySem.W.Frag) (b : Bool) : R2 := fun x y H Q => ∃ p q xs, x = .ref p ∧ y = .ref q ∧ SqT K H p xs ∧ SqT K H q [] ∧ Q (.bl (xs.isEmpty != b)) H
theorem op_eqNilT (hu : X.A.units + 64 < cLine) : OpR X (compareOp .Eq) (rNilT X.K false) := by
  intro pins s σ H x y v u Q I rx ry ⟨a, b, xs, e1, e2, ha, hb, q⟩
  subst e1 e2
  cases rx
  cases ry
  obtain ⟨i1, r1, ⟨o1, g1, c1, n1, d1⟩, _⟩ := I.tuple ha
  obtain ⟨i2, r2, ⟨o2, g2, c2, n2, d2⟩, _⟩ := I.tuple hb
  cases r2
  obtain ⟨c1', dd1, dt1, sl1⟩ := o1
  obtain ⟨c2', dd2, dt2, sl2⟩ := o2
  simp only at c1 d1 c2 d2
  subst c1 d1 c2 d2
  have ta : s.TypeIs (.ref a) "tuple" := ⟨_, g1, rfl⟩
  have tb : s.TypeIs (.ref b) "tuple" := ⟨_, g2, rfl⟩
  have e : (((List.range (min i1.toArray.size 0)).all fun _ => true) && i1.toArray.size == 0) = (xs.isEmpty != false) := by
    have hl : i1.length = xs.length := r1.length.symm
    rw [Nat.min_zero, List.size_toArray, hl]
    cases xs <;> rfl
  refine wpAny_richCompare_same_room (op := .Eq) ta tb F.slot_tuple_eq (call_meets F.slot_tuple_eq ta F.entry_tuple_eq (F.args_tuple_eq_2 _ _) (SeqAt.tuple_eqAt a b i1.toArray #[] n1 n2 dd1 dd2 sl1 sl2 (fun _ => true))
    ⟨g1, g2, fun j _ h2 => absurd h2 (Nat.not_lt_zero j), ?_⟩) (by omega)
  refine ⟨(fun z => nomatch z), ⟨.bl _, H, I, ?_, q⟩⟩
  rw [← e]
  rfl
theorem op_neNilT (hu : X.A.units + 64 < cLine) : OpR X (compareOp .NotEq) (rNilT X.K true) := by
  intro pins s σ H x y v u Q I rx ry ⟨a, b, xs, e1, e2, ha, hb, q⟩
  subst e1 e2
  cases rx
  cases ry
  obtain ⟨i1, r1, ⟨o1, g1, c1, n1, d1⟩, _⟩ := I.tuple ha
  obtain ⟨i2, r2, ⟨o2, g2, c2, n2, d2⟩, _⟩ := I.tuple hb
  cases r2
  obtain ⟨c1', dd1, dt1, sl1⟩ := o1
  obtain ⟨c2', dd2, dt2, sl2⟩ := o2
  simp only at c1 d1 c2 d2
  subst c1 d1 c2 d2
  have hl : i1.length = xs.length := r1.length.symm
  refine wpAny_richCompare_same_room (op := .NotEq) (T := "tuple") ⟨_, g1, rfl⟩ ⟨_, g2, rfl⟩ F.slot_tuple_ne (call_meets F.slot_tuple_ne ⟨_, g1, rfl⟩ F.entry_tuple_ne (F.args_tuple_ne_2 _ _) (SeqAt.tuple_neAt a b i1.toArray #[] n1 n2 dd1 dd2 sl1 sl2 (fun _ => true))
    ⟨g1, g2, fun j _ h2 => absurd h2 (Nat.not_lt_zero j), ?_⟩) (by omega)
  refine ⟨(fun z => nomatch z), ⟨.bl _, H, I, ?_, q⟩⟩
  cases xs with
  | nil =>
    have : i1 = [] := List.eq_nil_of_length_eq_zero hl
    subst this
    rfl
  | cons x xs =>
    cases i1 with
    | nil => cases hl
    | cons y ys => rfl
end
end Lq
namespace Lq
open PySem L2
section
variable {P : Program} {w : World} {K : PySem.W.Frag} {mg : Str → Option Value} {base : Heap} {C : Addr}
abbrev s_outline : Stmt := top 30
theorem sc_outline : FnScope ["T", "own", "part"] ["T"] (defScope s_outline) := ⟨rfl, rfl, rfl, by decide +kernel, rfl, by decide +kernel, by decide +kernel⟩
def spOutl (K : PySem.W.Frag) : Sp := fun vs H Q _ => ∃ (T : Ty) (v : V), vs = [v] ∧ TyH K H T v ∧ T.sz ≤ 300 ∧ ∀ (H' : Hp) (x : V), Same H H' → Q x H'
theorem ok_outline (A : At K mg "outline" s_outline ["T"]) (B : Bi mg) (D_nodes_of : Has P w K mg base "nodes_of" ["T"] 2 (spNodes K)) (D_children : Has P w K mg base "children" ["T"] 1 (spChildren K)) : Has P w K mg base "outline" ["T"] 3 (spOutl K) := by
  refine .mk A fun f fd F => ?_
  refine F.ok sc_outline (fun vs H Q E h => ?_) (fun cdv A outer s H vs Q E hr h => ?_)
  · obtain ⟨T, v, rfl, _⟩ := h
    rfl
  obtain ⟨T, v, rfl, hT, hsz, q⟩ := h
  obtain ⟨f_nodes_of, fd_nodes_of, G_nodes_of, b_nodes_of, k_nodes_of, m_nodes_of⟩ := D_nodes_of
  obtain ⟨f_children, fd_children, G_children, b_children, k_children, m_children⟩ := D_children
  refine ⟨_, (pss_cons (ps_set (i := 1) sc_outline.nd rfl (Or.inr rfl) (pe_disp (pps_cons pe_str pe_int (pps_cons pe_str pe_int pps_nil)) rfl rfl (fun z => nomatch z) (by decide)))
  (pss_one (ps_ret (pe_callTy call_tuple_of (by rfl) B.tuple (by decide +kernel) (pa_cons (pe_lc (own := [("part", 2)]) (g := gName 2) (tt := tYes) (by rfl) sc_outline.nd (pi_list (pe_call G_nodes_of (hr.mono (by decide)) rfl m_nodes_of k_nodes_of b_nodes_of .nil pass0 (pa_cons (pv 0) pa_nil))) (blkOk_by (N := ["T", "own", "part"]) (sc := defScope s_outline) (by decide +kernel)) (fun _ _ _ _ _ => (pg_name (i := 2) sc_outline.nd rfl (Or.inl rfl))) (fun _ _ _ _ _ => pts_nil) (fun _ _ _ _ _ => (pe_tup (pa_cons (pe_ix (ixT K) (pv 2) pe_int (fun _ _ => rfl)) (pa_cons (pe_ifExp (pt_cmp (pc_din (hu_of hr) (pe_ix (ixT K) (pv 2) pe_int (fun _ _ => rfl)) (pv 1))) (pe_ix (ixT K) (pv 2) (pe_dget (hu_of hr) (pv 1) (pe_ix (ixT K) (pv 2) pe_int (fun _ _ => rfl)) (fun _ _ => rfl)) (fun _ _ => rfl)) pe_int) (pa_cons (pe_callB (lenS K) (by rfl) B.len (by decide +kernel) (pa_cons (pe_call G_children (hr.mono (by decide)) rfl m_children k_children b_children .nil pass0 (pa_cons (pv 2) pa_nil)) pa_nil)) pa_nil)))))) pa_nil))))), ?_⟩
  refine fun d hd => ⟨upd_same, [(Sum.inr ("var" : Str), .int 1), (Sum.inr ("made" : Str), .int 1)], rfl, (by show 2 ≤ 15; decide), ?_⟩
  have g1 : Same H (upd (upd H d (.dK [])) d (.dK (mergeK [] [(Sum.inr ("var" : Str), .int 1), (Sum.inr ("made" : Str), .int 1)]))) := same_set (same_upd hd _) hd _
  have hd1 : upd (upd H d (.dK [])) d (.dK (mergeK [] [(Sum.inr ("var" : Str), .int 1), (Sum.inr ("made" : Str), .int 1)])) d = some (.dK [(Sum.inr ("var" : Str), .int 1), (Sum.inr ("made" : Str), .int 1)]) := upd_same
  generalize upd (upd H d (.dK [])) d (.dK (mergeK [] [(Sum.inr ("var" : Str), .int 1), (Sum.inr ("made" : Str), .int 1)])) = H1 at g1 hd1
  refine ⟨_, rfl, T, v, rfl, hT.mono (tups_of g1), by omega, fun H2 p xs g2 _ hp hx => ?_⟩
  have hxl := hx.len
  rw [pre_len] at hxl
  have hd2 := g2 _ _ hd1
  refine ⟨p, rfl, ⟨xs, SqL.of hp⟩, fun D hD => lc_list (K := K) (a := p) (xs := xs) (fun i H3 => Same H2 H3 ∧ ∃ acc, H3 D = some (.lst acc) ∧ acc.length ≤ i) ⟨same_upd hD _, [], upd_same, Nat.le_refl _⟩ (fun i H3 _ z => SqL.of (z.1 _ _ hp)) ?_ ?_⟩
  · rintro i x H3 hix ⟨g3, acc, h3, hal⟩
    obtain ⟨t, hti, ht⟩ := hx.get hix
    have hil := lt_of_get hix
    have ht3 := ht.mono (tups_of g3)
    have ht' := ht3
    obtain ⟨a, ws, rfl, ⟨r, hS, hR⟩, _⟩ := ht3.out
    have i0 : atI (V.str t.lab.word :: r) 0 = some (V.str t.lab.word) := atI_nat (j := 0) rfl
    have fin : ∀ (H5 : Hp) (q5 : Addr), Same H3 H5 → ∃ acc, H5 D = some (.lst acc) ∧ acc.length < sizeLine ∧ Same H2 (upd H5 D (.lst (acc ++ [V.ref q5]))) ∧ ∃ acc', upd H5 D (.lst (acc ++ [V.ref q5])) D = some (.lst acc') ∧ acc'.length ≤ i + 1 := fun H5 q5 g5 =>
      ⟨acc, g5 _ _ h3, small1000 (by omega), same_set (g3.trans g5) hD _, _, upd_same, by rw [List.length_append, List.length_singleton]; omega⟩
    refine ⟨rfl, _, rfl, a, _, _, _, rfl, rfl, hS, i0, ?_⟩
    refine ⟨_, rfl, a, _, _, _, rfl, rfl, hS, i0, _, rfl, d, _, rfl, DGet.k (k := Sum.inr t.lab.word) (g3 _ _ hd2), ?_⟩
    obtain ⟨l, ts⟩ := t
    cases l with
    | var n =>
      obtain ⟨_, rfl⟩ := hR
      exact ⟨_, rfl, iteT ⟨_, rfl, _, rfl, _, rfl, a, _, _, _, rfl, rfl, hS, i0, d, _, rfl, DGet.k (k := Sum.inr ("var" : Str)) (g3 _ _ hd2), a, _, _, _, rfl, rfl, hS, atI_nat (j := 1) rfl, _, rfl, _, _, rfl, ht', fun H4 c cs g4 hc hkc => ⟨c, _, rfl, .inr hc, by show 3 ≤ sizeLine; decide, fun p5 hp5 => fin _ p5 (g4.trans (same_upd hp5 _))⟩⟩⟩
    | fn => exact ⟨_, rfl, iteF ⟨_, rfl, _, _, rfl, ht', fun H4 c cs g4 hc hkc => ⟨c, _, rfl, .inr hc, by show 3 ≤ sizeLine; decide, fun p5 hp5 => fin _ p5 (g4.trans (same_upd hp5 _))⟩⟩⟩
    | tup => exact ⟨_, rfl, iteF ⟨_, rfl, _, _, rfl, ht', fun H4 c cs g4 hc hkc => ⟨c, _, rfl, .inr hc, by show 3 ≤ sizeLine; decide, fun p5 hp5 => fin _ p5 (g4.trans (same_upd hp5 _))⟩⟩⟩
    | made n =>
      obtain ⟨b, rfl, _⟩ := hR
      exact ⟨_, rfl, iteT ⟨_, rfl, _, rfl, _, rfl, a, _, _, _, rfl, rfl, hS, i0, d, _, rfl, DGet.k (k := Sum.inr ("made" : Str)) (g3 _ _ hd2), a, _, _, _, rfl, rfl, hS, atI_nat (j := 1) rfl, _, rfl, _, _, rfl, ht', fun H4 c cs g4 hc hkc => ⟨c, _, rfl, .inr hc, by show 3 ≤ sizeLine; decide, fun p5 hp5 => fin _ p5 (g4.trans (same_upd hp5 _))⟩⟩⟩
  · rintro H3 ⟨g3, acc, h3, hal⟩
    exact ⟨D, _, rfl, .inl ⟨SqL.of h3, fun l hl => q _ _ (g1.trans (g2.trans (g3.trans (same_upd hl _))))⟩⟩
end
end Lq
namespace Lq
open PySem L2
theorem dc_enumT {K : PySem.W.Frag} {a : Addr} {xs : List V} {g : TG} {tt : TT} {tk tv : TE} {vs : List Nat} {σ : St} {H1 : Hp} {D : Addr} {Qd : Hp → Prop} (Pv : Nat → Hp → Prop) (h0 : Pv 0 (upd H1 D (.dK [])))
    (hl : ∀ i H, Pv i H → SqT K H a xs)
    (hs : ∀ (i : Nat) (x : V) (T : Addr) (H : Hp), xs[i]? = some x → Pv i H → H T = none → g (.ref T) (wipe σ vs) (upd H T (.tup [.int (i : Nat), x])) fun σ2 H2 => wipe σ2 vs = wipe σ vs ∧ tt σ2 H2 fun b H3 =>
      if b = true then tk σ2 H3 fun y H4 => tv σ2 H4 fun z H5 => ∃ kvs k, y = kV k ∧ H5 D = some (.dK kvs) ∧ kvs.length < sizeLine ∧ Pv (i + 1) (upd H5 D (.dK (putK kvs k z))) else Pv (i + 1) H3)
    (hd : ∀ H, Pv xs.length H → Qd H) :
    ∃ W : Nat → Nat → Hp → Prop, (∃ m, W 0 m (upd H1 D (.dK []))) ∧ ∀ i m H, W i m H →
      (((IteT K a xs).stop i H ∧ Qd H) ∨ ((IteT K a xs).go i H ∧ ∃ Nx : Hp → Prop, (∀ H', Nx H' → ∃ m', m' < m ∧ W (i + 1) m' H') ∧ ∀ x H', (IteT K a xs).yld i H x H' → g x (wipe σ vs) H' fun σ2 H2 => wipe σ2 vs = wipe σ vs ∧ tt σ2 H2 fun b H3 =>
        if b = true then tk σ2 H3 fun y H4 => tv σ2 H4 fun z H5 => ∃ kvs k, y = kV k ∧ H5 D = some (.dK kvs) ∧ kvs.length < sizeLine ∧ Nx (upd H5 D (.dK (putK kvs k z))) else Nx H3)) := by
  refine ⟨fun i m H => m = xs.length - i ∧ i ≤ xs.length ∧ Pv i H, ⟨xs.length, rfl, Nat.zero_le _, h0⟩, ?_⟩
  rintro i m H ⟨rfl, hi, p⟩
  have sq := hl i H p
  rcases Nat.lt_or_ge i xs.length with lt | ge
  · refine .inr ⟨⟨sq, lt⟩, Pv (i + 1), fun H' p' => ⟨xs.length - (i + 1), by omega, rfl, lt, p'⟩, ?_⟩
    rintro x H' ⟨T, y, e, rfl, hT, rfl⟩
    exact hs i y T H e p hT
  · obtain rfl : i = xs.length := by omega
    exact .inl ⟨⟨sq, Nat.le_refl _⟩, hd H p⟩
theorem lc_enumT {K : PySem.W.Frag} {a : Addr} {xs : List V} {g : TG} {tt : TT} {te : TE} {vs : List Nat} {σ : St} {H1 : Hp} {D : Addr} {Qd : Hp → Prop} (Pv : Nat → Hp → Prop) (h0 : Pv 0 (upd H1 D (.lst [])))
    (hl : ∀ i H, Pv i H → SqT K H a xs)
    (hs : ∀ (i : Nat) (x : V) (T : Addr) (H : Hp), xs[i]? = some x → Pv i H → H T = none → g (.ref T) (wipe σ vs) (upd H T (.tup [.int (i : Nat), x])) fun σ2 H2 => wipe σ2 vs = wipe σ vs ∧ tt σ2 H2 fun b H3 =>
      if b = true then te σ2 H3 fun y H4 => ∃ acc, H4 D = some (.lst acc) ∧ acc.length < sizeLine ∧ Pv (i + 1) (upd H4 D (.lst (acc ++ [y]))) else Pv (i + 1) H3)
    (hd : ∀ H, Pv xs.length H → Qd H) :
    ∃ W : Nat → Nat → Hp → Prop, (∃ m, W 0 m (upd H1 D (.lst []))) ∧ ∀ i m H, W i m H →
      (((IteT K a xs).stop i H ∧ Qd H) ∨ ((IteT K a xs).go i H ∧ ∃ Nx : Hp → Prop, (∀ H', Nx H' → ∃ m', m' < m ∧ W (i + 1) m' H') ∧ ∀ x H', (IteT K a xs).yld i H x H' → g x (wipe σ vs) H' fun σ2 H2 => wipe σ2 vs = wipe σ vs ∧ tt σ2 H2 fun b H3 =>
        if b = true then te σ2 H3 fun y H4 => ∃ acc, H4 D = some (.lst acc) ∧ acc.length < sizeLine ∧ Nx (upd H4 D (.lst (acc ++ [y]))) else Nx H3)) := by
  refine ⟨fun i m H => m = xs.length - i ∧ i ≤ xs.length ∧ Pv i H, ⟨xs.length, rfl, Nat.zero_le _, h0⟩, ?_⟩
  rintro i m H ⟨rfl, hi, p⟩
  have sq := hl i H p
  rcases Nat.lt_or_ge i xs.length with lt | ge
  · refine .inr ⟨⟨sq, lt⟩, Pv (i + 1), fun H' p' => ⟨xs.length - (i + 1), by omega, rfl, lt, p'⟩, ?_⟩
    rintro x H' ⟨T, y, e, rfl, hT, rfl⟩
    exact hs i y T H e p hT
  · obtain rfl : i = xs.length := by omega
    exact .inl ⟨⟨sq, Nat.le_refl _⟩, hd H p⟩
section
variable {P : Program} {w : World} {K : PySem.W.Frag} {mg : Str → Option Value} {base : Heap} {C : Addr}
abbrev s_numbered : Stmt := top 33
theorem sc_numbered : FnScope ["variables", "number", "variable"] ["variables"] (defScope s_numbered) := ⟨rfl, rfl, rfl, by decide +kernel, rfl, by decide +kernel, by decide +kernel⟩
def spNumb (K : PySem.W.Frag) : Sp := fun vs H Q _ => ∃ (a : Addr) (ns : List Nat), vs = [.ref a] ∧ SqT K H a (natV ns) ∧ ns.Nodup ∧ ns.length ≤ 400 ∧
  ∀ (H' : Hp) (d : Addr) (kvs : List (Key × V)), Same H H' → H' d = some (.dK kvs) → (∀ j n : Nat, ns[j]? = some n → ∃ x, valV kvs (Sum.inl (n : Int)) = some x ∧ TyH K H' (tv j) x) → Q (.ref d) H'
theorem putK_len' (kvs : List (Key × V)) (k : Key) (x : V) : (putK kvs k x).length ≤ kvs.length + 1 := by
  unfold putK
  split
  · rw [List.length_map]
    omega
  · rw [List.length_append, List.length_singleton]
    omega
theorem nodup_ne {ns : List Nat} (h : ns.Nodup) {i j n m : Nat} (hi : ns[i]? = some n) (hj : ns[j]? = some m) (ne : i ≠ j) : ¬ n = m := fun e => by
  subst e
  obtain ⟨h1, e1⟩ := List.getElem?_eq_some_iff.mp hi
  obtain ⟨h2, e2⟩ := List.getElem?_eq_some_iff.mp hj
  have p := List.pairwise_iff_getElem.mp h
  rcases Nat.lt_or_gt_of_ne ne with lt | gt
  · exact p i j h1 h2 lt (e1.trans e2.symm)
  · exact p j i h2 h1 gt (e2.trans e1.symm)
theorem ok_numbered (A : At K mg "numbered" s_numbered ["variables"]) (B : Bi mg) : Has P w K mg base "numbered" ["variables"] 1 (spNumb K) := by
  refine .mk A fun f fd F => ?_
  refine F.ok sc_numbered (fun vs H Q E h => ?_) (fun cdv A outer s H vs Q E hr h => ?_)
  · obtain ⟨a, ns, rfl, _⟩ := h
    rfl
  obtain ⟨a, ns, rfl, ha, hnd, hl, q⟩ := h
  refine ⟨_, (pss_one (ps_ret (pe_dc (own := [("number", 1), ("variable", 2)]) (g := gTup _ 2 (gCons (gName 1) (gCons (gName 2) gNil))) (tt := tYes) (by rfl) sc_numbered.nd (pi_enumT (by rfl) B.enumerate (pa_cons (pv 0) pa_nil)) (blkOk_by (N := ["variables", "number", "variable"]) (sc := defScope s_numbered) (by decide +kernel)) (fun _ _ _ _ _ => (pg_tup rfl (pgs_cons (pg_name (i := 1) sc_numbered.nd rfl (Or.inl rfl)) (pgs_cons (pg_name (i := 2) sc_numbered.nd rfl (Or.inl rfl)) pgs_nil)))) (fun _ _ _ _ _ => pts_nil) (fun _ _ _ _ _ => (pv 2)) (fun _ _ _ _ _ => (pe_tup (pa_cons pe_str (pa_cons (pv 1) pa_nil))))))), ?_⟩
  refine ⟨_, rfl, a, _, rfl, ha, fun D hD => dc_enumT (K := K) (fun i H3 => Same H H3 ∧ ∃ kvs, H3 D = some (.dK kvs) ∧ kvs.length ≤ i ∧ ∀ j n : Nat, j < i → ns[j]? = some n → ∃ x, valV kvs (Sum.inl (n : Int)) = some x ∧ TyH K H3 (tv j) x)
    ⟨same_upd hD _, [], upd_same, Nat.le_refl _, fun j n h => absurd h (Nat.not_lt_zero j)⟩ (fun i H3 z => tups_of z.1 _ _ ha) ?_ ?_⟩
  · rintro i x T H3 hx ⟨g3, kvs, hd3, hkl, hk⟩ hT
    obtain ⟨n, hn, rfl⟩ := natV_at hx
    have hil := lt_of_get hn
    have w1 := same_upd hT (.tup [.int (i : Nat), .int (n : Int)])
    refine ⟨T, _, rfl, sq_new, rfl, _, _, rfl, _, _, rfl, rfl, rfl, _, rfl, _, rfl, z2, fun p hp => ?_⟩
    have w2 := same_upd hp (.tup [.str "var", .int (i : Nat)])
    have w3 := w1.trans w2
    have hd5 := w3 _ _ hd3
    have t5 := tups_dk (K := K) hd5 (.dK (putK kvs (Sum.inl (n : Int)) (.ref p)))
    refine ⟨kvs, Sum.inl (n : Int), rfl, hd5, small1000 (by omega), same_set (g3.trans w3) hD _, _, upd_same, ?_, fun j m hj hm => ?_⟩
    · have := putK_len' kvs (Sum.inl (n : Int)) (.ref p)
      omega
    · rw [valV_put]
      by_cases e : j = i
      · subst e
        rw [hn] at hm
        cases hm
        rw [if_pos rfl]
        exact ⟨_, rfl, TyH.var (t5 _ _ sq_new)⟩
      · have ne : ¬ ((Sum.inl (m : Int) : Key) = Sum.inl (n : Int)) := fun e2 => by
          injection e2 with e2
          exact nodup_ne hnd hm hn e (by omega)
        rw [if_neg ne]
        obtain ⟨x, h1, h2⟩ := hk j m (by omega) hm
        exact ⟨x, h1, (h2.mono (tups_of w3)).mono t5⟩
  · rintro H3 ⟨g3, kvs, hd3, hkl, hk⟩
    exact q H3 D kvs g3 hd3 fun j n h => hk j n (by rw [natV_len]; exact lt_of_get h) h
end
end Lq
namespace Lq
open PySem L2
/-! ### texts of types -/
abbrev dq : Str := "''"
abbrev sq1 : Str := "'"
def letT (n : Nat) : Str := ⟨#[97 + n % 26]⟩
def tailT (n : Nat) : Str := if n / 26 > 0 then toString ((n / 26 : Nat) : Int) else Str.empty
/-- a variable -/
def varT (ms : List Nat) (n : Nat) : Str := (if n ∈ ms then dq else sq1) ++ letT n ++ tailT n
def parT (b : Bool) (s : Str) : Str := if b = true then "(" ++ s ++ ")" else s
structure T3 where
  a : Str
  b : Str
  c : Str
def wrapT (nm : Nat → Str) (ms : List Nat) (l : Lab) (ks : List T3) (r : Nat) : Str := match l with
  | .var n => varT ms n
  | .fn => match ks with
    | [x, y] => parT (decide (0 < r)) (x.b ++ " -> " ++ y.a)
    | _ => Str.empty
  | .tup => match ks with
    | [] => "unit"
    | _ => parT (decide (1 < r)) (Str.join " * " (ks.map T3.c))
  | .made s => match ks with
    | [] => nm s
    | [x] => x.c ++ " " ++ nm s
    | _ => "(" ++ Str.join ", " (ks.map T3.a) ++ ") " ++ nm s
mutual
def Ty.tx (nm : Nat → Str) (ms : List Nat) : Ty → Nat → Str
  | .node l ts, r => wrapT nm ms l (Ty.txs nm ms ts) r
def Ty.txs (nm : Nat → Str) (ms : List Nat) : List Ty → List T3
  | [] => []
  | t :: r => ⟨Ty.tx nm ms t 0, Ty.tx nm ms t 1, Ty.tx nm ms t 2⟩ :: Ty.txs nm ms r
end
theorem tx_eq (nm : Nat → Str) (ms : List Nat) (T : Ty) (r : Nat) : T.tx nm ms r = wrapT nm ms T.lab (Ty.txs nm ms T.kids) r := by
  cases T
  rw [Ty.tx]
  rfl
theorem txs_nil (nm : Nat → Str) (ms : List Nat) : Ty.txs nm ms [] = [] := by rw [Ty.txs]
theorem txs_cons (nm : Nat → Str) (ms : List Nat) (t : Ty) (r : List Ty) : Ty.txs nm ms (t :: r) = ⟨t.tx nm ms 0, t.tx nm ms 1, t.tx nm ms 2⟩ :: Ty.txs nm ms r := by rw [Ty.txs]
theorem txs_map (nm : Nat → Str) (ms : List Nat) : ∀ (ts : List Ty), Ty.txs nm ms ts = ts.map fun t => ⟨t.tx nm ms 0, t.tx nm ms 1, t.tx nm ms 2⟩
  | [] => txs_nil nm ms
  | t :: r => by rw [txs_cons, txs_map nm ms r]; rfl
/-! ### tokens -/
inductive Tk where
  | lp | rp | cm | ar | st | unit | word (s : Nat) | post (s : Nat) | var (n : Nat)
  deriving DecidableEq
abbrev cs (s : Str) : List Nat := s.cps.toList
theorem cs_app (a b : Str) : cs (a ++ b) = cs a ++ cs b := by
  show (a.cps ++ b.cps).toList = _
  exact Array.toList_append
def rd (nm : Nat → Str) (ms : List Nat) : Tk → List Nat
  | .lp => [40]
  | .rp => [41]
  | .cm => [44, 32]
  | .ar => [32, 45, 62, 32]
  | .st => [32, 42, 32]
  | .unit => [117, 110, 105, 116]
  | .word s => cs (nm s)
  | .post s => 32 :: cs (nm s)
  | .var n => cs (varT ms n)
def rds (nm : Nat → Str) (ms : List Nat) (ts : List Tk) : List Nat := (ts.map (rd nm ms)).flatten
theorem rds_nil (nm : Nat → Str) (ms : List Nat) : rds nm ms [] = [] := rfl
theorem rds_cons (nm : Nat → Str) (ms : List Nat) (t : Tk) (r : List Tk) : rds nm ms (t :: r) = rd nm ms t ++ rds nm ms r := rfl
theorem rds_app (nm : Nat → Str) (ms : List Nat) (a b : List Tk) : rds nm ms (a ++ b) = rds nm ms a ++ rds nm ms b := by
  unfold rds
  rw [List.map_append, List.flatten_append]
def parK (b : Bool) (s : List Tk) : List Tk := if b = true then .lp :: (s ++ [.rp]) else s
structure K3 where
  a : List Tk
  b : List Tk
  c : List Tk
def sepK (x : Tk) : List (List Tk) → List Tk
  | [] => []
  | [p] => p
  | p :: q :: r => p ++ x :: sepK x (q :: r)
def wrapK (l : Lab) (ks : List K3) (r : Nat) : List Tk := match l with
  | .var n => [.var n]
  | .fn => match ks with
    | [x, y] => parK (decide (0 < r)) (x.b ++ .ar :: y.a)
    | _ => []
  | .tup => match ks with
    | [] => [.unit]
    | _ => parK (decide (1 < r)) (sepK .st (ks.map K3.c))
  | .made s => match ks with
    | [] => [.word s]
    | [x] => x.c ++ [.post s]
    | _ => .lp :: (sepK .cm (ks.map K3.a) ++ [.rp, .post s])
mutual
def Ty.tk : Ty → Nat → List Tk
  | .node l ts, r => wrapK l (Ty.tks ts) r
def Ty.tks : List Ty → List K3
  | [] => []
  | t :: r => ⟨Ty.tk t 0, Ty.tk t 1, Ty.tk t 2⟩ :: Ty.tks r
end
theorem tk_eq (T : Ty) (r : Nat) : T.tk r = wrapK T.lab (Ty.tks T.kids) r := by
  cases T
  rw [Ty.tk]
  rfl
theorem tks_nil : Ty.tks [] = [] := by rw [Ty.tks]
theorem tks_cons (t : Ty) (r : List Ty) : Ty.tks (t :: r) = ⟨t.tk 0, t.tk 1, t.tk 2⟩ :: Ty.tks r := by rw [Ty.tks]
theorem tks_map : ∀ (ts : List Ty), Ty.tks ts = ts.map fun t => ⟨t.tk 0, t.tk 1, t.tk 2⟩
  | [] => tks_nil
  | t :: r => by rw [tks_cons, tks_map r]; rfl
theorem cs_lp : cs "(" = [40] := by decide +kernel
theorem cs_rp : cs ")" = [41] := by decide +kernel
theorem cs_cm : cs ", " = [44, 32] := by decide +kernel
theorem cs_ar : cs " -> " = [32, 45, 62, 32] := by decide +kernel
theorem cs_st : cs " * " = [32, 42, 32] := by decide +kernel
theorem cs_rs : cs ") " = [41, 32] := by decide +kernel
theorem cs_bl : cs " " = [32] := by decide +kernel
theorem cs_unit : cs "unit" = [117, 110, 105, 116] := by decide +kernel
theorem cs_par (nm : Nat → Str) (ms : List Nat) (b : Bool) (s : Str) (k : List Tk) (h : cs s = rds nm ms k) : cs (parT b s) = rds nm ms (parK b k) := by
  cases b with
  | false => exact h
  | true =>
    show cs ("(" ++ s ++ ")") = rds nm ms (.lp :: (k ++ [.rp]))
    rw [cs_app, cs_app, rds_cons, rds_app, h, cs_lp, cs_rp]
    rfl
theorem cs_join (nm : Nat → Str) (ms : List Nat) {sep : Str} {x : Tk} (hx : cs sep = rd nm ms x) : ∀ (ss : List Str) (ks : List (List Tk)), ss.map cs = ks.map (rds nm ms) → cs (Str.join sep ss) = rds nm ms (sepK x ks)
  | [], [], _ => rfl
  | [], _ :: _, h => nomatch h
  | _ :: _, [], h => nomatch h
  | [a], [k], h => by
    injection h with h1 h2
  | [a], _ :: _ :: _, h => by
    injection h with _ h2
    cases h2
  | _ :: _ :: _, [k], h => by
    injection h with _ h2
    cases h2
  | a :: b :: r, k :: l :: q, h => by
    injection h with h1 h2
    show cs (a ++ sep ++ Str.join sep (b :: r)) = rds nm ms (k ++ x :: sepK x (l :: q))
    rw [cs_app, cs_app, cs_join nm ms hx (b :: r) (l :: q) h2, rds_app, rds_cons, h1, hx, List.append_assoc]
theorem map_len {α β γ : Type} {f : α → γ} {g : β → γ} {a : List α} {b : List β} (h : a.map f = b.map g) : a.length = b.length := by
  have := congrArg List.length h
  rwa [List.length_map, List.length_map] at this
theorem cs_wrap (nm : Nat → Str) (ms : List Nat) (l : Lab) : ∀ (ts : List T3) (ks : List K3), ts.map (fun t => (cs t.a, cs t.b, cs t.c)) = ks.map (fun k => (rds nm ms k.a, rds nm ms k.b, rds nm ms k.c)) → ∀ r, cs (wrapT nm ms l ts r) = rds nm ms (wrapK l ks r) := by
  intro ts ks h r
  have ha : (ts.map T3.a).map cs = (ks.map K3.a).map (rds nm ms) := by
    have := congrArg (List.map fun p => p.1) h
    simpa [List.map_map, Function.comp_def] using this
  have hc : (ts.map T3.c).map cs = (ks.map K3.c).map (rds nm ms) := by
    have := congrArg (List.map fun p => p.2.2) h
    simpa [List.map_map, Function.comp_def] using this
  cases l with
  | var n => show cs (varT ms n) = rds nm ms [.var n]; rw [rds_cons, rds_nil, List.append_nil]; rfl
  | fn =>
    match ts, ks, h with
    | [], [], _ => rfl
    | [_], [_], _ => rfl
    | _ :: _ :: _ :: _, _ :: _ :: _ :: _, _ => rfl
    | [_], _ :: _ :: _, h => exact absurd (map_len h) (by simp)
    | [_, _], [_], h => exact absurd (map_len h) (by simp)
    | [_, _], _ :: _ :: _ :: _, h => exact absurd (map_len h) (by simp)
    | _ :: _ :: _ :: _, [_], h => exact absurd (map_len h) (by simp)
    | _ :: _ :: _ :: _, [_, _], h => exact absurd (map_len h) (by simp)
    | [x, y], [k, m], h =>
      injection h with h1 h2
      injection h2 with h2 _
      have e1 : cs x.b = rds nm ms k.b := (Prod.ext_iff.mp (Prod.ext_iff.mp h1).2).1
      have e2 : cs y.a = rds nm ms m.a := (Prod.ext_iff.mp h2).1
      refine cs_par nm ms _ _ _ ?_
      rw [cs_app, cs_app, rds_app, rds_cons, e1, e2, cs_ar, List.append_assoc]
      rfl
  | tup =>
    match ts, ks, h with
    | [], [], _ => show cs "unit" = rds nm ms [.unit]; rw [cs_unit]; rfl
    | x :: ts, k :: ks, h => exact cs_par nm ms _ _ _ (cs_join nm ms cs_st _ _ hc)
  | made s =>
    match ts, ks, h with
    | [], [], _ => show cs (nm s) = rds nm ms [.word s]; rw [rds_cons, rds_nil, List.append_nil]; rfl
    | [x], [k], h =>
      injection h with h1 _
      have e1 : cs x.c = rds nm ms k.c := (Prod.ext_iff.mp (Prod.ext_iff.mp h1).2).2
      show cs (x.c ++ " " ++ nm s) = rds nm ms (k.c ++ [.post s])
      rw [cs_app, cs_app, rds_app, e1, cs_bl, List.append_assoc, rds_cons, rds_nil, List.append_nil]
      rfl
    | [_], _ :: _ :: _, h => exact absurd (map_len h) (by simp)
    | _ :: _ :: _, [_], h => exact absurd (map_len h) (by simp)
    | x :: y :: ts, k :: m :: ks, h =>
      show cs ("(" ++ Str.join ", " _ ++ ") " ++ nm s) = rds nm ms (.lp :: (sepK .cm _ ++ [.rp, .post s]))
      rw [cs_app, cs_app, cs_app, cs_join nm ms (x := .cm) cs_cm _ _ ha, rds_cons, rds_app, cs_lp, cs_rs, rds_cons, rds_cons, rds_nil, List.append_nil]
      simp only [List.append_assoc]
      rfl
mutual
theorem cs_tx (nm : Nat → Str) (ms : List Nat) : ∀ (T : Ty) (r : Nat), cs (T.tx nm ms r) = rds nm ms (T.tk r)
  | .node l ts, r => by
    rw [Ty.tx, Ty.tk]
    exact cs_wrap nm ms l _ _ (cs_txs nm ms ts) r
theorem cs_txs (nm : Nat → Str) (ms : List Nat) : ∀ (ts : List Ty), (Ty.txs nm ms ts).map (fun t => (cs t.a, cs t.b, cs t.c)) = (Ty.tks ts).map (fun k => (rds nm ms k.a, rds nm ms k.b, rds nm ms k.c))
  | [] => by rw [Ty.txs, Ty.tks]; rfl
  | t :: r => by
    rw [Ty.txs, Ty.tks, List.map_cons, List.map_cons, cs_txs nm ms r, cs_tx nm ms t 0, cs_tx nm ms t 1, cs_tx nm ms t 2]
end
end Lq
namespace Lq
open PySem L2
/-! ### reading tokens back -/
def posts : Ty → List Tk → Ty × List Tk
  | a, .post s :: r => posts (.node (.made s) [a]) r
  | a, r => (a, r)
def noPost (r : List Tk) : Prop := ∀ s q, r ≠ .post s :: q
def noSt (r : List Tk) : Prop := ∀ q, r ≠ .st :: q
def noAr (r : List Tk) : Prop := ∀ q, r ≠ .ar :: q
theorem posts_no (a : Ty) {r : List Tk} (h : noPost r) : posts a r = (a, r) := by
  match r, h with
  | [], _ => rfl
  | .post s :: q, h => exact absurd rfl (h s q)
  | .lp :: _, _ | .rp :: _, _ | .cm :: _, _ | .ar :: _, _ | .st :: _, _ | .unit :: _, _ | .word _ :: _, _ | .var _ :: _, _ => rfl
def one (acc : List Ty) : Ty := match acc with
  | [a] => a
  | _ => .node .tup acc
mutual
def p0 : Nat → List Tk → Option (Ty × List Tk)
  | 0, _ => none
  | k + 1, ts => match p1 k ts with
    | none => none
    | some (a, .ar :: r) => match p0 k r with
      | none => none
      | some (b, q) => some (.node .fn [a, b], q)
    | some z => some z
def p1 : Nat → List Tk → Option (Ty × List Tk)
  | 0, _ => none
  | k + 1, ts => match p2 k ts with
    | none => none
    | some (a, r) => p1s k [a] r
def p1s : Nat → List Ty → List Tk → Option (Ty × List Tk)
  | 0, _, _ => none
  | k + 1, acc, .st :: r => match p2 k r with
    | none => none
    | some (b, q) => p1s k (acc ++ [b]) q
  | _ + 1, acc, r => some (one acc, r)
def p2 : Nat → List Tk → Option (Ty × List Tk)
  | 0, _ => none
  | k + 1, ts => match pA k ts with
    | none => none
    | some (a, r) => some (posts a r)
def pA : Nat → List Tk → Option (Ty × List Tk)
  | 0, _ => none
  | _ + 1, .var n :: r => some (.node (.var n) [], r)
  | _ + 1, .unit :: r => some (.node .tup [], r)
  | _ + 1, .word s :: r => some (.node (.made s) [], r)
  | k + 1, .lp :: r => match p0 k r with
    | none => none
    | some (a, .rp :: q) => some (a, q)
    | some (a, .cm :: q) => pC k [a] q
    | some _ => none
  | _ + 1, _ => none
def pC : Nat → List Ty → List Tk → Option (Ty × List Tk)
  | 0, _, _ => none
  | k + 1, acc, ts => match p0 k ts with
    | none => none
    | some (b, .cm :: q) => pC k (acc ++ [b]) q
    | some (b, .rp :: .post s :: q) => some (.node (.made s) (acc ++ [b]), q)
    | some _ => none
end
/-- from some number of turns on -/
def Ev (f : Nat → Option (Ty × List Tk)) (z : Ty × List Tk) : Prop := ∃ N, ∀ k, N ≤ k → f k = some z
def S2 (T : Ty) : Prop := ∀ rest, Ev (fun k => p2 k (T.tk 2 ++ rest)) (posts T rest)
def S1 (T : Ty) : Prop := ∀ rest, noPost rest → noSt rest → Ev (fun k => p1 k (T.tk 1 ++ rest)) (T, rest)
def S0 (T : Ty) : Prop := ∀ rest, noPost rest → noSt rest → noAr rest → Ev (fun k => p0 k (T.tk 0 ++ rest)) (T, rest)
theorem ev_succ {f : Nat → Option (Ty × List Tk)} {z : Ty × List Tk} (N : Nat) (h : ∀ k, N ≤ k → f (k + 1) = some z) : Ev f z := ⟨N + 1, fun k hk => by
  obtain ⟨j, rfl⟩ : ∃ j, k = j + 1 := ⟨k - 1, by omega⟩
  exact h j (by omega)⟩
theorem p0_of {ts r : List Tk} {a : Ty} (h : Ev (fun k => p1 k ts) (a, r)) (ha : noAr r) : Ev (fun k => p0 k ts) (a, r) := by
  obtain ⟨N, hN⟩ := h
  dsimp only at hN
  refine ev_succ N fun k hk => ?_
  show p0 (k + 1) ts = _
  rw [p0, hN k hk]
  match r, ha with
  | [], _ => rfl
  | .ar :: q, ha => exact absurd rfl (ha q)
  | .lp :: _, _ | .rp :: _, _ | .cm :: _, _ | .post _ :: _, _ | .st :: _, _ | .unit :: _, _ | .word _ :: _, _ | .var _ :: _, _ => rfl
theorem p0_fn {ts r q : List Tk} {a b : Ty} (h : Ev (fun k => p1 k ts) (a, .ar :: r)) (h2 : Ev (fun k => p0 k r) (b, q)) : Ev (fun k => p0 k ts) (.node .fn [a, b], q) := by
  obtain ⟨N, hN⟩ := h
  dsimp only at hN
  obtain ⟨M, hM⟩ := h2
  dsimp only at hM
  refine ev_succ (max N M) fun k hk => ?_
  show p0 (k + 1) ts = _
  rw [p0, hN k (by omega)]
  show (match p0 k r with | none => none | some (b, q) => some (Ty.node .fn [a, b], q)) = _
  rw [hM k (by omega)]
theorem p1s_end {acc : List Ty} {r : List Tk} (h : noSt r) : Ev (fun k => p1s k acc r) (one acc, r) := by
  refine ev_succ 0 fun k _ => ?_
  show p1s (k + 1) acc r = _
  match r, h with
  | [], _ => rw [p1s]; exact fun _ e => nomatch e
  | .st :: q, h => exact absurd rfl (h q)
  | .lp :: _, _ | .rp :: _, _ | .cm :: _, _ | .post _ :: _, _ | .ar :: _, _ | .unit :: _, _ | .word _ :: _, _ | .var _ :: _, _ => rw [p1s]; exact fun _ e => nomatch e
theorem p1s_more {acc : List Ty} {r q : List Tk} {b : Ty} {z : Ty × List Tk} (h : Ev (fun k => p2 k r) (b, q)) (h2 : Ev (fun k => p1s k (acc ++ [b]) q) z) : Ev (fun k => p1s k acc (.st :: r)) z := by
  obtain ⟨N, hN⟩ := h
  dsimp only at hN
  obtain ⟨M, hM⟩ := h2
  dsimp only at hM
  refine ev_succ (max N M) fun k hk => ?_
  show p1s (k + 1) acc (.st :: r) = _
  rw [p1s, hN k (by omega)]
  exact hM k (by omega)
theorem p1_of {ts r : List Tk} {a : Ty} {z : Ty × List Tk} (h : Ev (fun k => p2 k ts) (a, r)) (h2 : Ev (fun k => p1s k [a] r) z) : Ev (fun k => p1 k ts) z := by
  obtain ⟨N, hN⟩ := h
  dsimp only at hN
  obtain ⟨M, hM⟩ := h2
  dsimp only at hM
  refine ev_succ (max N M) fun k hk => ?_
  show p1 (k + 1) ts = _
  rw [p1, hN k (by omega)]
  exact hM k (by omega)
theorem p2_of {ts r : List Tk} {a : Ty} (h : Ev (fun k => pA k ts) (a, r)) : Ev (fun k => p2 k ts) (posts a r) := by
  obtain ⟨N, hN⟩ := h
  dsimp only at hN
  refine ev_succ N fun k hk => ?_
  show p2 (k + 1) ts = _
  rw [p2, hN k hk]
theorem pA_par {ts q : List Tk} {a : Ty} (h : Ev (fun k => p0 k ts) (a, .rp :: q)) : Ev (fun k => pA k (.lp :: ts)) (a, q) := by
  obtain ⟨N, hN⟩ := h
  dsimp only at hN
  refine ev_succ N fun k hk => ?_
  show pA (k + 1) (.lp :: ts) = _
  rw [pA, hN k hk]
theorem pA_many {ts q : List Tk} {a : Ty} {z : Ty × List Tk} (h : Ev (fun k => p0 k ts) (a, .cm :: q)) (h2 : Ev (fun k => pC k [a] q) z) : Ev (fun k => pA k (.lp :: ts)) z := by
  obtain ⟨N, hN⟩ := h
  dsimp only at hN
  obtain ⟨M, hM⟩ := h2
  dsimp only at hM
  refine ev_succ (max N M) fun k hk => ?_
  show pA (k + 1) (.lp :: ts) = _
  rw [pA, hN k (by omega)]
  exact hM k (by omega)
theorem pC_more {ts q : List Tk} {acc : List Ty} {b : Ty} {z : Ty × List Tk} (h : Ev (fun k => p0 k ts) (b, .cm :: q)) (h2 : Ev (fun k => pC k (acc ++ [b]) q) z) : Ev (fun k => pC k acc ts) z := by
  obtain ⟨N, hN⟩ := h
  dsimp only at hN
  obtain ⟨M, hM⟩ := h2
  dsimp only at hM
  refine ev_succ (max N M) fun k hk => ?_
  show pC (k + 1) acc ts = _
  rw [pC, hN k (by omega)]
  exact hM k (by omega)
theorem pC_end {ts q : List Tk} {acc : List Ty} {b : Ty} {s : Nat} (h : Ev (fun k => p0 k ts) (b, .rp :: .post s :: q)) : Ev (fun k => pC k acc ts) (.node (.made s) (acc ++ [b]), q) := by
  obtain ⟨N, hN⟩ := h
  dsimp only at hN
  refine ev_succ N fun k hk => ?_
  show pC (k + 1) acc ts = _
  rw [pC, hN k hk]
theorem no3 {x : Tk} {r : List Tk} (h1 : ∀ s, x ≠ .post s) (h2 : x ≠ .st) (h3 : x ≠ .ar) : noPost (x :: r) ∧ noSt (x :: r) ∧ noAr (x :: r) :=
  ⟨fun s q e => h1 s (by injection e), fun q e => h2 (by injection e), fun q e => h3 (by injection e)⟩
theorem no_rp (r : List Tk) : noPost (.rp :: r) ∧ noSt (.rp :: r) ∧ noAr (.rp :: r) := no3 (fun _ e => nomatch e) (fun e => nomatch e) (fun e => nomatch e)
theorem no_cm (r : List Tk) : noPost (.cm :: r) ∧ noSt (.cm :: r) ∧ noAr (.cm :: r) := no3 (fun _ e => nomatch e) (fun e => nomatch e) (fun e => nomatch e)
/-- in parentheses -/
theorem par_S2 {T : Ty} (h : S0 T) (e : T.tk 2 = .lp :: (T.tk 0 ++ [.rp])) : S2 T := fun rest => by
  rw [e, List.cons_append, List.append_assoc]
  exact p2_of (pA_par (h (.rp :: rest) (no_rp _).1 (no_rp _).2.1 (no_rp _).2.2))
theorem S1_of {T : Ty} (h : S2 T) (e : T.tk 1 = T.tk 2) : S1 T := fun rest h1 h2 => by
  rw [e]
  have := h rest
  rw [posts_no T h1] at this
  exact p1_of this (p1s_end h2)
theorem S0_of {T : Ty} (h : S1 T) (e : T.tk 0 = T.tk 1) : S0 T := fun rest h1 h2 h3 => by
  rw [e]
  exact p0_of (h rest h1 h2) h3
theorem atom_S2 {T : Ty} {x : Tk} (e : T.tk 2 = [x]) (h : ∀ k r, pA (k + 1) (x :: r) = some (T, r)) : S2 T := fun rest => by
  rw [e]
  exact p2_of (ev_succ 0 fun k _ => h k rest)
/-- a row of parts with stars -/
theorem stars {rest : List Tk} (h1 : noPost rest) (h2 : noSt rest) : ∀ (ts : List Ty) (acc : List Ty) (t : Ty), S2 t → (∀ u ∈ ts, S2 u) → Ev (fun k => p1s k acc (.st :: (sepK .st ((t :: ts).map fun u => u.tk 2) ++ rest))) (one (acc ++ t :: ts), rest)
  | [], acc, t, ht, _ => by
    have := ht rest
    rw [posts_no t h1] at this
    exact p1s_more this (p1s_end h2)
  | u :: ts, acc, t, ht, hs => by
    have h3 := no3 (x := .st) (r := sepK .st ((u :: ts).map fun u => u.tk 2) ++ rest) (fun _ e => nomatch e)
    have e : sepK .st ((t :: u :: ts).map fun u => u.tk 2) ++ rest = t.tk 2 ++ .st :: (sepK .st ((u :: ts).map fun u => u.tk 2) ++ rest) := by
      show (t.tk 2 ++ .st :: sepK .st _) ++ rest = _
      rw [List.append_assoc]
      rfl
    rw [e]
    have := ht (.st :: (sepK .st ((u :: ts).map fun u => u.tk 2) ++ rest))
    rw [posts_no t (fun s q e => by cases e)] at this
    refine p1s_more this ?_
    have := stars h1 h2 ts (acc ++ [t]) u (hs u List.mem_cons_self) fun v hv => hs v (List.mem_cons_of_mem _ hv)
    rwa [List.append_assoc] at this
/-- a row of parts with commas -/
theorem commas {rest : List Tk} {s : Nat} : ∀ (ts : List Ty) (acc : List Ty) (t : Ty), S0 t → (∀ u ∈ ts, S0 u) → Ev (fun k => pC k acc (sepK .cm ((t :: ts).map fun u => u.tk 0) ++ .rp :: .post s :: rest)) (.node (.made s) (acc ++ t :: ts), rest)
  | [], acc, t, ht, _ => pC_end (ht _ (no_rp _).1 (no_rp _).2.1 (no_rp _).2.2)
  | u :: ts, acc, t, ht, hs => by
    have e : sepK .cm ((t :: u :: ts).map fun u => u.tk 0) ++ .rp :: .post s :: rest = t.tk 0 ++ .cm :: (sepK .cm ((u :: ts).map fun u => u.tk 0) ++ .rp :: .post s :: rest) := by
      show (t.tk 0 ++ .cm :: sepK .cm _) ++ _ = _
      rw [List.append_assoc]
      rfl
    rw [e]
    refine pC_more (ht _ (no_cm _).1 (no_cm _).2.1 (no_cm _).2.2) ?_
    have := commas (rest := rest) (s := s) ts (acc ++ [t]) u (hs u List.mem_cons_self) fun v hv => hs v (List.mem_cons_of_mem _ hv)
    rwa [List.append_assoc] at this
def ShN (l : Lab) (n : Nat) : Prop := match l with
  | .var _ => n = 0
  | .fn => n = 2
  | .tup => n ≠ 1
  | .made _ => True
mutual
def Ty.Sh : Ty → Prop
  | .node l ts => ShN l ts.length ∧ Ty.Shs ts
def Ty.Shs : List Ty → Prop
  | [] => True
  | t :: r => Ty.Sh t ∧ Ty.Shs r
end
theorem kc (ts : List Ty) : (Ty.tks ts).map K3.c = ts.map fun u => u.tk 2 := by rw [tks_map, List.map_map]; rfl
theorem ka (ts : List Ty) : (Ty.tks ts).map K3.a = ts.map fun u => u.tk 0 := by rw [tks_map, List.map_map]; rfl
mutual
theorem reads : ∀ (T : Ty), T.Sh → S0 T ∧ S1 T ∧ S2 T
  | .node l ts, h => by
    rw [Ty.Sh] at h
    obtain ⟨hn, hs⟩ := h
    have ih := readss ts hs
    have all2 : S2 (.node l ts) → (Ty.node l ts).tk 0 = (Ty.node l ts).tk 2 → (Ty.node l ts).tk 1 = (Ty.node l ts).tk 2 → S0 (.node l ts) ∧ S1 (.node l ts) ∧ S2 (.node l ts) := fun h e0 e1 =>
      ⟨S0_of (S1_of h e1) (e0.trans e1.symm), S1_of h e1, h⟩
    cases l with
    | var n =>
      have e : ts = [] := List.eq_nil_of_length_eq_zero hn
      subst e
      refine all2 (atom_S2 (x := .var n) (by rw [Ty.tk]; rfl) fun k r => by rw [pA]) ?_ ?_ <;> rw [Ty.tk, Ty.tk] <;> rfl
    | fn =>
      match ts, hn, ih with
      | [a, b], _, ih =>
        have e0 : (Ty.node .fn [a, b]).tk 0 = a.tk 1 ++ .ar :: b.tk 0 := by rw [Ty.tk, tks_cons, tks_cons, tks_nil]; rfl
        have e1 : (Ty.node .fn [a, b]).tk 1 = .lp :: ((Ty.node .fn [a, b]).tk 0 ++ [.rp]) := by rw [e0, Ty.tk, tks_cons, tks_cons, tks_nil]; rfl
        have e2 : (Ty.node .fn [a, b]).tk 2 = .lp :: ((Ty.node .fn [a, b]).tk 0 ++ [.rp]) := by rw [e0, Ty.tk, tks_cons, tks_cons, tks_nil]; rfl
        have s0 : S0 (.node .fn [a, b]) := fun rest h1 h2 h3 => by
          rw [e0, List.append_assoc]
          exact p0_fn ((ih a List.mem_cons_self).2.1 (.ar :: (b.tk 0 ++ rest)) (fun s q e => by cases e) (fun q e => by cases e)) ((ih b (List.mem_cons_of_mem _ List.mem_cons_self)).1 rest h1 h2 h3)
        have s2 := par_S2 s0 e2
        exact ⟨s0, S1_of s2 (e1.trans e2.symm), s2⟩
    | tup =>
      match ts, hn, ih with
      | [], _, _ => refine all2 (atom_S2 (x := .unit) (by rw [Ty.tk, tks_nil]; rfl) fun k r => by rw [pA]) ?_ ?_ <;> rw [Ty.tk, Ty.tk, tks_nil] <;> rfl
      | [_], hn, _ => exact absurd rfl hn
      | a :: b :: ts, _, ih =>
        have e0 : (Ty.node .tup (a :: b :: ts)).tk 0 = sepK .st ((a :: b :: ts).map fun u => u.tk 2) := by rw [Ty.tk, ← kc, tks_cons, tks_cons]; rfl
        have e1 : (Ty.node .tup (a :: b :: ts)).tk 1 = (Ty.node .tup (a :: b :: ts)).tk 0 := by rw [e0, Ty.tk, ← kc, tks_cons, tks_cons]; rfl
        have e2 : (Ty.node .tup (a :: b :: ts)).tk 2 = .lp :: ((Ty.node .tup (a :: b :: ts)).tk 0 ++ [.rp]) := by rw [e0, Ty.tk, ← kc, tks_cons, tks_cons]; rfl
        have s1 : S1 (.node .tup (a :: b :: ts)) := fun rest h1 h2 => by
          rw [e1, e0]
          have ee : sepK .st ((a :: b :: ts).map fun u => u.tk 2) ++ rest = a.tk 2 ++ .st :: (sepK .st ((b :: ts).map fun u => u.tk 2) ++ rest) := by
            show (a.tk 2 ++ .st :: sepK .st _) ++ rest = _
            rw [List.append_assoc]
            rfl
          rw [ee]
          have ha := (ih a List.mem_cons_self).2.2 (.st :: (sepK .st ((b :: ts).map fun u => u.tk 2) ++ rest))
          rw [posts_no a (fun s q e => by cases e)] at ha
          refine p1_of ha ?_
          exact stars h1 h2 ts [a] b (ih b (List.mem_cons_of_mem _ List.mem_cons_self)).2.2 fun u hu => (ih u (List.mem_cons_of_mem _ (List.mem_cons_of_mem _ hu))).2.2
        have s0 := S0_of s1 e1.symm
        exact ⟨s0, s1, par_S2 s0 e2⟩
    | made s =>
      match ts, ih with
      | [], _ => refine all2 (atom_S2 (x := .word s) (by rw [Ty.tk, tks_nil]; rfl) fun k r => by rw [pA]) ?_ ?_ <;> rw [Ty.tk, Ty.tk, tks_nil] <;> rfl
      | [a], ih =>
        have e : ∀ r, (Ty.node (.made s) [a]).tk r = a.tk 2 ++ [.post s] := fun r => by rw [Ty.tk, tks_cons, tks_nil]; rfl
        refine all2 (fun rest => ?_) (by rw [e, e]) (by rw [e, e])
        rw [e, List.append_assoc]
        exact (ih a List.mem_cons_self).2.2 (.post s :: rest)
      | a :: b :: ts, ih =>
        have e : ∀ r, (Ty.node (.made s) (a :: b :: ts)).tk r = .lp :: (sepK .cm ((a :: b :: ts).map fun u => u.tk 0) ++ [.rp, .post s]) := fun r => by rw [Ty.tk, ← ka, tks_cons, tks_cons]; rfl
        refine all2 (fun rest => ?_) (by rw [e, e]) (by rw [e, e])
        rw [e]
        have ee : (.lp :: (sepK .cm ((a :: b :: ts).map fun u => u.tk 0) ++ [.rp, .post s])) ++ rest = .lp :: (a.tk 0 ++ .cm :: (sepK .cm ((b :: ts).map fun u => u.tk 0) ++ .rp :: .post s :: rest)) := by
          show Tk.lp :: (((a.tk 0 ++ .cm :: sepK .cm _) ++ _) ++ rest) = _
          rw [List.append_assoc, List.append_assoc]
          rfl
        rw [ee]
        have ha := (ih a List.mem_cons_self).1 _ (no_cm (sepK .cm ((b :: ts).map fun u => u.tk 0) ++ .rp :: .post s :: rest)).1 (no_cm _).2.1 (no_cm _).2.2
        exact p2_of (pA_many ha (commas ts [a] b (ih b (List.mem_cons_of_mem _ List.mem_cons_self)).1 fun u hu => (ih u (List.mem_cons_of_mem _ (List.mem_cons_of_mem _ hu))).1))
theorem readss : ∀ (ts : List Ty), Ty.Shs ts → ∀ t ∈ ts, S0 t ∧ S1 t ∧ S2 t
  | [], _, t, m => nomatch m
  | u :: r, h, t, m => by
    rw [Ty.Shs] at h
    rcases List.mem_cons.mp m with e | m
    · rw [e]
      exact reads u h.1
    · exact readss r h.2 t m
end
/-- unlike types have unlike rows of tokens -/
theorem tk_inj {T U : Ty} (h : T.Sh) (h' : U.Sh) (e : T.tk 0 = U.tk 0) : T = U := by
  obtain ⟨N, hN⟩ := (reads T h).1 [] (fun _ _ e => nomatch e) (fun _ e => nomatch e) (fun _ e => nomatch e)
  obtain ⟨M, hM⟩ := (reads U h').1 [] (fun _ _ e => nomatch e) (fun _ e => nomatch e) (fun _ e => nomatch e)
  have h1 := hN (max N M) (by omega)
  have h2 := hM (max N M) (by omega)
  have h1 : p0 (max N M) (T.tk 0 ++ []) = some (T, []) := h1
  have h2 : p0 (max N M) (U.tk 0 ++ []) = some (U, []) := h2
  rw [e, h2] at h1
  injection h1 with h1
  injection h1 with h1 _
  exact h1.symm
end Lq
namespace Lq
open PySem L2
/-! ### rows of signs have one row of tokens -/
abbrev isL (c : Nat) : Prop := 97 ≤ c ∧ c ≤ 122
abbrev isD (c : Nat) : Prop := 48 ≤ c ∧ c ≤ 57
/-- a row does not begin with such a sign -/
def NoHd (P : Nat → Prop) (r : List Nat) : Prop := ∀ c q, r = c :: q → ¬ P c
theorem run_inj {P : Nat → Prop} : ∀ {a b r q : List Nat}, (∀ c ∈ a, P c) → (∀ c ∈ b, P c) → NoHd P r → NoHd P q → a ++ r = b ++ q → a = b ∧ r = q
  | [], [], _, _, _, _, _, _, e => ⟨rfl, e⟩
  | [], c :: b, r, q, _, hb, hr, _, e => absurd (hb c List.mem_cons_self) (hr c (b ++ q) e)
  | c :: a, [], r, q, ha, _, _, hq, e => absurd (ha c List.mem_cons_self) (hq c (a ++ r) e.symm)
  | c :: a, d :: b, r, q, ha, hb, hr, hq, e => by
    injection e with e1 e2
    obtain ⟨h1, h2⟩ := run_inj (fun x hx => ha x (List.mem_cons_of_mem _ hx)) (fun x hx => hb x (List.mem_cons_of_mem _ hx)) hr hq e2
    exact ⟨by rw [e1, h1], h2⟩
/-- the printed names of some stamps -/
structure Nms (nm : Nat → Str) (S : List Nat) : Prop where
  let_ : ∀ s ∈ S, ∀ c ∈ cs (nm s), isL c
  ne : ∀ s ∈ S, cs (nm s) ≠ []
  inj : ∀ s ∈ S, ∀ t ∈ S, cs (nm s) = cs (nm t) → s = t
  nu : ∀ s ∈ S, cs (nm s) ≠ [117, 110, 105, 116]
def TkOk (S : List Nat) : Tk → Prop
  | .word s => s ∈ S
  | .post s => s ∈ S
  | .var n => n < 1000
  | _ => True
def tEnd : Tk → Bool
  | .word _ => true | .post _ => true | .unit => true | .var _ => true | _ => false
def tBeg : Tk → Bool
  | .word _ => true | .unit => true | .var _ => true | _ => false
/-- no two tokens side by side run into one -/
def Chain : List Tk → Prop
  | [] => True
  | [_] => True
  | a :: b :: r => (tEnd a = true → tBeg b = false) ∧ Chain (b :: r)
def digs (k : Nat) : List Nat := cs (toString ((k : Nat) : Int) : String)
theorem digs_d : ∀ k, k < 40 → ∀ c ∈ digs k, isD c := by decide +kernel
theorem digs_ne : ∀ k, k < 40 → digs k ≠ [] := by decide +kernel
theorem digs_inj : ∀ k, k < 40 → ∀ j, j < 40 → digs k = digs j → k = j := by decide +kernel
theorem cs_dq : cs dq = [39, 39] := by decide +kernel
theorem cs_sq : cs sq1 = [39] := by decide +kernel
def tailD (n : Nat) : List Nat := if n / 26 > 0 then digs (n / 26) else []
theorem cs_tail (n : Nat) : cs (tailT n) = tailD n := by
  unfold tailT tailD
  split
  · rfl
  · rfl
theorem cs_var (ms : List Nat) (n : Nat) : cs (varT ms n) = (if n ∈ ms then [39, 39] else [39]) ++ (97 + n % 26) :: tailD n := by
  unfold varT
  rw [cs_app, cs_app, cs_tail, List.append_assoc]
  have e : cs (if n ∈ ms then dq else sq1) = if n ∈ ms then [39, 39] else [39] := by
    split
    · exact cs_dq
    · exact cs_sq
  rw [e]
  rfl
theorem tail_d {n : Nat} (h : n < 1000) : ∀ c ∈ tailD n, isD c := by
  unfold tailD
  split
  · exact digs_d _ (by omega)
  · intro c hc
    cases hc
theorem tail_inj {n m : Nat} (h : n < 1000) (h' : m < 1000) (e : tailD n = tailD m) : n / 26 = m / 26 := by
  unfold tailD at e
  by_cases h1 : n / 26 > 0
  · rw [if_pos h1] at e
    by_cases h2 : m / 26 > 0
    · rw [if_pos h2] at e
      exact digs_inj _ (by omega) _ (by omega) e
    · rw [if_neg h2] at e
      exact absurd e (digs_ne _ (by omega))
  · rw [if_neg h1] at e
    by_cases h2 : m / 26 > 0
    · rw [if_pos h2] at e
      exact absurd e.symm (digs_ne _ (by omega))
    · omega
/-- the first sign of a token, and what is known of it -/
theorem rd_hd {nm : Nat → Str} {S ms : List Nat} (N : Nms nm S) {t : Tk} (h : TkOk S t) : ∃ c q, rd nm ms t = c :: q ∧ ¬ isD c ∧ (tBeg t = false → ¬ isL c) := by
  cases t with
  | lp => exact ⟨_, _, rfl, by decide, fun _ => by decide⟩
  | rp => exact ⟨_, _, rfl, by decide, fun _ => by decide⟩
  | cm => exact ⟨_, _, rfl, by decide, fun _ => by decide⟩
  | ar => exact ⟨_, _, rfl, by decide, fun _ => by decide⟩
  | st => exact ⟨_, _, rfl, by decide, fun _ => by decide⟩
  | unit => exact ⟨_, _, rfl, by decide, fun e => nomatch e⟩
  | post s => exact ⟨_, _, rfl, by decide, fun _ => by decide⟩
  | word s =>
    have h1 := N.ne s h
    have h2 := N.let_ s h
    show ∃ c q, cs (nm s) = c :: q ∧ _
    match e : cs (nm s), h1, h2 with
    | c :: q, _, h2 =>
      have := h2 c List.mem_cons_self
      exact ⟨c, q, rfl, by omega, fun e => nomatch e⟩
  | var n =>
    show ∃ c q, cs (varT ms n) = c :: q ∧ _
    rw [cs_var]
    split
    · exact ⟨_, _, rfl, by decide, fun e => nomatch e⟩
    · exact ⟨_, _, rfl, by decide, fun e => nomatch e⟩
theorem nohd_d {nm : Nat → Str} {S ms : List Nat} (N : Nms nm S) {ts : List Tk} (h : ∀ t ∈ ts, TkOk S t) : NoHd isD (rds nm ms ts) := by
  match ts, h with
  | [], _ => exact fun c q e => nomatch e
  | t :: r, h =>
    obtain ⟨c, q, e, hd, _⟩ := rd_hd (ms := ms) N (h t List.mem_cons_self)
    intro c' q' e'
    rw [rds_cons, e] at e'
    injection e' with e1 _
    rw [← e1]
    exact hd
theorem nohd_l {nm : Nat → Str} {S ms : List Nat} (N : Nms nm S) {a : Tk} {ts : List Tk} (h : ∀ t ∈ ts, TkOk S t) (hc : Chain (a :: ts)) (ha : tEnd a = true) : NoHd isL (rds nm ms ts) := by
  match ts, h, hc with
  | [], _, _ => exact fun c q e => nomatch e
  | t :: r, h, hc =>
    obtain ⟨c, q, e, _, hl⟩ := rd_hd (ms := ms) N (h t List.mem_cons_self)
    intro c' q' e'
    rw [rds_cons, e] at e'
    injection e' with e1 _
    rw [← e1]
    exact hl (hc.1 ha)
theorem chain_tl {a : Tk} {ts : List Tk} (h : Chain (a :: ts)) : Chain ts := by
  cases ts with
  | nil => trivial
  | cons b r => exact h.2
/-- the class of a token, by its first signs -/
def tCls : Tk → Nat
  | .lp => 0 | .rp => 1 | .cm => 2 | .ar => 3 | .st => 4 | .unit => 5 | .word _ => 5 | .post _ => 6 | .var _ => 7
theorem rds_inj {nm : Nat → Str} {S ms : List Nat} (N : Nms nm S) : ∀ {ts us : List Tk}, (∀ t ∈ ts, TkOk S t) → (∀ t ∈ us, TkOk S t) → Chain ts → Chain us → rds nm ms ts = rds nm ms us → ts = us
  | [], [], _, _, _, _, _ => rfl
  | [], u :: us, _, hu, _, _, e => by
    obtain ⟨c, q, e1, _⟩ := rd_hd (ms := ms) N (hu u List.mem_cons_self)
    rw [rds_cons, e1] at e
    cases e
  | t :: ts, [], ht, _, _, _, e => by
    obtain ⟨c, q, e1, _⟩ := rd_hd (ms := ms) N (ht t List.mem_cons_self)
    rw [rds_cons, e1] at e
    cases e
  | t :: ts, u :: us, ht, hu, ct, cu, e => by
    have ht1 := ht t List.mem_cons_self
    have hu1 := hu u List.mem_cons_self
    have hts : ∀ x ∈ ts, TkOk S x := fun x hx => ht x (List.mem_cons_of_mem _ hx)
    have hus : ∀ x ∈ us, TkOk S x := fun x hx => hu x (List.mem_cons_of_mem _ hx)
    rw [rds_cons, rds_cons] at e
    have fin : ∀ x : Tk, t = x → u = x → rds nm ms ts = rds nm ms us → t :: ts = u :: us := fun x e1 e2 e3 => by
      rw [e1, e2, rds_inj N hts hus (chain_tl ct) (chain_tl cu) e3]
    -- a row of letters on both sides
    have words : ∀ (a b : List Nat), rd nm ms t = a → rd nm ms u = b → (∀ c ∈ a, isL c) → (∀ c ∈ b, isL c) → tEnd t = true → tEnd u = true → a = b ∧ rds nm ms ts = rds nm ms us := fun a b e1 e2 h1 h2 h3 h4 => by
      rw [e1, e2] at e
      exact run_inj h1 h2 (nohd_l N hts ct h3) (nohd_l N hus cu h4) e
    have letter : ∀ s ∈ S, ∃ c q, cs (nm s) = c :: q ∧ isL c := fun s hs => by
      have h1 := N.ne s hs
      have h2 := N.let_ s hs
      match e : cs (nm s), h1, h2 with
      | c :: q, _, h2 => exact ⟨c, q, rfl, h2 c List.mem_cons_self⟩
    have lu : ∀ c ∈ [117, 110, 105, 116], isL c := by decide
    have W : ∀ s, TkOk S (.word s) → ∃ c q, rd nm ms (.word s) = c :: q ∧ 97 ≤ c ∧ c ≤ 122 := fun s hs => by
      obtain ⟨c, q, e, h⟩ := letter s hs
      exact ⟨c, q, e, h.1, h.2⟩
    have Ps : ∀ s, TkOk S (.post s) → ∃ c q, rd nm ms (.post s) = 32 :: c :: q ∧ 97 ≤ c ∧ c ≤ 122 := fun s hs => by
      obtain ⟨c, q, e, h⟩ := letter s hs
      exact ⟨c, q, congrArg (fun z => 32 :: z) e, h.1, h.2⟩
    have V : ∀ n, rd nm ms (.var n) = 39 :: ((if n ∈ ms then [39] else []) ++ (97 + n % 26) :: tailD n) := fun n => by
      show cs (varT ms n) = _
      rw [cs_var]
      split <;> rfl
    cases t <;> cases u
    case var.var n m =>
      rw [V, V] at e
      injection e with _ e
      have key : ∀ n m : Nat, ∀ ts us : List Tk, n < 1000 → m < 1000 → NoHd isD (rds nm ms ts) → NoHd isD (rds nm ms us) → (97 + n % 26) :: (tailD n ++ rds nm ms ts) = (97 + m % 26) :: (tailD m ++ rds nm ms us) → n = m ∧ rds nm ms ts = rds nm ms us := fun n m ts us hn hm h1 h2 e => by
        injection e with e1 e2
        obtain ⟨h3, h4⟩ := run_inj (tail_d hn) (tail_d hm) h1 h2 e2
        have := tail_inj hn hm h3
        exact ⟨by omega, h4⟩
      have fin2 : n = m ∧ rds nm ms ts = rds nm ms us := by
        by_cases h1 : n ∈ ms
        · rw [if_pos h1] at e
          by_cases h2 : m ∈ ms
          · rw [if_pos h2] at e
            injection e with _ e
            exact key n m ts us ht1 hu1 (nohd_d N hts) (nohd_d N hus) e
          · rw [if_neg h2] at e
            injection e with e1 _
            omega
        · rw [if_neg h1] at e
          by_cases h2 : m ∈ ms
          · rw [if_pos h2] at e
            injection e with e1 _
            omega
          · rw [if_neg h2] at e
            exact key n m ts us ht1 hu1 (nohd_d N hts) (nohd_d N hus) e
      obtain ⟨h1, h2⟩ := fin2
      exact fin (.var n) rfl (by rw [h1]) h2
    case word.word s z =>
      obtain ⟨h1, h2⟩ := words _ _ rfl rfl (N.let_ s ht1) (N.let_ z hu1) rfl rfl
      exact fin (.word s) rfl (by rw [N.inj s ht1 z hu1 h1]) h2
    case post.post s z =>
      injection e with _ e
      obtain ⟨h1, h2⟩ := run_inj (N.let_ s ht1) (N.let_ z hu1) (nohd_l N hts ct rfl) (nohd_l N hus cu rfl) e
      exact fin (.post s) rfl (by rw [N.inj s ht1 z hu1 h1]) h2
    case word.unit s =>
      obtain ⟨h1, _⟩ := words _ _ rfl rfl (N.let_ s ht1) lu rfl rfl
      exact absurd h1 (N.nu s ht1)
    case unit.word s =>
      obtain ⟨h1, _⟩ := words _ _ rfl rfl lu (N.let_ s hu1) rfl rfl
      exact absurd h1.symm (N.nu s hu1)
    all_goals try rw [V] at e
    all_goals first
      | exact fin _ rfl rfl (List.append_cancel_left e)
      | (exfalso; injection e with e1 _; revert e1; decide)
      | (exfalso; injection e with _ e; injection e with e1 _; revert e1; decide)
      | (exfalso; have k := W _ ht1; obtain ⟨c, q, e1, h1, h2⟩ := k; rw [e1] at e; injection e with e2 _; omega)
      | (exfalso; have k := W _ hu1; obtain ⟨c, q, e1, h1, h2⟩ := k; rw [e1] at e; injection e with e2 _; omega)
      | (exfalso; have k := Ps _ ht1; obtain ⟨c, q, e1, h1, h2⟩ := k; rw [e1] at e; injection e with e2 e3; first | omega | (injection e3 with e3 _; omega))
      | (exfalso; have k := Ps _ hu1; obtain ⟨c, q, e1, h1, h2⟩ := k; rw [e1] at e; injection e with e2 e3; first | omega | (injection e3 with e3 _; omega))
/-! ### the tokens of a type are right -/
def lastE (ts : List Tk) : Bool := match ts.getLast? with
  | some t => tEnd t
  | none => false
def firstB (ts : List Tk) : Bool := match ts with
  | t :: _ => tBeg t
  | [] => false
theorem chain_app : ∀ {a b : List Tk}, Chain a → Chain b → (lastE a = true → firstB b = false) → Chain (a ++ b)
  | [], b, _, h, _ => h
  | [x], [], _, _, _ => trivial
  | [x], y :: r, _, h, k => ⟨fun e => k e, h⟩
  | x :: y :: a, b, h, hb, k => ⟨h.1, chain_app (a := y :: a) h.2 hb (by
      intro e
      refine k ?_
      unfold lastE at e ⊢
      rwa [List.getLast?_cons_cons])⟩
theorem lastE_app (a : List Tk) {b : List Tk} (h : b ≠ []) : lastE (a ++ b) = lastE b := by
  unfold lastE
  rw [List.getLast?_append]
  cases e : b.getLast? with
  | none => exact absurd (List.getLast?_eq_none_iff.mp e) h
  | some t => rfl
end Lq
namespace Lq
open PySem L2
structure GoodK (S : List Nat) (ts : List Tk) : Prop where
  ne : ts ≠ []
  ok : ∀ t ∈ ts, TkOk S t
  ch : Chain ts
theorem GoodK.one {S : List Nat} {t : Tk} (h : TkOk S t) : GoodK S [t] := ⟨List.cons_ne_nil _ _, fun x hx => by rw [List.mem_singleton.mp hx]; exact h, trivial⟩
theorem firstB_app {a b : List Tk} (h : a ≠ []) : firstB (a ++ b) = firstB a := by
  cases a with
  | nil => exact absurd rfl h
  | cons x r => rfl
/-- a token that neither begins nor ends like a word, ahead of a row -/
theorem GoodK.cons {S : List Nat} {x : Tk} {b : List Tk} (h : GoodK S b) (hx : TkOk S x) (h1 : tEnd x = false) : GoodK S (x :: b) := by
  refine ⟨List.cons_ne_nil _ _, fun t ht => ?_, ?_⟩
  · rcases List.mem_cons.mp ht with e | ht
    · rw [e]
      exact hx
    · exact h.ok t ht
  · match b, h.ne, h.ch with
    | y :: r, _, hc => exact ⟨fun e => (by rw [h1] at e; cases e), hc⟩
theorem GoodK.app {S : List Nat} {a b : List Tk} (h : GoodK S a) (h' : GoodK S b) (hb : firstB b = false) : GoodK S (a ++ b) := by
  refine ⟨fun e => h.ne (List.append_eq_nil_iff.mp e).1, fun t ht => ?_, chain_app h.ch h'.ch fun _ => hb⟩
  rcases List.mem_append.mp ht with ht | ht
  · exact h.ok t ht
  · exact h'.ok t ht
theorem GoodK.sep {S : List Nat} {x : Tk} {a b : List Tk} (h : GoodK S a) (h' : GoodK S b) (hx : TkOk S x) (h1 : tEnd x = false) (h2 : tBeg x = false) : GoodK S (a ++ x :: b) := h.app (h'.cons hx h1) h2
theorem GoodK.par {S : List Nat} {a : List Tk} (h : GoodK S a) (b : Bool) : GoodK S (parK b a) := by
  cases b with
  | false => exact h
  | true => exact (h.app (.one (t := .rp) trivial) rfl).cons trivial rfl
theorem GoodK.sepK {S : List Nat} {x : Tk} (hx : TkOk S x) (h1 : tEnd x = false) (h2 : tBeg x = false) : ∀ {ks : List (List Tk)}, ks ≠ [] → (∀ k ∈ ks, GoodK S k) → GoodK S (Lq.sepK x ks)
  | [], h, _ => absurd rfl h
  | [k], _, h => h k List.mem_cons_self
  | k :: l :: r, _, h => (h k List.mem_cons_self).sep (GoodK.sepK hx h1 h2 (List.cons_ne_nil l r) fun m hm => h m (List.mem_cons_of_mem _ hm)) hx h1 h2
def GdL (S : List Nat) (l : Lab) (n : Nat) : Prop := match l with
  | .var k => n = 0 ∧ k < 1000
  | .fn => n = 2
  | .tup => n ≠ 1
  | .made s => s ∈ S
mutual
def Ty.Gd (S : List Nat) : Ty → Prop
  | .node l ts => GdL S l ts.length ∧ Ty.Gds S ts
def Ty.Gds (S : List Nat) : List Ty → Prop
  | [] => True
  | t :: r => Ty.Gd S t ∧ Ty.Gds S r
end
mutual
theorem Ty.Gd.sh {S : List Nat} : ∀ {T : Ty}, T.Gd S → T.Sh
  | .node l ts, h => by
    rw [Ty.Gd] at h
    rw [Ty.Sh]
    refine ⟨?_, Ty.Gds.shs h.2⟩
    have := h.1
    cases l with
    | var n => exact this.1
    | fn => exact this
    | tup => exact this
    | made s => trivial
theorem Ty.Gds.shs {S : List Nat} : ∀ {ts : List Ty}, Ty.Gds S ts → Ty.Shs ts
  | [], _ => by rw [Ty.Shs]; trivial
  | t :: r, h => by
    rw [Ty.Gds] at h
    rw [Ty.Shs]
    exact ⟨Ty.Gd.sh h.1, Ty.Gds.shs h.2⟩
end
def GoodK3 (S : List Nat) (k : K3) : Prop := GoodK S k.a ∧ GoodK S k.b ∧ GoodK S k.c
theorem wrap_good {S : List Nat} {l : Lab} {ks : List K3} (hl : GdL S l ks.length) (h : ∀ k ∈ ks, GoodK3 S k) (r : Nat) : GoodK S (wrapK l ks r) := by
  cases l with
  | var n => exact .one hl.2
  | fn =>
    match ks, hl, h with
    | [x, y], _, h => exact ((h x List.mem_cons_self).2.1.sep (x := .ar) (h y (List.mem_cons_of_mem _ List.mem_cons_self)).1 trivial rfl rfl).par _
  | tup =>
    match ks, h with
    | [], _ => exact .one trivial
    | x :: ks, h =>
      refine (GoodK.sepK (x := .st) trivial rfl rfl (by simp) fun k hk => ?_).par _
      obtain ⟨k', h1, rfl⟩ := List.mem_map.mp hk
      exact (h k' h1).2.2
  | made s =>
    match ks, h with
    | [], _ => exact .one hl
    | [x], h => exact (h x List.mem_cons_self).2.2.app (.one (t := .post s) hl) rfl
    | x :: y :: ks, h =>
      have g : GoodK S (sepK .cm ((x :: y :: ks).map K3.a)) := GoodK.sepK (x := .cm) trivial rfl rfl (by simp) fun k hk => by
        obtain ⟨k', h1, rfl⟩ := List.mem_map.mp hk
        exact (h k' h1).1
      exact (g.app ((GoodK.one (t := .post s) hl).cons (x := .rp) trivial rfl) rfl).cons trivial rfl
mutual
theorem tk_good {S : List Nat} : ∀ {T : Ty}, T.Gd S → ∀ r, GoodK S (T.tk r)
  | .node l ts, h, r => by
    rw [Ty.Gd] at h
    rw [Ty.tk]
    refine wrap_good ?_ (tks_good h.2) r
    rw [tks_map, List.length_map]
    exact h.1
theorem tks_good {S : List Nat} : ∀ {ts : List Ty}, Ty.Gds S ts → ∀ k ∈ Ty.tks ts, GoodK3 S k
  | [], _, k, hk => by
    rw [Ty.tks] at hk
    cases hk
  | t :: r, h, k, hk => by
    rw [Ty.Gds] at h
    rw [Ty.tks] at hk
    rcases List.mem_cons.mp hk with e | hk
    · rw [e]
      exact ⟨tk_good h.1 0, tk_good h.1 1, tk_good h.1 2⟩
    · exact tks_good h.2 k hk
end
/-- unlike types have unlike texts -/
theorem tx_inj {nm : Nat → Str} {S ms : List Nat} (N : Nms nm S) {T U : Ty} (h : T.Gd S) (h' : U.Gd S) (e : T.tx nm ms 0 = U.tx nm ms 0) : T = U := by
  refine tk_inj h.sh h'.sh ?_
  have g := tk_good h 0
  have g' := tk_good h' 0
  refine rds_inj (ms := ms) N g.ok g'.ok g.ch g'.ch ?_
  rw [← cs_tx, ← cs_tx, e]
def names9 : List Str := ["int", "string", "bool", "exn", "list", "ref", "pair", "box", "far"]
def nm9 (s : Nat) : Str := names9.getD (s - 1) Str.empty
def S9 : List Nat := [1, 2, 3, 4, 5, 6, 7, 8, 9]
theorem nms9 : Nms nm9 S9 := ⟨by decide +kernel, by decide +kernel, by decide +kernel, by decide +kernel⟩
end Lq
namespace Lq
open PySem L2
structure Cr (mg : Str → Option Value) : Prop where
  FN : ∃ t, mg "FN_ROW" = some (.int 0 t)
  TUPLE : ∃ t, mg "TUPLE_ROW" = some (.int 1 t)
  NAME : ∃ t, mg "NAME_ROW" = some (.int 2 t)
theorem fmod26 (n : Nat) : ((n : Int)).fmod ((26 : Nat) : Int) = ((n % 26 : Nat) : Int) := by
  rw [Int.fmod_eq_emod_of_nonneg _ (by decide)]
  omega
theorem fdiv26 (n : Nat) : ((n : Int)).fdiv ((26 : Nat) : Int) = ((n / 26 : Nat) : Int) := by
  rw [Int.fdiv_eq_ediv_of_nonneg _ (by decide)]
  omega
theorem low_at : ∀ i, i < 26 → lowS.cps.toList[i]? = some (97 + i) := by decide +kernel
theorem digs_len : ∀ k, k < 40 → ((toString ((k : Nat) : Int) : String) : Str).length ≤ 2 := by decide +kernel
theorem line20 {n : Nat} (h : n ≤ 20) : n ≤ sizeLine := Nat.le_trans h (by decide)
section
variable {P : Program} {w : World} {K : PySem.W.Frag} {mg : Str → Option Value} {base : Heap} {C : Addr}
abbrev s_Book_printed : Stmt := inClass (top 41) 2
theorem sc_Book_printed : FnScope ["self", "stamp"] ["self", "stamp"] (defScope s_Book_printed) := ⟨rfl, rfl, rfl, by decide +kernel, rfl, by decide +kernel, by decide +kernel⟩
def spPrinted (K : PySem.W.Frag) (C : Addr) : Sp := fun vs H Q _ => ∃ (v : V) (rows : List Row) (s : Nat) (row : Row), vs = [v, .int (s : Int)] ∧ BookH K C H rows v ∧ 0 < s ∧ (s : Int) < 10 ^ 60 ∧ rows[s - 1]? = some row ∧ Q (.str row.z) H
theorem ok_printed (A : AtM K C "printed" "Book.printed" s_Book_printed ["self", "stamp"]) (B : Bi mg) (T : Bk K mg C) (DM__row : HasM P w K mg base C "_row" ["self", "stamp"] 2 (spRow K C)) : HasM P w K mg base C "printed" ["self", "stamp"] 3 (spPrinted K C) := by
  refine .mk A fun f fd F => ?_
  refine F.ok sc_Book_printed (fun vs H Q E h => ?_) (fun cdv A outer s H vs Q E hr h => ?_)
  · obtain ⟨v, rows, st, row, rfl, _⟩ := h
    rfl
  obtain ⟨v, rows, st, row, rfl, hB, h0, h1, hrow, q⟩ := h
  obtain ⟨fm__row, fdm__row, GM__row, bm__row, mm__row⟩ := DM__row
  refine ⟨_, (pss_one (ps_ret (pe_ix (ixT K) (pe_meth (pv 0) T.cl mm__row GM__row (hr.mono (by decide)) bm__row .nil pass0 (pa_cons (pv 1) pa_nil)) pe_int (fun _ _ => rfl)))), ?_⟩
  have hB' := hB
  obtain ⟨b, dx, r, q', rs, rfl, hb, _⟩ := hB
  refine ⟨_, rfl, b, dx, _, rfl, hb, bf_no _ _ (by decide +kernel) (by decide +kernel), _, rfl, _, rows, st, row, rfl, hB', h0, h1, hrow, fun x hx => ?_⟩
  obtain ⟨p, z, av, cv, rfl, hp, hav, rfl⟩ := hx
  exact ⟨p, _, _, _, rfl, rfl, hp, atI_nat (j := 0) rfl, q⟩
abbrev s__variable_text : Stmt := top 50
theorem sc__variable_text : FnScope ["number", "marked", "quotes", "letter", "round_"] ["number", "marked"] (defScope s__variable_text) := ⟨rfl, rfl, rfl, by decide +kernel, rfl, by decide +kernel, by decide +kernel⟩
def spVarT (K : PySem.W.Frag) : Sp := fun vs H Q _ => ∃ (n : Nat) (a : Addr) (ms : List Nat), vs = [.int (n : Int), .ref a] ∧ SqT K H a (natV ms) ∧ n < 1000 ∧ Q (.str (varT ms n)) H
theorem ok_variable_text (A : At K mg "_variable_text" s__variable_text ["number", "marked"]) (B : Bi mg) (Cc : Ct K mg) : Has P w K mg base "_variable_text" ["number", "marked"] 1 (spVarT K) := by
  refine .mk A fun f fd F => ?_
  refine F.ok sc__variable_text (fun vs H Q E h => ?_) (fun cdv A outer s H vs Q E hr h => ?_)
  · obtain ⟨n, a, ms, rfl, _⟩ := h
    rfl
  obtain ⟨n, a, ms, rfl, ha, hn, q⟩ := h
  obtain ⟨tL, T_LOW_LETTERS⟩ := Cc.LOW
  refine ⟨_, (pss_cons (ps_set (i := 2) sc__variable_text.nd rfl (Or.inl rfl) (pe_ifExp (pt_cmpR (inS K) (pv 0) (pv 1) rfl) pe_str pe_str))
  (pss_cons (ps_set (i := 3) sc__variable_text.nd rfl (Or.inl rfl) (pe_ix ix_str (pe_glob rfl T_LOW_LETTERS r_str) (pe_op op_modN (pv 0) (pe_callB call_len (by rfl) B.len (by decide +kernel) (pa_cons (pe_glob rfl T_LOW_LETTERS r_str) pa_nil))) (fun _ _ => rfl)))
  (pss_cons (ps_set (i := 4) sc__variable_text.nd rfl (Or.inl rfl) (pe_op op_fdivN (pv 0) (pe_callB call_len (by rfl) B.len (by decide +kernel) (pa_cons (pe_glob rfl T_LOW_LETTERS r_str) pa_nil))))
  (pss_one (ps_ret (pe_ifExp (pt_cmpR op_gt (pv 4) pe_int (nomark _)) (pe_joined (.cons (pe_fmt (pv 2)) (.cons (pe_fmt (pv 3)) (.cons (pe_fmt (pv 4)) .nil)))) (pe_joined (.cons (pe_fmt (pv 2)) (.cons (pe_fmt (pv 3)) .nil))))))))), ?_⟩
  refine ⟨_, rfl, _, rfl, a, _, rfl, .inr ha, rfl, flat_nat _, _, rfl, ?_⟩
  rw [inV_nat]
  by_cases hm : n ∈ ms
  · rw [decide_eq_true hm]
    refine iteT ?_
    refine ⟨_, rfl, _, 26, rfl, ⟨by decide +kernel, by decide +kernel⟩, _, _, rfl, rfl, (by show (26 : Int) ≠ 0; decide), _, _, 97 + n % 26, rfl, rfl, (by decide +kernel), (by rw [fmod26]; exact atI_nat (j := n % 26) (low_at (n % 26) (by omega))), ?_⟩
    refine ⟨_, rfl, _, 26, rfl, ⟨by decide +kernel, by decide +kernel⟩, _, _, rfl, rfl, ⟨by decide, by decide⟩, ?_⟩
    refine ⟨_, rfl, _, _, rfl, rfl, _, rfl, ?_⟩
    have e1 : varT ms n = dq ++ letT n ++ tailT n := by unfold varT; rw [if_pos hm]
    have l1 : (Str.empty ++ dq).length ≤ 2 := by decide +kernel
    have l2 : (Str.empty ++ dq ++ letT n).length ≤ 3 := by rw [strLen_append]; show _ + 1 ≤ 3; omega
    by_cases h26 : n / 26 > 0
    · rw [decide_eq_true (show (0 : Int) < ((n : Int)).fdiv ((26 : Nat) : Int) by rw [fdiv26]; omega)]
      have l3 := digs_len (n / 26) (by omega)
      refine iteT ⟨_, rfl, .inl ⟨_, rfl, by decide +kernel, _, rfl, by decide +kernel, _, rfl, .inl ⟨_, rfl, by show 1 ≤ sizeLine; decide, _, rfl, line20 (Nat.le_trans l2 (by decide)), _, rfl, .inr ⟨_, rfl, ?_, _, rfl, ?_, ?_⟩⟩⟩⟩
      · rw [fdiv26]
        exact Nat.lt_of_le_of_lt (Nat.log2_le_self _) (by omega)
      · rw [fdiv26, strLen_append]
        exact line20 (by have : (Str.empty ++ dq ++ letT n).length ≤ 3 := l2; show (Str.empty ++ dq ++ letT n).length + _ ≤ 20; omega)
      · rw [fdiv26]
        have e : Str.empty ++ dq ++ letT n ++ ((toString (((n / 26 : Nat) : Int)) : String) : Str) = varT ms n := by
          rw [e1, Str.empty_append]
          unfold tailT
          rw [if_pos h26]
        exact (congrArg (fun z => Q (V.str z) H) e).mpr q
    · rw [decide_eq_false (show ¬ (0 : Int) < ((n : Int)).fdiv ((26 : Nat) : Int) by rw [fdiv26]; omega)]
      refine iteF ⟨_, rfl, .inl ⟨_, rfl, by decide +kernel, _, rfl, by decide +kernel, _, rfl, .inl ⟨_, rfl, by show 1 ≤ sizeLine; decide, _, rfl, line20 (Nat.le_trans l2 (by decide)), ?_⟩⟩⟩
      have e : Str.empty ++ dq ++ letT n = varT ms n := by
        rw [e1, Str.empty_append]
        unfold tailT
        rw [if_neg h26, Str.append_empty]
      exact (congrArg (fun z => Q (V.str z) H) e).mpr q
  · rw [decide_eq_false hm]
    refine iteF ?_
    refine ⟨_, rfl, _, 26, rfl, ⟨by decide +kernel, by decide +kernel⟩, _, _, rfl, rfl, (by show (26 : Int) ≠ 0; decide), _, _, 97 + n % 26, rfl, rfl, (by decide +kernel), (by rw [fmod26]; exact atI_nat (j := n % 26) (low_at (n % 26) (by omega))), ?_⟩
    refine ⟨_, rfl, _, 26, rfl, ⟨by decide +kernel, by decide +kernel⟩, _, _, rfl, rfl, ⟨by decide, by decide⟩, ?_⟩
    refine ⟨_, rfl, _, _, rfl, rfl, _, rfl, ?_⟩
    have e1 : varT ms n = sq1 ++ letT n ++ tailT n := by unfold varT; rw [if_neg hm]
    have l1 : (Str.empty ++ sq1).length ≤ 2 := by decide +kernel
    have l2 : (Str.empty ++ sq1 ++ letT n).length ≤ 3 := by rw [strLen_append]; show _ + 1 ≤ 3; omega
    by_cases h26 : n / 26 > 0
    · rw [decide_eq_true (show (0 : Int) < ((n : Int)).fdiv ((26 : Nat) : Int) by rw [fdiv26]; omega)]
      have l3 := digs_len (n / 26) (by omega)
      refine iteT ⟨_, rfl, .inl ⟨_, rfl, by decide +kernel, _, rfl, by decide +kernel, _, rfl, .inl ⟨_, rfl, by show 1 ≤ sizeLine; decide, _, rfl, line20 (Nat.le_trans l2 (by decide)), _, rfl, .inr ⟨_, rfl, ?_, _, rfl, ?_, ?_⟩⟩⟩⟩
      · rw [fdiv26]
        exact Nat.lt_of_le_of_lt (Nat.log2_le_self _) (by omega)
      · rw [fdiv26, strLen_append]
        exact line20 (by have : (Str.empty ++ sq1 ++ letT n).length ≤ 3 := l2; show (Str.empty ++ sq1 ++ letT n).length + _ ≤ 20; omega)
      · rw [fdiv26]
        have e : Str.empty ++ sq1 ++ letT n ++ ((toString (((n / 26 : Nat) : Int)) : String) : Str) = varT ms n := by
          rw [e1, Str.empty_append]
          unfold tailT
          rw [if_pos h26]
        exact (congrArg (fun z => Q (V.str z) H) e).mpr q
    · rw [decide_eq_false (show ¬ (0 : Int) < ((n : Int)).fdiv ((26 : Nat) : Int) by rw [fdiv26]; omega)]
      refine iteF ⟨_, rfl, .inl ⟨_, rfl, by decide +kernel, _, rfl, by decide +kernel, _, rfl, .inl ⟨_, rfl, by show 1 ≤ sizeLine; decide, _, rfl, line20 (Nat.le_trans l2 (by decide)), ?_⟩⟩⟩
      have e : Str.empty ++ sq1 ++ letT n = varT ms n := by
        rw [e1, Str.empty_append]
        unfold tailT
        rw [if_neg h26, Str.append_empty]
      exact (congrArg (fun z => Q (V.str z) H) e).mpr q
end
end Lq
namespace Lq
open PySem L2
inductive Itm where
  | txt (s : Str) | ty (T : Ty) (r : Nat)
def ItmH (K : PySem.W.Frag) (H : Hp) : Itm → V → Prop
  | .txt s, v => v = .str s
  | .ty T r, v => ∃ (p : Addr) (x : V), v = .ref p ∧ SqT K H p [x, .int (r : Int)] ∧ TyH K H T x
theorem ItmH.mono {K : PySem.W.Frag} {H H' : Hp} (e : Tups K H H') (i : Itm) (v : V) (h : ItmH K H i v) : ItmH K H' i v := by
  cases i with
  | txt s => exact h
  | ty T r =>
    obtain ⟨p, x, h1, h2, h3⟩ := h
    exact ⟨p, x, h1, e _ _ h2, h3.mono e⟩
def partI (sep : Str) (r : Nat) : List Ty → List Itm
  | [] => []
  | [t] => [.ty t r]
  | t :: u :: q => .ty t r :: .txt sep :: partI sep r (u :: q)
theorem partI_snoc (sep : Str) (r : Nat) (t : Ty) : ∀ (ts : List Ty), partI sep r (ts ++ [t]) = partI sep r ts ++ (if ts = [] then [] else [.txt sep]) ++ [.ty t r]
  | [] => rfl
  | [u] => rfl
  | u :: v :: q => by
    have := partI_snoc sep r t (v :: q)
    show .ty u r :: .txt sep :: partI sep r ((v :: q) ++ [t]) = _
    rw [this, if_neg (List.cons_ne_nil _ _), if_neg (List.cons_ne_nil _ _)]
    rfl
theorem partI_nil (sep : Str) (r : Nat) (ts : List Ty) : partI sep r ts = [] ↔ ts = [] := by
  match ts with
  | [] => exact ⟨fun _ => rfl, fun _ => rfl⟩
  | [t] => exact ⟨fun e => (nomatch e), fun e => (nomatch e)⟩
  | t :: u :: q => exact ⟨fun e => (nomatch e), fun e => (nomatch e)⟩
theorem partI_len (sep : Str) (r : Nat) : ∀ ts : List Ty, (partI sep r ts).length ≤ 2 * ts.length
  | [] => Nat.le_refl _
  | [t] => by show 1 ≤ 2; decide
  | t :: u :: q => by
    have := partI_len sep r (u :: q)
    show (partI sep r (u :: q)).length + 1 + 1 ≤ _
    rw [List.length_cons] at this ⊢
    rw [List.length_cons]
    omega
section
variable {P : Program} {w : World} {K : PySem.W.Frag} {mg : Str → Option Value} {base : Heap} {C : Addr}
abbrev s__parted : Stmt := top 51
theorem sc__parted : FnScope ["types", "separator", "row", "items", "T"] ["types", "separator", "row"] (defScope s__parted) := ⟨rfl, rfl, rfl, by decide +kernel, rfl, by decide +kernel, by decide +kernel⟩
def spParted (K : PySem.W.Frag) : Sp := fun vs H Q _ => ∃ (a : Addr) (xs : List V) (ts : List Ty) (sep : Str) (r : Nat), vs = [.ref a, .str sep, .int (r : Int)] ∧ SqT K H a xs ∧ TysH K H ts xs ∧ ts.length ≤ 300 ∧
  ∀ (H' : Hp) (p : Addr) (ys : List V), Same H H' → H' p = some (.lst ys) → All2 (ItmH K H') (partI sep r ts) ys → Q (.ref p) H'
theorem ok_parted (A : At K mg "_parted" s__parted ["types", "separator", "row"]) : Has P w K mg base "_parted" ["types", "separator", "row"] 1 (spParted K) := by
  refine .mk A fun f fd F => ?_
  refine F.ok sc__parted (fun vs H Q E h => ?_) (fun cdv A outer s H vs Q E hr h => ?_)
  · obtain ⟨a, xs, ts, sep, r, rfl, _⟩ := h
    rfl
  obtain ⟨a, xs, ts, sep, r, rfl, ha, hts, hl, q⟩ := h
  refine ⟨_, (pss_cons (ps_set (i := 3) sc__parted.nd rfl (Or.inl rfl) (pe_lst pa_nil))
  (pss_cons (ps_for PassesOwn.never rfl (pi_tup (pv 0)) (pg_name (i := 4) sc__parted.nd rfl (Or.inl rfl)) (pss_cons (ps_if (pt_truth (pv 3) (by intro _; rfl)) (pss_one (ps_expr (pe_bm PySem.F.plainAttrs_list PySem.F.slot_list_append PySem.F.type_list_append mt_append (pv 3) (pa_cons (pv 1) pa_nil)))) pss_nil)
  (pss_one (ps_expr (pe_bm PySem.F.plainAttrs_list PySem.F.slot_list_append PySem.F.type_list_append mt_append (pv 3) (pa_cons (pe_tup (pa_cons (pv 4) (pa_cons (pv 2) pa_nil))) pa_nil))))))
  (pss_one (ps_ret (pv 3))))), ?_⟩
  refine ⟨Nat.zero_le _, fun d hd => ?_⟩
  have hxl := hts.len
  have g0 := same_upd hd (.lst [])
  refine ⟨_, rfl, a, rfl, ⟨_, tups_of g0 _ _ ha⟩, for_tup (K := K) (a := a) (xs := xs) (fun i σ H3 => ∃ s4 ys, σ = [some (.ref a), some (.str sep), some (.int (r : Int)), some (.ref d), s4] ∧ Same H H3 ∧ H3 d = some (.lst ys) ∧ All2 (ItmH K H3) (partI sep r (ts.take i)) ys)
    ⟨_, [], rfl, g0, upd_same, rfl⟩ (fun i σ H3 _ z => ?_) ?_ ?_⟩
  · obtain ⟨_, _, _, g3, _⟩ := z
    exact tups_of g3 _ _ ha
  · rintro i x σ H3 hx ⟨s4, ys, rfl, g3, h3, hA⟩
    obtain ⟨t, hti, ht⟩ := hts.get hx
    have hil := lt_of_get hti
    have hyl := hA.len
    have hpl := partI_len sep r (ts.take i)
    rw [List.length_take] at hpl
    have ht3 := ht.mono (tups_of g3)
    -- the pair behind the separator
    have pair : ∀ (H4 : Hp) (zs : List V), Same H H4 → H4 d = some (.lst zs) → Tups K H3 H4 → zs.length ≤ 700 → All2 (ItmH K H4) (partI sep r (ts.take i) ++ if ts.take i = [] then [] else [.txt sep]) zs →
        ∀ p, H4 p = none → ∃ l xs1 y, V.ref d = V.ref l ∧ [V.ref p] = [y] ∧ upd H4 p (.tup [x, .int (r : Int)]) l = some (.lst xs1) ∧ xs1.length < sizeLine ∧
          ∃ s4 ys, [some (V.ref a), some (V.str sep), some (V.int (r : Int)), some (V.ref d), some x] = [some (.ref a), some (.str sep), some (.int (r : Int)), some (.ref d), s4] ∧ Same H (upd (upd H4 p (.tup [x, .int (r : Int)])) l (.lst (xs1 ++ [y]))) ∧
            upd (upd H4 p (.tup [x, .int (r : Int)])) l (.lst (xs1 ++ [y])) d = some (.lst ys) ∧ All2 (ItmH K (upd (upd H4 p (.tup [x, .int (r : Int)])) l (.lst (xs1 ++ [y])))) (partI sep r (ts.take (i + 1))) ys := by
      intro H4 zs g4 h4 t4 hz hA4 p hp
      have w1 := same_upd hp (.tup [x, .int (r : Int)])
      have h5 := w1 _ _ h4
      have t5 := tups_set (K := K) h5 (.lst (zs ++ [.ref p]))
      refine ⟨d, zs, .ref p, rfl, rfl, h5, small1000 (by omega), some x, _, rfl, same_set (g4.trans w1) hd _, upd_same, ?_⟩
      rw [take_snoc hti, partI_snoc]
      exact ((hA4.mono (ItmH.mono (tups_of w1))).mono (ItmH.mono t5)).app (All2.one ⟨p, x, rfl, t5 _ _ sq_new, (ht3.mono (t4.trans (tups_of w1))).mono t5⟩)
    refine ⟨_, rfl, _, .inl ⟨ys, SqL.of h3, rfl⟩, ?_⟩
    by_cases he : ys = []
    · subst he
      have e0 : partI sep r (ts.take i) = [] := List.eq_nil_of_length_eq_zero hyl.symm
      have e1 := (partI_nil sep r _).mp e0
      refine iteF ⟨_, rfl, .inl ⟨rfl, _, SqL.of h3⟩, _, rfl, _, rfl, z2, pair H3 [] g3 h3 .refl (by show 0 ≤ 700; decide) ?_⟩
      rw [e0, if_pos e1]
      rfl
    · have ee : (!ys.isEmpty) = true := by
        cases ys with
        | nil => exact absurd rfl he
        | cons _ _ => rfl
      rw [ee]
      have e1 : ¬ ts.take i = [] := fun e => he (List.eq_nil_of_length_eq_zero (by rw [hyl, e]; rfl))
      have t4 := tups_set (K := K) h3 (.lst (ys ++ [.str sep]))
      refine iteT ⟨_, rfl, .inl ⟨rfl, _, SqL.of h3⟩, _, rfl, d, ys, _, rfl, rfl, h3, small1000 (by omega), ?_⟩
      have h4 : upd H3 d (.lst (ys ++ [.str sep])) d = some (.lst (ys ++ [.str sep])) := upd_same
      refine ⟨_, rfl, .inl ⟨rfl, _, SqL.of h4⟩, _, rfl, _, rfl, z2, pair _ _ (same_set g3 hd _) h4 t4 (by rw [List.length_append, List.length_singleton]; omega) ?_⟩
      rw [if_neg e1]
      exact (hA.mono (ItmH.mono t4)).app (All2.one rfl)
  · rintro σ H3 ⟨s4, ys, rfl, g3, h3, hA⟩
    rw [hxl, List.take_length] at hA
    exact ⟨_, rfl, q H3 d ys g3 h3 hA⟩
end
end Lq
namespace Lq
open PySem L2
def madeI (z : Str) : List Ty → List Itm
  | [] => [.txt z]
  | [t] => [.ty t 2, .txt (" " ++ z)]
  | ts => .txt "(" :: (partI ", " 0 ts ++ [.txt (") " ++ z)])
theorem dec_int' (i j : Int) : decide (V.int i = V.int j) = decide (i = j) := decide_eq_decide.mpr ⟨fun e => by injection e, fun e => by rw [e]⟩
theorem l_bl : (" " : Str).length = 1 := by decide +kernel
theorem l_rs : (") " : Str).length = 2 := by decide +kernel
section
variable {P : Program} {w : World} {K : PySem.W.Frag} {mg : Str → Option Value} {base : Heap} {C : Addr}
abbrev s__made_items : Stmt := top 53
theorem sc__made_items : FnScope ["printed", "types"] ["printed", "types"] (defScope s__made_items) := ⟨rfl, rfl, rfl, by decide +kernel, rfl, by decide +kernel, by decide +kernel⟩
def spMadeI (K : PySem.W.Frag) : Sp := fun vs H Q _ => ∃ (z : Str) (a : Addr) (xs : List V) (ts : List Ty), vs = [.str z, .ref a] ∧ SqT K H a xs ∧ TysH K H ts xs ∧ ts.length ≤ 300 ∧ z.length ≤ 10 ∧
  ∀ (H' : Hp) (p : Addr) (ys : List V), Same H H' → H' p = some (.lst ys) → All2 (ItmH K H') (madeI z ts) ys → Q (.ref p) H'
theorem ok_made_items (A : At K mg "_made_items" s__made_items ["printed", "types"]) (B : Bi mg) (R : Cr mg) (D__parted : Has P w K mg base "_parted" ["types", "separator", "row"] 1 (spParted K)) : Has P w K mg base "_made_items" ["printed", "types"] 2 (spMadeI K) := by
  refine .mk A fun f fd F => ?_
  refine F.ok sc__made_items (fun vs H Q E h => ?_) (fun cdv A outer s H vs Q E hr h => ?_)
  · obtain ⟨z, a, xs, ts, rfl, _⟩ := h
    rfl
  obtain ⟨z, a, xs, ts, rfl, ha, hts, hl, hz, q⟩ := h
  obtain ⟨f__parted, fd__parted, G__parted, b__parted, k__parted, m__parted⟩ := D__parted
  obtain ⟨t0, T_FN_ROW⟩ := R.FN
  obtain ⟨t2, T_NAME_ROW⟩ := R.NAME
  refine ⟨_, (pss_cons (ps_if (pt_cmpR op_eq (pe_callB (lenS K) (by rfl) B.len (by decide +kernel) (pa_cons (pv 1) pa_nil)) pe_int (nomark _)) (pss_one (ps_ret (pe_lst (pa_cons (pv 0) pa_nil)))) pss_nil)
  (pss_cons (ps_if (pt_cmpR op_eq (pe_callB (lenS K) (by rfl) B.len (by decide +kernel) (pa_cons (pv 1) pa_nil)) pe_int (nomark _)) (pss_one (ps_ret (pe_lst (pa_cons (pe_tup (pa_cons (pe_ix (ixT K) (pv 1) pe_int (fun _ _ => rfl)) (pa_cons (pe_glob rfl T_NAME_ROW r_int) pa_nil))) (pa_cons (pe_joined (.cons pe_str (.cons (pe_fmt (pv 0)) .nil))) pa_nil))))) pss_nil)
  (pss_one (ps_ret (pe_lst (pa_cons pe_str (StX.pa_star (pe_call G__parted (hr.mono (by decide)) rfl m__parted k__parted b__parted .nil pass0 (pa_cons (pv 1) (pa_cons pe_str (pa_cons (pe_glob rfl T_FN_ROW r_int) pa_nil)))) (pa_cons (pe_joined (.cons pe_str (.cons (pe_fmt (pv 0)) .nil))) pa_nil)))))))), ?_⟩
  have hxl := hts.len
  refine ⟨_, rfl, a, _, rfl, .inr ha, rfl, _, rfl, ?_⟩
  rw [dec_int']
  match ts, hts, q with
  | [], hts, q =>
    have e : xs = [] := hts.nil_inv
    subst e
    refine iteT ⟨_, rfl, z1, fun l hl => ?_⟩
    exact q _ l [.str z] (same_upd hl _) upd_same (All2.one rfl)
  | [t], hts, q =>
    obtain ⟨x, ys, rfl, ht, hn⟩ := hts.cons_inv
    have e := hn.nil_inv
    subst e
    refine iteF ⟨_, rfl, a, _, rfl, .inr ha, rfl, _, rfl, ?_⟩
    rw [dec_int']
    refine iteT ⟨_, rfl, a, _, _, _, rfl, rfl, ha, atI_nat (j := 0) rfl, z2, fun p hp => ?_⟩
    refine ⟨_, rfl, by decide +kernel, _, rfl, .inl ⟨_, rfl, line20 (by omega), _, rfl, ?_, z2, fun l hl => ?_⟩⟩
    · rw [Str.empty_append, strLen_append]
      exact line20 (by rw [l_bl]; omega)
    rw [Str.empty_append]
    have w1 := same_upd hp (.tup [x, .int (2 : Int)])
    have w2 := same_upd hl (.lst [.ref p, .str (" " ++ z)])
    exact q _ l _ (w1.trans w2) upd_same ⟨_, _, rfl, ⟨p, x, rfl, tups_of w2 _ _ sq_new, ht.mono (tups_of (w1.trans w2))⟩, _, _, rfl, rfl, rfl⟩
  | t :: u :: r, hts, q =>
    obtain ⟨x, ys, rfl, ht, hn⟩ := hts.cons_inv
    obtain ⟨y, zs, rfl, hu, _⟩ := hn.cons_inv
    have hlen : (x :: y :: zs).length = zs.length + 2 := rfl
    rw [decide_eq_false (show ¬ (((x :: y :: zs).length : Nat) : Int) = 0 by rw [hlen]; omega)]
    refine iteF ⟨_, rfl, a, _, rfl, .inr ha, rfl, _, rfl, ?_⟩
    rw [dec_int', decide_eq_false (show ¬ (((x :: y :: zs).length : Nat) : Int) = 1 by rw [hlen]; omega)]
    refine iteF ⟨_, rfl, a, _, _, ", ", 0, rfl, ha, hts, hl, fun H1 p1 ys1 g1 hp1 hA1 => ?_⟩
    have h1l := hA1.len
    have hpl := partI_len ", " 0 (t :: u :: r)
    refine ⟨p1, ys1, rfl, .inr (SqL.of hp1), _, rfl, by decide +kernel, _, rfl, .inl ⟨_, rfl, line20 (by omega), _, rfl, ?_, ?_, fun l hl' => ?_⟩⟩
    · rw [Str.empty_append, strLen_append]
      exact line20 (by rw [l_rs]; omega)
    · show (V.str "(" :: (ys1 ++ [_])).length ≤ sizeLine
      rw [List.length_cons, List.length_append, List.length_singleton]
      exact small300 (by omega)
    rw [Str.empty_append]
    have w1 := same_upd hl' (.lst (V.str "(" :: (ys1 ++ [V.str (") " ++ z)])))
    refine q _ l _ (g1.trans w1) upd_same ?_
    exact ⟨_, _, rfl, rfl, (hA1.mono (ItmH.mono (tups_of w1))).app (All2.one rfl)⟩
end
end Lq
namespace Lq
open PySem L2
def parI (b : Bool) (l : List Itm) : List Itm := if b = true then .txt "(" :: (l ++ [.txt ")"]) else l
def itemsI (nm : Nat → Str) (ms : List Nat) (l : Lab) (ts : List Ty) (r : Nat) : List Itm := match l with
  | .var n => [.txt (varT ms n)]
  | .fn => match ts with
    | [x, y] => parI (decide (0 < r)) [.ty x 1, .txt " -> ", .ty y 0]
    | _ => []
  | .tup => match ts with
    | [] => [.txt "unit"]
    | _ => parI (decide (1 < r)) (partI " * " 2 ts)
  | .made s => madeI (nm s) ts
def nmR (rows : List Row) (s : Nat) : Str := match rows[s - 1]? with
  | some row => row.z
  | none => Str.empty
section
variable {P : Program} {w : World} {K : PySem.W.Frag} {mg : Str → Option Value} {base : Heap} {C : Addr}
abbrev s__items_of : Stmt := top 52
theorem sc__items_of : FnScope ["book", "T", "row", "marked", "own", "items"] ["book", "T", "row", "marked"] (defScope s__items_of) := ⟨rfl, rfl, rfl, by decide +kernel, rfl, by decide +kernel, by decide +kernel⟩
def spItems (K : PySem.W.Frag) (C : Addr) : Sp := fun vs H Q _ => ∃ (b v : V) (rows : List Row) (T : Ty) (r : Nat) (a : Addr) (ms : List Nat), vs = [b, v, .int (r : Int), .ref a] ∧ BookH K C H rows b ∧ TyH K H T v ∧ LocOk (arOf rows) T.lab T.kids.length ∧ T.kids.length ≤ 300 ∧
  (∀ n, T.lab.num = some n → n < 1000) ∧ r ≤ 2 ∧ SqT K H a (natV ms) ∧ (∀ row ∈ rows, row.z.length ≤ 10) ∧
  ∀ (H' : Hp) (p : Addr) (ys : List V), Same H H' → H' p = some (.lst ys) → All2 (ItmH K H') (itemsI (nmR rows) ms T.lab T.kids r) ys → Q (.ref p) H'
theorem ok_items_of (A : At K mg "_items_of" s__items_of ["book", "T", "row", "marked"]) (B : Bi mg) (R : Cr mg) (T : Bk K mg C) (D__variable_text : Has P w K mg base "_variable_text" ["number", "marked"] 1 (spVarT K)) (D__parted : Has P w K mg base "_parted" ["types", "separator", "row"] 1 (spParted K)) (D__made_items : Has P w K mg base "_made_items" ["printed", "types"] 2 (spMadeI K)) (DM_printed : HasM P w K mg base C "printed" ["self", "stamp"] 3 (spPrinted K C)) : Has P w K mg base "_items_of" ["book", "T", "row", "marked"] 4 (spItems K C) := by
  refine .mk A fun f fd F => ?_
  refine F.ok sc__items_of (fun vs H Q E h => ?_) (fun cdv A outer s H vs Q E hr h => ?_)
  · obtain ⟨b, v, rows, T, r, a, ms, rfl, _⟩ := h
    rfl
  obtain ⟨b, v, rows, T', r, a, ms, rfl, hB, hT, hloc, hkl, hnum, hr2, ha, hz, q⟩ := h
  obtain ⟨f__variable_text, fd__variable_text, G__variable_text, b__variable_text, k__variable_text, m__variable_text⟩ := D__variable_text
  obtain ⟨f__parted, fd__parted, G__parted, b__parted, k__parted, m__parted⟩ := D__parted
  obtain ⟨f__made_items, fd__made_items, G__made_items, b__made_items, k__made_items, m__made_items⟩ := D__made_items
  obtain ⟨fm_printed, fdm_printed, GM_printed, bm_printed, mm_printed⟩ := DM_printed
  obtain ⟨t0, T_FN_ROW⟩ := R.FN
  obtain ⟨t1, T_TUPLE_ROW⟩ := R.TUPLE
  obtain ⟨t2, T_NAME_ROW⟩ := R.NAME
  refine ⟨_, (pss_cons (ps_if (pt_cmpR op_eq (pe_ix (ixT K) (pv 1) pe_int (fun _ _ => rfl)) pe_str (nomark _)) (pss_one (ps_ret (pe_lst (pa_cons (pe_call G__variable_text (hr.mono (by decide)) rfl m__variable_text k__variable_text b__variable_text .nil pass0 (pa_cons (pe_ix (ixT K) (pv 1) pe_int (fun _ _ => rfl)) (pa_cons (pv 3) pa_nil))) pa_nil)))) pss_nil)
  (C8.pss_cut (ps_if (pt_cmpR op_eq (pe_ix (ixT K) (pv 1) pe_int (fun _ _ => rfl)) pe_str (nomark _)) (pss_one (ps_par (i := 4) (j := 5) rfl sc__items_of.nd rfl rfl (by decide) rfl rfl (pa_cons (pe_glob rfl T_FN_ROW r_int) (pa_cons (pe_lst (pa_cons (pe_tup (pa_cons (pe_ix (ixT K) (pv 1) pe_int (fun _ _ => rfl)) (pa_cons (pe_glob rfl T_TUPLE_ROW r_int) pa_nil))) (pa_cons pe_str (pa_cons (pe_tup (pa_cons (pe_ix (ixT K) (pv 1) pe_int (fun _ _ => rfl)) (pa_cons (pe_glob rfl T_FN_ROW r_int) pa_nil))) pa_nil)))) pa_nil)) rfl)) (pss_one (ps_if (pt_cmpR op_eq (pe_ix (ixT K) (pv 1) pe_int (fun _ _ => rfl)) pe_str (nomark _)) (pss_one (ps_par (i := 4) (j := 5) rfl sc__items_of.nd rfl rfl (by decide) rfl rfl (pa_cons (pe_glob rfl T_TUPLE_ROW r_int) (pa_cons (pe_call G__parted (hr.mono (by decide)) rfl m__parted k__parted b__parted .nil pass0 (pa_cons (pe_ix (ixT K) (pv 1) pe_int (fun _ _ => rfl)) (pa_cons pe_str (pa_cons (pe_glob rfl T_NAME_ROW r_int) pa_nil)))) pa_nil)) rfl)) (pss_one (ps_par (i := 4) (j := 5) rfl sc__items_of.nd rfl rfl (by decide) rfl rfl (pa_cons (pe_glob rfl T_NAME_ROW r_int) (pa_cons (pe_call G__made_items (hr.mono (by decide)) rfl m__made_items k__made_items b__made_items .nil pass0 (pa_cons (pe_meth (pv 0) T.cl mm_printed GM_printed (hr.mono (by decide)) bm_printed .nil pass0 (pa_cons (pe_ix (ixT K) (pv 1) pe_int (fun _ _ => rfl)) pa_nil)) (pa_cons (pe_ix (ixT K) (pv 1) pe_int (fun _ _ => rfl)) pa_nil))) pa_nil)) rfl)))))
  (pss_cons (ps_if (pt_not (pt_truth (pv 5) (by intro _; rfl))) (pss_one (ps_ret (pe_lst (pa_cons pe_str pa_nil)))) pss_nil)
  (pss_one (ps_ret (pe_ifExp (pt_cmpR op_lt (pv 4) (pv 2) (nomark _)) (pe_lst (pa_cons pe_str (StX.pa_star (pv 5) (pa_cons pe_str pa_nil)))) (pv 5))))))), ?_⟩
  obtain ⟨p, xs, rfl, ⟨rr, hS, hR⟩, hK⟩ := hT.out
  have i0 : atI (V.str T'.lab.word :: rr) 0 = some (V.str T'.lab.word) := atI_nat (j := 0) rfl
  refine ⟨_, rfl, p, _, _, _, rfl, rfl, hS, i0, rfl, _, rfl, ?_⟩
  rw [w_var]
  obtain ⟨l, ts⟩ := T'
  have hloc : LocOk (arOf rows) l ts.length := hloc
  have hkl : ts.length ≤ 300 := hkl
  have hK : TysH K H ts xs := hK
  have hxl := hK.len
  have q : ∀ (H' : Hp) (p : Addr) (ys : List V), Same H H' → H' p = some (.lst ys) → All2 (ItmH K H') (itemsI (nmR rows) ms l ts r) ys → Q (.ref p) H' := q
  cases hv : (Ty.node l ts).lab.isVar with
  | true =>
    cases l with
    | var n =>
      obtain ⟨_, rfl⟩ := hR
      have hn := hnum n rfl
      exact iteT ⟨_, rfl, p, _, _, _, rfl, rfl, hS, atI_nat (j := 1) rfl, _, rfl, n, a, ms, rfl, ha, hn, z1, fun l hl => q _ l [.str (varT ms n)] (same_upd hl _) upd_same (All2.one rfl)⟩
    | _ => cases hv
  | false =>
    refine iteF ⟨fun σ H1 => ∃ (o : Nat) (p1 : Addr) (ys : List V) (its : List Itm), σ = [some b, some (.ref p), some (.int (r : Int)), some (.ref a), some (.int (o : Int)), some (.ref p1)] ∧ Same H H1 ∧ H1 p1 = some (.lst ys) ∧ All2 (ItmH K H1) its ys ∧ its.length ≤ 700 ∧
      (its = [] → itemsI (nmR rows) ms l ts r = [.txt "unit"]) ∧ (its ≠ [] → itemsI (nmR rows) ms l ts r = parI (decide (o < r)) its), ?_, ?_⟩
    · refine ⟨_, rfl, p, _, _, _, rfl, rfl, hS, i0, rfl, _, rfl, ?_⟩
      rw [w_fn]
      cases l with
      | var n => cases hv
      | fn =>
        obtain ⟨rfl, h2⟩ := hR
        match ts, xs, hK, h2 with
        | [x, y], [vx, vy], hK, _ =>
          obtain ⟨_, _, e, hx, hy⟩ := hK.cons_inv
          injection e with e1 e2
          subst e1 e2
          obtain ⟨_, _, e, hy, _⟩ := hy.cons_inv
          injection e with e1 e2
          subst e1
          refine iteT ⟨_, rfl, p, _, _, _, rfl, rfl, hS, atI_nat (j := 1) rfl, z2, fun pa hpa => ?_⟩
          have w1 := same_upd hpa (.tup [vx, .int (1 : Int)])
          refine ⟨_, rfl, p, _, _, _, rfl, rfl, tups_of w1 _ _ hS, atI_nat (j := 2) rfl, z2, fun pb hpb => ⟨z3, fun pl hpl => ?_⟩⟩
          have w2 := same_upd hpb (.tup [vy, .int (0 : Int)])
          have w3 := same_upd hpl (.lst [.ref pa, .str " -> ", .ref pb])
          refine ⟨_, _, rfl, 0, pl, _, [.ty x 1, .txt " -> ", .ty y 0], rfl, w1.trans (w2.trans w3), upd_same, ?_, (by show 3 ≤ 700; decide), fun e => (nomatch e), fun _ => rfl⟩
          exact ⟨_, _, rfl, ⟨pa, vx, rfl, tups_of (w2.trans w3) _ _ sq_new, hx.mono (tups_of (w1.trans (w2.trans w3)))⟩, _, _, rfl, rfl, _, _, rfl, ⟨pb, vy, rfl, tups_of w3 _ _ sq_new, hy.mono (tups_of (w1.trans (w2.trans w3)))⟩, rfl⟩
        | [x, y], [], _, h2 => exact absurd h2 (by decide)
        | [x, y], [_], _, h2 => exact absurd h2 (by show ¬ (1 : Nat) = 2; decide)
        | [x, y], _ :: _ :: _ :: _, _, h2 => exact absurd h2 (by rw [List.length_cons, List.length_cons, List.length_cons]; omega)
        | [], xs, hK, h2 => exact absurd (hK.len.symm.trans h2 : (0 : Nat) = 2) (by decide)
        | [_], xs, hK, h2 => exact absurd (hK.len.symm.trans h2) (by show ¬ (1 : Nat) = 2; decide)
        | _ :: _ :: _ :: l3, xs, hK, h2 => exact absurd (hK.len.symm.trans h2) (by show ¬ (l3.length + 1 + 1 + 1 = 2); omega)
      | tup =>
        obtain ⟨pb, rfl, hb⟩ := hR
        refine iteF ⟨_, rfl, p, _, _, _, rfl, rfl, hS, i0, rfl, _, rfl, ?_⟩
        rw [w_tup]
        refine iteT ⟨_, rfl, p, _, _, _, rfl, rfl, hS, atI_nat (j := 1) rfl, pb, xs, ts, " * ", 2, rfl, hb, hK, hkl, fun H1 p1 ys1 g1 hp1 hA1 => ?_⟩
        have hpl := partI_len " * " 2 ts
        refine ⟨_, _, rfl, 1, p1, ys1, _, rfl, g1, hp1, hA1, by omega, fun e => ?_, fun e => ?_⟩
        · have := (partI_nil " * " 2 ts).mp e
          subst this
          rfl
        · cases ts with
          | nil => exact absurd rfl e
          | cons t r2 => rfl
      | made st =>
        obtain ⟨pb, rfl, hb⟩ := hR
        obtain ⟨h0, h60, har⟩ := hloc
        have hrow : ∃ row, rows[st - 1]? = some row := by
          unfold arOf at har
          rw [List.getElem?_map] at har
          cases h : rows[st - 1]? with
          | none => rw [h] at har; cases har
          | some row => exact ⟨row, rfl⟩
        obtain ⟨row, hrow⟩ := hrow
        have enm : nmR rows st = row.z := by unfold nmR; rw [hrow]
        refine iteF ⟨_, rfl, p, _, _, _, rfl, rfl, hS, i0, rfl, _, rfl, ?_⟩
        rw [w_tup]
        have hB' := hB
        obtain ⟨bb, dx, br, bq, brs, rfl, hbb, _⟩ := hB
        refine iteF ⟨_, rfl, bb, dx, _, rfl, hbb, bf_no _ _ (by decide +kernel) (by decide +kernel), _, rfl, p, _, _, _, rfl, rfl, hS, atI_nat (j := 1) rfl, _, rows, st, row, rfl, hB', h0, h60, hrow, ?_⟩
        refine ⟨_, rfl, p, _, _, _, rfl, rfl, hS, atI_nat (j := 2) rfl, row.z, pb, xs, ts, rfl, hb, hK, hkl, hz row (List.mem_of_getElem? hrow), fun H1 p1 ys1 g1 hp1 hA1 => ?_⟩
        have hlen : (madeI row.z ts).length ≤ 700 ∧ madeI row.z ts ≠ [] := by
          match ts, hkl with
          | [], _ => exact ⟨by show 1 ≤ 700; decide, fun e => (nomatch e)⟩
          | [_], _ => exact ⟨by show 2 ≤ 700; decide, fun e => (nomatch e)⟩
          | t :: u :: r2, hkl =>
            have hpl := partI_len ", " 0 (t :: u :: r2)
            refine ⟨?_, fun e => (nomatch e)⟩
            show (_ :: (partI ", " 0 (t :: u :: r2) ++ [_])).length ≤ 700
            rw [List.length_cons, List.length_append, List.length_singleton]
            omega
        refine ⟨_, _, rfl, 2, p1, ys1, _, rfl, g1, hp1, hA1, hlen.1, fun e => absurd e hlen.2, fun _ => ?_⟩
        show madeI (nmR rows st) ts = parI (decide (2 < r)) (madeI row.z ts)
        rw [enm, decide_eq_false (show ¬ 2 < r by omega)]
        rfl
    · rintro σ1 H1 ⟨o, p1, ys, its, rfl, g1, hp1, hA, hl7, h0, h1⟩
      have hyl := hA.len
      refine ⟨_, rfl, _, .inl ⟨ys, SqL.of hp1, rfl⟩, ?_⟩
      by_cases he : ys = []
      · subst he
        have e : its = [] := List.eq_nil_of_length_eq_zero hyl.symm
        refine iteT ⟨z1, fun l hl => q _ l [.str "unit"] (g1.trans (same_upd hl _)) upd_same ?_⟩
        rw [h0 e]
        exact All2.one rfl
      · have ee : (!ys.isEmpty) = true := by
          cases ys with
          | nil => exact absurd rfl he
          | cons _ _ => rfl
        have hne : its ≠ [] := fun e => he (List.eq_nil_of_length_eq_zero (by rw [hyl, e]; rfl))
        rw [ee]
        refine iteF ⟨_, rfl, _, rfl, _, _, rfl, rfl, _, rfl, ?_⟩
        have h1 := h1 hne
        by_cases ho : o < r
        · rw [decide_eq_true (show (o : Int) < (r : Int) by omega)]
          rw [decide_eq_true ho] at h1
          refine iteT ⟨_, rfl, p1, ys, rfl, .inr (SqL.of hp1), ?_, fun l hl => ?_⟩
          · show (V.str "(" :: (ys ++ [_])).length ≤ sizeLine
            rw [List.length_cons, List.length_append, List.length_singleton]
            exact small300 (by omega)
          have w1 := same_upd hl (.lst (V.str "(" :: (ys ++ [V.str ")"])))
          refine q _ l _ (g1.trans w1) upd_same ?_
          rw [h1]
          exact ⟨_, _, rfl, rfl, (hA.mono (ItmH.mono (tups_of w1))).app (All2.one rfl)⟩
        · rw [decide_eq_false (show ¬ (o : Int) < (r : Int) by omega)]
          rw [decide_eq_false ho] at h1
          refine iteF ⟨_, rfl, q H1 p1 ys g1 hp1 ?_⟩
          rw [h1]
          exact hA
end
end Lq
namespace Lq
open PySem L2
#print Txt.join
#print Str.join
theorem sapp_assoc (a b c : Str) : a ++ b ++ c = a ++ (b ++ c) := by
  have h : ∀ x y : Str, x.cps = y.cps → x = y := fun x y e => by
    cases x
    cases y
    exact congrArg Str.mk e
  exact h _ _ (Array.append_assoc (xs := a.cps) (ys := b.cps) (zs := c.cps))
def txI (nm : Nat → Str) (ms : List Nat) : Itm → Str
  | .txt s => s
  | .ty T r => T.tx nm ms r
def catI (nm : Nat → Str) (ms : List Nat) : List Itm → Str
  | [] => Str.empty
  | i :: r => txI nm ms i ++ catI nm ms r
theorem catI_cons (nm : Nat → Str) (ms : List Nat) (i : Itm) (r : List Itm) : catI nm ms (i :: r) = txI nm ms i ++ catI nm ms r := rfl
theorem catI_app (nm : Nat → Str) (ms : List Nat) (b : List Itm) : ∀ a : List Itm, catI nm ms (a ++ b) = catI nm ms a ++ catI nm ms b
  | [] => (Str.empty_append _).symm
  | i :: r => by
    show txI nm ms i ++ catI nm ms (r ++ b) = txI nm ms i ++ catI nm ms r ++ catI nm ms b
    rw [catI_app nm ms b r, sapp_assoc]
theorem catI_part (nm : Nat → Str) (ms : List Nat) (sep : Str) (r : Nat) : ∀ ts : List Ty, catI nm ms (partI sep r ts) = Str.join sep (ts.map fun t => t.tx nm ms r)
  | [] => rfl
  | [t] => Str.append_empty _
  | t :: u :: q => by
    show t.tx nm ms r ++ (sep ++ catI nm ms (partI sep r (u :: q))) = t.tx nm ms r ++ sep ++ Str.join sep ((u :: q).map fun t => t.tx nm ms r)
    rw [catI_part nm ms sep r (u :: q), sapp_assoc]
theorem catI_par (nm : Nat → Str) (ms : List Nat) (b : Bool) (l : List Itm) : catI nm ms (parI b l) = parT b (catI nm ms l) := by
  unfold parI parT
  cases b with
  | false => rfl
  | true =>
    show (_ : Str) ++ catI nm ms (l ++ [.txt ")"]) = _ ++ catI nm ms l ++ _
    rw [catI_app, sapp_assoc]
    show _ ++ (_ ++ ((_ : Str) ++ Str.empty)) = _
    rw [Str.append_empty]
    rfl
theorem txs_a (nm : Nat → Str) (ms : List Nat) (ts : List Ty) : (Ty.txs nm ms ts).map T3.a = ts.map fun t => t.tx nm ms 0 := by rw [txs_map, List.map_map]; rfl
theorem txs_c (nm : Nat → Str) (ms : List Nat) (ts : List Ty) : (Ty.txs nm ms ts).map T3.c = ts.map fun t => t.tx nm ms 2 := by rw [txs_map, List.map_map]; rfl
theorem catI_items (nm : Nat → Str) (ms : List Nat) (l : Lab) (ts : List Ty) (r : Nat) (h : l = .fn → ts.length = 2) : catI nm ms (itemsI nm ms l ts r) = (Ty.node l ts).tx nm ms r := by
  rw [tx_eq]
  show _ = wrapT nm ms l (Ty.txs nm ms ts) r
  cases l with
  | var n => exact Str.append_empty _
  | fn =>
    match ts, h rfl with
    | [x, y], _ =>
      rw [txs_cons, txs_cons, txs_nil]
      show catI nm ms (parI (decide (0 < r)) _) = parT (decide (0 < r)) _
      rw [catI_par]
      show parT _ (_ ++ (_ ++ (_ ++ Str.empty))) = _
      rw [Str.append_empty, ← sapp_assoc]
      rfl
  | tup =>
    match ts with
    | [] => exact Str.append_empty _
    | t :: q =>
      have e := txs_c nm ms (t :: q)
      rw [txs_cons] at e ⊢
      show catI nm ms (parI (decide (1 < r)) _) = parT (decide (1 < r)) (Str.join " * " (T3.c _ :: _))
      rw [catI_par, catI_part, ← e]
      rfl
  | made s =>
    match ts with
    | [] => exact Str.append_empty _
    | [t] =>
      rw [txs_cons, txs_nil]
      show t.tx nm ms 2 ++ (" " ++ nm s ++ Str.empty) = t.tx nm ms 2 ++ " " ++ nm s
      rw [Str.append_empty, sapp_assoc]
    | t :: u :: q =>
      have e := txs_a nm ms (t :: u :: q)
      rw [txs_cons, txs_cons] at e ⊢
      show (_ : Str) ++ catI nm ms (partI ", " 0 (t :: u :: q) ++ [.txt (") " ++ nm s)]) = _ ++ Str.join ", " _ ++ _ ++ nm s
      rw [catI_app, catI_part, ← e]
      show (_ : Str) ++ (_ ++ (") " ++ nm s ++ Str.empty)) = _
      rw [Str.append_empty, sapp_assoc, sapp_assoc]
      rfl
def GTy (ar : List Nat) (T : Ty) : Prop := (∀ t ∈ T.pre, LocOk ar t.lab t.kids.length ∧ ∀ n, t.lab.num = some n → n < 1000) ∧ T.sz ≤ 300
theorem GTy.kid {ar : List Nat} {l : Lab} {ts : List Ty} (h : GTy ar (.node l ts)) : ∀ t ∈ ts, GTy ar t := fun t ht => by
  refine ⟨fun u hu => h.1 u (by rw [pre_eq]; exact List.mem_cons_of_mem _ (mem_pres ht hu)), ?_⟩
  have h1 : t.sz ≤ Ty.szs ts := by
    obtain ⟨a, b, rfl⟩ := List.append_of_mem ht
    rw [szs_app, szs_cons]
    omega
  have h2 : (Ty.node l ts).sz = Ty.szs ts + 1 := by rw [Ty.sz]
  have h3 := h.2
  omega
def wI : Itm → Nat
  | .txt _ => 1
  | .ty T _ => 6 * T.sz - 2
def wIs : List Itm → Nat
  | [] => 0
  | i :: r => wI i + wIs r
theorem wIs_cons (i : Itm) (r : List Itm) : wIs (i :: r) = wI i + wIs r := rfl
theorem wIs_app (b : List Itm) : ∀ a : List Itm, wIs (a ++ b) = wIs a + wIs b
  | [] => (Nat.zero_add _).symm
  | i :: r => by
    show wI i + wIs (r ++ b) = wI i + wIs r + wIs b
    rw [wIs_app b r]
    omega
theorem wIs_rev : ∀ a : List Itm, wIs a.reverse = wIs a
  | [] => rfl
  | i :: r => by
    rw [List.reverse_cons, wIs_app, wIs_rev r]
    show wIs r + (wI i + 0) = wI i + wIs r
    omega
theorem wI_pos (i : Itm) : 1 ≤ wI i := by
  cases i with
  | txt s => exact Nat.le_refl _
  | ty T r =>
    have := sz_pos T
    show 1 ≤ 6 * T.sz - 2
    omega
theorem wIs_len : ∀ a : List Itm, a.length ≤ wIs a
  | [] => Nat.le_refl _
  | i :: r => by
    have := wIs_len r
    have := wI_pos i
    rw [List.length_cons, wIs_cons]
    omega
theorem wIs_part (sep : Str) (r : Nat) : ∀ ts : List Ty, wIs (partI sep r ts) + ts.length ≤ 6 * Ty.szs ts
  | [] => Nat.zero_le _
  | [t] => by
    have := sz_pos t
    rw [szs_cons, szs_nil]
    show 6 * t.sz - 2 + 0 + 1 ≤ _
    omega
  | t :: u :: q => by
    have h := wIs_part sep r (u :: q)
    have := sz_pos t
    rw [szs_cons, List.length_cons]
    show 6 * t.sz - 2 + (1 + wIs (partI sep r (u :: q))) + _ ≤ _
    omega
theorem wIs_par (b : Bool) (l : List Itm) : wIs (parI b l) ≤ wIs l + 2 := by
  unfold parI
  cases b with
  | false => exact Nat.le_add_right _ _
  | true =>
    rw [if_pos rfl, wIs_cons, wIs_app]
    show 1 + (wIs l + (1 + 0)) ≤ _
    omega
theorem wIs_items (nm : Nat → Str) (ms : List Nat) (l : Lab) (ts : List Ty) (r : Nat) : wIs (itemsI nm ms l ts r) < 6 * (Ty.node l ts).sz - 2 := by
  have hs : (Ty.node l ts).sz = Ty.szs ts + 1 := by rw [Ty.sz]
  rw [hs]
  cases l with
  | var n => show 1 + 0 < _; omega
  | fn =>
    match ts with
    | [x, y] =>
      have h1 := sz_pos x
      have h2 := sz_pos y
      have := wIs_par (decide (0 < r)) [.ty x 1, .txt " -> ", .ty y 0]
      have e : wIs [.ty x 1, .txt " -> ", .ty y 0] = 6 * x.sz - 2 + (1 + (6 * y.sz - 2 + 0)) := rfl
      rw [szs_cons, szs_cons, szs_nil]
      show wIs (parI _ _) < _
      omega
    | [] => show 0 < _; omega
    | [_] => show 0 < _; omega
    | _ :: _ :: _ :: _ => show 0 < _; omega
  | tup =>
    match ts with
    | [] => show 1 + 0 < _; omega
    | t :: q =>
      have := wIs_par (decide (1 < r)) (partI " * " 2 (t :: q))
      have := wIs_part " * " 2 (t :: q)
      show wIs (parI _ _) < _
      omega
  | made s =>
    match ts with
    | [] => show 1 + 0 < _; omega
    | [t] =>
      have := sz_pos t
      rw [szs_cons, szs_nil]
      show 6 * t.sz - 2 + (1 + 0) < _
      omega
    | t :: u :: q =>
      have h := wIs_part ", " 0 (t :: u :: q)
      show 1 + wIs (partI ", " 0 (t :: u :: q) ++ [.txt (") " ++ nm s)]) < _
      rw [wIs_app]
      show 1 + (_ + (1 + 0)) < _
      omega
def ItG (ar : List Nat) : Itm → Prop
  | .txt s => s.length ≤ 20
  | .ty T r => GTy ar T ∧ r ≤ 2
theorem part_good {ar : List Nat} {sep : Str} {r : Nat} (hs : sep.length ≤ 20) (hr : r ≤ 2) : ∀ {ts : List Ty}, (∀ t ∈ ts, GTy ar t) → ∀ i ∈ partI sep r ts, ItG ar i
  | [], _, i, hi => (nomatch hi)
  | [t], h, i, hi => by
    rw [List.mem_singleton.mp hi]
    exact ⟨h t (List.mem_singleton_self _), hr⟩
  | t :: u :: q, h, i, hi => by
    rcases List.mem_cons.mp hi with rfl | hi
    · exact ⟨h t List.mem_cons_self, hr⟩
    rcases List.mem_cons.mp hi with rfl | hi
    · exact hs
    · exact part_good hs hr (fun x hx => h x (List.mem_cons_of_mem _ hx)) i hi
theorem par_good {ar : List Nat} {b : Bool} {l : List Itm} (h : ∀ i ∈ l, ItG ar i) : ∀ i ∈ parI b l, ItG ar i := fun i hi => by
  unfold parI at hi
  cases b with
  | false => exact h i hi
  | true =>
    rcases List.mem_cons.mp hi with rfl | hi
    · show ("(" : Str).length ≤ 20
      decide +kernel
    rcases List.mem_append.mp hi with hi | hi
    · exact h i hi
    · rw [List.mem_singleton.mp hi]
      show (")" : Str).length ≤ 20
      decide +kernel
theorem varT_len (ms : List Nat) {n : Nat} (h : n < 1000) : (varT ms n).length ≤ 20 := by
  have h1 : (tailT n).length ≤ 2 := by
    unfold tailT
    split
    · exact digs_len (n / 26) (by omega)
    · show (0 : Nat) ≤ 2
      decide
  have h2 : (if n ∈ ms then dq else sq1).length ≤ 2 := by
    split
    · decide +kernel
    · decide +kernel
  unfold varT
  rw [strLen_append, strLen_append]
  have h3 : (letT n).length = 1 := rfl
  omega
theorem items_good {ar : List Nat} {nm : Nat → Str} {ms : List Nat} {l : Lab} {ts : List Ty} {r : Nat} (h : GTy ar (.node l ts)) (hz : ∀ s, (nm s).length ≤ 10) : ∀ i ∈ itemsI nm ms l ts r, ItG ar i := fun i hi => by
  have hk := h.kid
  have hn : ∀ n, l.num = some n → n < 1000 := (h.1 (.node l ts) (by rw [pre_eq]; exact List.mem_cons_self)).2
  cases l with
  | var n =>
    rw [List.mem_singleton.mp hi]
    exact varT_len ms (hn n rfl)
  | fn =>
    match ts, hi with
    | [x, y], hi =>
      refine par_good (fun i hi => ?_) i hi
      rcases List.mem_cons.mp hi with rfl | hi
      · exact ⟨hk x List.mem_cons_self, by omega⟩
      rcases List.mem_cons.mp hi with rfl | hi
      · show (" -> " : Str).length ≤ 20
        decide +kernel
      · rw [List.mem_singleton.mp hi]
        exact ⟨hk y (List.mem_cons_of_mem _ (List.mem_singleton_self _)), by omega⟩
  | tup =>
    match ts, hi with
    | [], hi =>
      rw [List.mem_singleton.mp hi]
      show ("unit" : Str).length ≤ 20
      decide +kernel
    | t :: q, hi => exact par_good (part_good (by decide +kernel) (by omega) hk) i hi
  | made s =>
    have h1 := hz s
    match ts, hi with
    | [], hi =>
      rw [List.mem_singleton.mp hi]
      show (nm s).length ≤ 20
      omega
    | [t], hi =>
      rcases List.mem_cons.mp hi with rfl | hi
      · exact ⟨hk t List.mem_cons_self, by omega⟩
      · rw [List.mem_singleton.mp hi]
        show (" " ++ nm s).length ≤ 20
        rw [strLen_append, l_bl]
        omega
    | t :: u :: q, hi =>
      rcases List.mem_cons.mp hi with rfl | hi
      · show ("(" : Str).length ≤ 20
        decide +kernel
      rcases List.mem_append.mp hi with hi | hi
      · exact part_good (by decide +kernel) (by omega) hk i hi
      · rw [List.mem_singleton.mp hi]
        show (") " ++ nm s).length ≤ 20
        rw [strLen_append, l_rs]
        omega
end Lq
namespace Lq
open PySem PyProof.Rows HT
theorem slicePick_back (xs : List Value) : slicePick xs.toArray none none (some (-1)) = xs.reverse.toArray := by
  unfold slicePick
  congr 1
  have hb : sliceBounds none none (some (-1)) xs.toArray.size = ((xs.length : Int) - 1, -1, -1) := by
    rw [List.size_toArray]
    rfl
  rw [hb]
  show (sliceRange ((xs.length : Int) - 1) (-1) (-1)).filterMap _ = _
  have hc : ∀ n : Nat, sliceRange ((n : Int) - 1) (-1) (-1) = (List.range n).map fun (k : Nat) => ((n : Int) - 1 + (-1) * (k : Int)).toNat := by
    intro n
    unfold sliceRange
    rw [if_neg (by decide)]
    have e : (if ((n : Int) - 1) > -1 then ((n : Int) - 1 - -1 - -1 - 1) / (- -1) else 0).toNat = n := by
      by_cases h : (n : Int) - 1 > -1
      · rw [if_pos h, show (-(-1) : Int) = 1 from rfl, Int.ediv_one]
        omega
      · rw [if_neg h]
        omega
    show (List.range ((if ((n : Int) - 1) > -1 then ((n : Int) - 1 - -1 - -1 - 1) / (- -1) else 0).toNat)).map _ = _
    rw [e]
  rw [hc, List.filterMap_map, ← pick_back]
  refine fm_congr fun k _ => ?_
  show xs.toArray[((xs.length : Int) - 1 + (-1) * (k : Int)).toNat]? = xs.toArray[((xs.length : Int) - 1 + (k : Int) * (-1)).toNat]?
  rw [Int.mul_comm]
end Lq
namespace Lq
open PySem PySem.Spec PyProof.Rows L2
section
variable {X : Cx}
/-- l[::-1], l a list -/
def tBackL (K : PySem.W.Frag) (te : TE) : TE := fun σ H Q => te σ H fun x H1 => ∃ a xs, x = .ref a ∧ SqL K H1 a xs ∧ ∀ p, H1 p = none → Q (.ref p) (upd H1 p (.lst xs.reverse))
theorem pe_backL {e : Expr} {te : TE} {k : Nat} {p1 p2 p3 pos : Pos} (he : PE X e te) :
    PE X (.Subscript e (.Slice none none (some (.UnaryOp .USub (.Constant (.int 1) k p1) p2)) p3) pos) (tBackL X.K te) := by
  refine ⟨fun pins s σ H Q I h => ?_⟩
  refine Subscript_ (thn (he.run pins s σ H _ I h) fun v s1 ⟨x, H1, I1, r1, q1⟩ => ?_)
  obtain ⟨a, xs, ex, hx, q⟩ := q1
  subst ex
  cases r1
  have hst : PO X (some (.UnaryOp .USub (.Constant (.int 1) k p1) p2)) (tPart (tUn (rU fun i => .int (-i)) (tC (.int 1)))) :=
    po_some (pe_un un_neg pe_int)
  refine wpAny_Slice (thn (po_none.run pins s1 σ H1 (fun o H2 => o = none ∧ H2 = H1) I1 ⟨rfl, rfl⟩)
    fun vl s2 ⟨l, H2, I2, pl, el, e2⟩ => ?_)
  subst el e2
  refine thn (po_none.run pins s2 σ H2 (fun o H3 => o = none ∧ H3 = H2) I2 ⟨rfl, rfl⟩)
    fun vu s3 ⟨u, H3, I3, pu, eu, e3⟩ => ?_
  subst eu e3
  refine thn (hst.run pins s3 σ H3 (fun o H4 => o = some (-1) ∧ H4 = H3) I3 ⟨1, rfl, -1, rfl, rfl, rfl⟩)
    fun vs s4 ⟨o, H4, I4, ps, eo, e4⟩ => ?_
  subst eo e4
  let s5 : Shared := { s4 with heap := s4.heap.push { cls := .type "slice", data := .fields #[vl, vu, vs] } }
  have I5 : Inv X pins σ H4 s5 := I4.kept (t' := s4.toks) fun b ob q => Heap.get?_push_of_some _ q
  obtain ⟨its, r, ht, hz⟩ := I5.list hx
  have hlen := r.length
  show wpAny (model X.prog X.w) X.A (subscriptTail e (.Slice none none (some (.UnaryOp .USub (.Constant (.int 1) k p1) p2)) p3) (.ref a) (.ref s4.heap.objs.size))
    (EP X pins σ Q) X.xe s5
  refine tail_any (ops := [.ref a, .ref s4.heap.objs.size]) ht.isList.typeIs slot_list_getitem.lookup ?_ (by with_unfolding_all rfl)
  refine wpAny_getItem_list_slice ht.isList (Heap.IsSliceOf.new _ _ _ vs) pl pu ps (by decide) ?_ (by rw [List.size_toArray] <;> omega)
  rw [slicePick_back]
  refine ⟨.ref _, _, I5.laid (t' := s4.toks) (o := .lst xs.reverse) (fun b ob q => Heap.get?_push_of_some _ q) (Nat.le_refl _) ?_, rfl, q _ (I5.hok.fresh (Nat.le_refl _))⟩
  exact ⟨by rw [List.length_reverse]; exact hz, _, 0, r.reverse, Heap.get?_push_size _ rfl⟩
end
end Lq
namespace Lq
open PySem L2
def catS : List Str → Str
  | [] => Str.empty
  | s :: r => s ++ catS r
theorem catS_snoc (x : Str) : ∀ a : List Str, catS (a ++ [x]) = catS a ++ x
  | [] => (Str.append_empty x).trans (Str.empty_append x).symm
  | s :: r => by
    show s ++ catS (r ++ [x]) = s ++ catS r ++ x
    rw [catS_snoc x r, sapp_assoc]
theorem str_ext {x y : Str} (e : x.cps = y.cps) : x = y := by
  cases x
  cases y
  exact congrArg Str.mk e
theorem glue_fold : ∀ (ys : List Str) (acc : Array Nat), List.foldl (fun acc (p : Str) => acc ++ Str.empty.cps ++ p.cps) acc ys = acc ++ (catS ys).cps
  | [], acc => by
    show acc = acc ++ (#[] : Array Nat)
    exact (Array.append_empty).symm
  | s :: r, acc => by
    rw [List.foldl_cons, glue_fold r]
    show acc ++ (#[] : Array Nat) ++ s.cps ++ (catS r).cps = acc ++ (s.cps ++ (catS r).cps)
    rw [Array.append_empty, Array.append_assoc]
theorem join_cat (ys : List Str) : Txt.join "" ys = catS ys := by
  apply str_ext
  match ys with
  | [] => rfl
  | s :: r => exact glue_fold r s.cps
section
variable {P : Program} {w : World} {K : PySem.W.Frag} {mg : Str → Option Value} {base : Heap} {C : Addr}
abbrev s_text_with : Stmt := top 54
theorem sc_text_with : FnScope ["book", "T", "marked", "todo", "found", "item", "part", "row"] ["book", "T", "marked"] (defScope s_text_with) := ⟨rfl, rfl, rfl, by decide +kernel, rfl, by decide +kernel, by decide +kernel⟩
def spTextW (K : PySem.W.Frag) (C : Addr) : Sp := fun vs H Q _ => ∃ (b v : V) (rows : List Row) (T : Ty) (a : Addr) (ms : List Nat), vs = [b, v, .ref a] ∧ BookH K C H rows b ∧ TyH K H T v ∧ GTy (arOf rows) T ∧
  SqT K H a (natV ms) ∧ (∀ row ∈ rows, row.z.length ≤ 10) ∧ ∀ H', Same H H' → Q (.str (T.tx (nmR rows) ms 0)) H'
theorem ok_text_with (A : At K mg "text_with" s_text_with ["book", "T", "marked"]) (B : Bi mg) (R : Cr mg) (D__items_of : Has P w K mg base "_items_of" ["book", "T", "row", "marked"] 4 (spItems K C)) : Has P w K mg base "text_with" ["book", "T", "marked"] 5 (spTextW K C) := by
  refine .mk A fun f fd F => ?_
  refine F.ok sc_text_with (fun vs H Q E h => ?_) (fun cdv A outer s H vs Q E hr h => ?_)
  · obtain ⟨b, v, rows, T, a, ms, rfl, _⟩ := h
    rfl
  obtain ⟨b, v, rows, T, a, ms, rfl, hB, hT, hG, ha0, hz, q⟩ := h
  obtain ⟨f__items_of, fd__items_of, G__items_of, b__items_of, k__items_of, m__items_of⟩ := D__items_of
  obtain ⟨t0, T_FN_ROW⟩ := R.FN
  refine ⟨_, (pss_cons (ps_set (i := 3) sc_text_with.nd rfl (Or.inl rfl) (pe_lst (pa_cons (pe_tup (pa_cons (pv 1) (pa_cons (pe_glob rfl T_FN_ROW r_int) pa_nil))) pa_nil)))
  (pss_cons (ps_set (i := 4) sc_text_with.nd rfl (Or.inl rfl) (pe_lst pa_nil))
  (pss_cons (ps_while PassesOwn.never (pt_truth (pv 3) (by intro _; rfl)) (pss_cons (ps_set (i := 5) sc_text_with.nd rfl (Or.inl rfl) (pe_bm0 PySem.F.plainAttrs_list PySem.F.slot_list_pop PySem.F.type_list_pop mt_pop (pv 3)))
  (pss_one (ps_if (pt_val (pe_callB (isiK K) (by rfl) B.isinstance (by decide +kernel) (pa_cons (pv 5) (pa_cons (pe_bltn (v := .ty "str") rfl B.str (by decide +kernel) rfl) pa_nil)))) (pss_one (ps_expr (pe_bm PySem.F.plainAttrs_list PySem.F.slot_list_append PySem.F.type_list_append mt_append (pv 4) (pa_cons (pv 5) pa_nil)))) (pss_cons (ps_asg (pv 5) (pg_tup rfl (pgs_cons (pg_name (i := 6) sc_text_with.nd rfl (Or.inl rfl)) (pgs_cons (pg_name (i := 7) sc_text_with.nd rfl (Or.inl rfl)) pgs_nil))))
  (pss_one (ps_expr (pe_bm PySem.F.plainAttrs_list PySem.F.slot_list_extend PySem.F.type_list_extend mt_extend (pv 3) (pa_cons (pe_backL (pe_call G__items_of (hr.mono (by decide)) rfl m__items_of k__items_of b__items_of .nil pass0 (pa_cons (pv 0) (pa_cons (pv 6) (pa_cons (pv 7) (pa_cons (pv 2) pa_nil)))))) pa_nil)))))))))
  (pss_one (ps_ret (pe_join pe_str (pv 4))))))), ?_⟩
  refine ⟨_, rfl, z2, fun p0 hp0 => ⟨z1, fun ta hb => ?_⟩⟩
  refine ⟨Nat.zero_le _, fun fa ha => ?_⟩
  dsimp only [gName, tSeq]
  have hfa : H fa = none := (same_upd hp0 _).free ((same_upd hb _).free ha)
  have hta : H ta = none := (same_upd hp0 _).free hb
  have nft : ta ≠ fa := by
    intro e
    rw [← e, upd_same] at ha
    cases ha
  have g0 : Same H (upd (upd (upd H p0 (.tup [v, .int 0])) ta (.lst [.ref p0])) fa (.lst [])) := (same_upd hp0 _).trans ((same_upd hb _).trans (same_upd ha _))
  have hnm : ∀ st, (nmR rows st).length ≤ 10 := fun st => by
    unfold nmR
    cases h : rows[st - 1]? with
    | none => exact Nat.zero_le _
    | some row => exact hz row (List.mem_of_getElem? h)
  have hsz := hG.2
  refine while_m (fun m σ H1 => ∃ (fts : List Str) (tts : List Itm) (ys : List V) (x5 x6 x7 : Option V), σ = [some b, some v, some (.ref a), some (.ref ta), some (.ref fa), x5, x6, x7] ∧ Same H H1 ∧ H1 fa = some (.lst (fts.map V.str)) ∧ (∀ z ∈ fts, z.length ≤ 20) ∧
    H1 ta = some (.lst ys) ∧ All2 (ItmH K H1) tts ys ∧ (∀ i ∈ tts, ItG (arOf rows) i) ∧ catS fts ++ catI (nmR rows) ms tts.reverse = T.tx (nmR rows) ms 0 ∧ fts.length + wIs tts ≤ 6 * T.sz ∧ m = wIs tts) (m := 6 * T.sz - 2) ?_ ?_ (fun σ H1 Q1 Q2 mo ⟨z, e, k, tk, qq⟩ => ⟨z, e, k, tk, mo _ _ qq⟩)
  · refine ⟨[], [.ty T 0], [.ref p0], none, none, none, rfl, g0, upd_same, (fun z hz => nomatch hz), by rw [upd_ne nft, upd_same], ?_, ?_, ?_, ?_, ?_⟩
    · exact All2.one ⟨p0, v, rfl, tups_of ((same_upd hb _).trans (same_upd ha _)) _ _ sq_new, hT.mono (tups_of g0)⟩
    · intro i hi
      rw [List.mem_singleton.mp hi]
      exact ⟨hG, Nat.zero_le _⟩
    · show Str.empty ++ (T.tx (nmR rows) ms 0 ++ Str.empty) = _
      rw [Str.empty_append, Str.append_empty]
    · show 0 + (6 * T.sz - 2 + 0) ≤ _
      omega
    · rfl
  rintro m σ H1 ⟨fts, tts, ys, x5, x6, x7, rfl, g, h1, k1, h2, k2, kG, e, hw, rfl⟩
  refine ⟨_, rfl, _, .inl ⟨ys, SqL.of h2, rfl⟩, ?_⟩
  by_cases hne : ys = []
  · subst hne
    refine iteF ?_
    have et : tts = [] := List.eq_nil_of_length_eq_zero k2.len.symm
    subst et
    have e : catS fts ++ Str.empty = _ := e
    rw [Str.append_empty] at e
    have hsum : ∀ l : List Str, (∀ z ∈ l, z.length ≤ 20) → (l.map (·.length)).sum ≤ 20 * l.length := by
      intro l
      induction l with
      | nil => exact fun _ => Nat.zero_le _
      | cons z r ih =>
        intro hl
        have h1 := ih fun x hx => hl x (List.mem_cons_of_mem _ hx)
        have h2 := hl z List.mem_cons_self
        rw [List.map_cons, List.sum_cons, List.length_cons]
        omega
    have hs2 := hsum fts k1
    have hw : fts.length + 0 ≤ 6 * T.sz := hw
    refine ⟨⟨_, rfl⟩, _, rfl, "", fa, fts, rfl, rfl, .inl (SqL.of h1), ?_, ?_⟩
    · show (fts.map (·.length)).sum + fts.length * 0 ≤ 16777216
      omega
    · rw [join_cat, e]
      exact q H1 g
  · have ee : (!ys.isEmpty) = true := by
      cases ys with
      | nil => exact absurd rfl hne
      | cons _ _ => rfl
    rw [ee]
    refine iteT ?_
    obtain ⟨us, t, zs, y, rfl, rfl, ku, kt⟩ := k2.last hne
    have hwt : wIs (us ++ [t]) = wIs us + wI t := by rw [wIs_app]; rfl
    rw [hwt] at hw ⊢
    have hus := wIs_len us
    have hlu := ku.len
    have ht1 := wI_pos t
    refine ⟨_, rfl, .inl ⟨rfl, _, SqL.of h2⟩, ta, _, y, rfl, rfl, h2, last_at zs y, ?_⟩
    rw [drop_at]
    have t2 : Tups K H1 (upd H1 ta (.lst zs)) := tups_set h2 _
    have h1' : upd H1 ta (.lst zs) fa = some (.lst (fts.map V.str)) := by rw [upd_ne nft.symm]; exact h1
    have h2' : upd H1 ta (.lst zs) ta = some (.lst zs) := upd_same
    have g2 := same_set g hta (.lst zs)
    generalize upd H1 ta (.lst zs) = H2 at t2 h1' h2' g2
    have kt2 := ItmH.mono t2 _ _ kt
    have er : (us ++ [t]).reverse = t :: us.reverse := by rw [List.reverse_append]; rfl
    rw [er, catI_cons] at e
    cases t with
    | txt z =>
      have ey : y = V.str z := kt2
      subst ey
      refine ⟨_, rfl, _, _, _, _, true, rfl, .ty _, .base (.str z), kit_ty (by decide +kernel), _, rfl, iteT ?_⟩
      have ht1 : wI (.txt z) = 1 := rfl
      refine ⟨_, rfl, .inl ⟨rfl, _, SqL.of h1'⟩, _, rfl, fa, _, _, rfl, rfl, h1', small300 ?_, ?_⟩
      · rw [List.length_map]
        omega
      have t3 := tups_set (K := K) h1' (.lst (fts.map V.str ++ [.str z]))
      refine ⟨wIs us, by omega, fts ++ [z], us, zs, some (.str z), x6, x7, rfl, same_set g2 hfa _, ?_, ?_, ?_, (ku.mono (ItmH.mono t2)).mono (ItmH.mono t3), fun i hi => kG i (List.mem_append_left _ hi), ?_, ?_, rfl⟩
      · rw [upd_same, List.map_append]
        rfl
      · intro x hx
        rcases List.mem_append.mp hx with hx | hx
        · exact k1 x hx
        · rw [List.mem_singleton.mp hx]
          exact kG (.txt z) (List.mem_append_right _ (List.mem_singleton_self _))
      · rw [upd_ne nft]
        exact h2'
      · rw [catS_snoc, sapp_assoc]
        exact e
      · rw [List.length_append, List.length_singleton]
        omega
    | ty U r =>
      obtain ⟨p, x, rfl, hp, hU⟩ := kt2
      obtain ⟨hGU, hr2⟩ : GTy (arOf rows) U ∧ r ≤ 2 := kG (.ty U r) (List.mem_append_right _ (List.mem_singleton_self _))
      refine ⟨_, rfl, _, _, _, _, false, rfl, .ty _, tyx_tup hp, kit_ty (by decide +kernel), _, rfl, iteF ?_⟩
      refine ⟨_, rfl, p, _, rfl, hp, rfl, _, _, rfl, _, _, rfl, rfl, ?_⟩
      obtain ⟨hpre, hUsz⟩ := hGU
      have hloc := hpre U (by rw [pre_eq]; exact List.mem_cons_self)
      have hkids := kids_len U
      refine ⟨_, rfl, .inl ⟨rfl, _, SqL.of h2'⟩, _, rfl, _, rfl, _, rfl, _, rfl, b, x, rows, U, r, a, ms, rfl, hB.mono g2, hU, hloc.1, by omega, hloc.2, hr2, tups_of g2 _ _ ha0, hz, fun H3 p3 cs g3 hp3 hA3 => ?_⟩
      have h3t : H3 ta = some (.lst zs) := g3 _ _ h2'
      have h3f : H3 fa = some (.lst (fts.map V.str)) := g3 _ _ h1'
      refine ⟨p3, cs, rfl, SqL.of hp3, fun p4 hp4 => ?_⟩
      have w4 := same_upd hp4 (.lst cs.reverse)
      have h4t := w4 _ _ h3t
      have h4f := w4 _ _ h3f
      have hwi := wIs_items (nmR rows) ms U.lab U.kids r
      have eU : Ty.node U.lab U.kids = U := by cases U; rfl
      rw [eU] at hwi
      have hwU : wI (.ty U r) = 6 * U.sz - 2 := rfl
      have hcl := hA3.len
      have hil := wIs_len (itemsI (nmR rows) ms U.lab U.kids r)
      refine ⟨ta, p4, zs, cs.reverse, rfl, rfl, h4t, upd_same, ?_, ?_⟩
      · rw [List.length_reverse]
        exact small300 (by omega)
      have t5 := tups_set (K := K) h4t (.lst (zs ++ cs.reverse))
      have gl : ∀ i ∈ itemsI (nmR rows) ms U.lab U.kids r, ItG (arOf rows) i := items_good (by rw [eU]; exact ⟨hpre, hUsz⟩) hnm
      refine ⟨wIs (us ++ (itemsI (nmR rows) ms U.lab U.kids r).reverse), ?_, fts, us ++ (itemsI (nmR rows) ms U.lab U.kids r).reverse, zs ++ cs.reverse, some (.ref p), some x, some (.int (r : Int)), rfl, same_set (g2.trans (g3.trans w4)) hta _, ?_, k1, upd_same, ?_, ?_, ?_, ?_, rfl⟩
      · rw [wIs_app, wIs_rev]
        omega
      · rw [upd_ne nft.symm]
        exact h4f
      · refine All2.app ?_ ?_
        · exact (ku.mono (ItmH.mono (t2.trans ((tups_of g3).trans (tups_of w4))))).mono (ItmH.mono t5)
        · exact ((hA3.mono (ItmH.mono (tups_of w4))).mono (ItmH.mono t5)).rev
      · intro i hi
        rcases List.mem_append.mp hi with hi | hi
        · exact kG i (List.mem_append_left _ hi)
        · exact gl i (List.mem_reverse.mp hi)
      · rw [List.reverse_append, List.reverse_reverse, catI_app, catI_items _ _ _ _ _ (fun e => by
          have := hloc.1
          rw [e] at this
          exact this), eU]
        exact e
      · rw [wIs_app, wIs_rev]
        omega
end
end Lq
namespace Lq
open PySem L2
theorem GTy.ok {ar : List Nat} {T : Ty} (h : GTy ar T) : T.Ok ar := fun t ht => (h.1 t ht).1
section
variable {P : Program} {w : World} {K : PySem.W.Frag} {mg : Str → Option Value} {base : Heap} {C : Addr}
def AtD (K : PySem.W.Frag) (mg : Str → Option Value) (x : Str) (st : Stmt) (kws : List (Str × V)) : Prop := ∃ f fd, FunD K x x (defArgs st) (defBody st) (defScope st) [] kws f fd ∧ mg x = some (.ref f)
abbrev s_type_text : Stmt := top 55
theorem sc_type_text : FnScope ["book", "T", "marked"] ["book", "T", "marked"] (defScope s_type_text) := ⟨rfl, rfl, rfl, by decide +kernel, rfl, by decide +kernel, by decide +kernel⟩
def spTT (K : PySem.W.Frag) (C : Addr) : Sp := fun vs H Q _ => ∃ (b v : V) (rows : List Row) (T : Ty) (a : Addr) (ms : List Nat), vs = [b, v, .ref a] ∧ BookH K C H rows b ∧ TyH K H T v ∧ GTy (arOf rows) T ∧
  SqT K H a (natV ms) ∧ (∀ n, n ∈ ms → (n : Int) < 10 ^ 60) ∧ ms.length ≤ 1000 ∧ ms.Pairwise (· < ·) ∧ (∀ row ∈ rows, row.z.length ≤ 10) ∧ ∀ H', Same H H' → Q (.str (T.tx (nmR rows) ms 0)) H'
/-- type_text, its two ways to be called -/
def HasT (P : Program) (w : World) (K : PySem.W.Frag) (mg : Str → Option Value) (base : Heap) (k : Nat) (a0 : Addr) (sp : Sp) : Prop :=
  ∃ f fd, FnOk P w K mg base CX0 k f fd ["book", "T", "marked"] sp ∧ (∃ ds, Vals [.ref a0] ds ∧ Binds K fd ["book", "T", "marked"] ds) ∧ KBn K fd ["book", "T", "marked"] 2 ["marked"] (fun us ws => us ++ ws) (fun vs zs => vs ++ zs) ∧ PySem.W.keepIn K (.ref f) = true ∧ mg "type_text" = some (.ref f)
theorem ok_type_text {a0 : Addr} (A : AtD K mg "type_text" s_type_text [("marked", .ref a0)]) (D_check_type : Has P w K mg base "check_type" ["book", "T"] 7 (spCheckType K C)) (D_check_marked : Has P w K mg base "check_marked" ["marked"] 5 (spMarked K)) (D_text_with : Has P w K mg base "text_with" ["book", "T", "marked"] 5 (spTextW K C)) :
    HasT P w K mg base 8 a0 (spTT K C) := by
  obtain ⟨f, fd, F, m⟩ := A
  refine ⟨f, fd, ?_, ?_, ?_, F.kp, m⟩
  · refine F.ok sc_type_text (fun vs H Q E h => ?_) (fun cdv A outer s H vs Q E hr h => ?_)
    · obtain ⟨b, v, rows, T, a, ms, rfl, _⟩ := h
      rfl
    obtain ⟨b, v, rows, T, a, ms, rfl, hB, hT, hG, hm, hms, hml, hmp, hz, q⟩ := h
    obtain ⟨f_check_type, fd_check_type, G_check_type, b_check_type, k_check_type, m_check_type⟩ := D_check_type
    obtain ⟨f_check_marked, fd_check_marked, G_check_marked, b_check_marked, k_check_marked, m_check_marked⟩ := D_check_marked
    obtain ⟨f_text_with, fd_text_with, G_text_with, b_text_with, k_text_with, m_text_with⟩ := D_text_with
    suffices hh : ∃ t, PSs (cxOf CX0 P w K mg base ["book", "T", "marked"] "type_text" (defScope s_type_text) f cdv A outer s H E).nox (defBody s_type_text) t ∧ t { nx := fun _ H' => Q .non H', rt := Q } (start ["book", "T", "marked"] [b, v, .ref a]) H by
      obtain ⟨t, h1, h2⟩ := hh
      exact ⟨t, h1.nox, h2⟩
    refine ⟨_, (pss_cons (ps_expr (pe_call G_check_type (hr.mono (by decide)) rfl m_check_type k_check_type b_check_type .nil pass0 (pa_cons (pv 0) (pa_cons (pv 1) pa_nil))))
  (pss_cons (ps_expr (pe_call G_check_marked (hr.mono (by decide)) rfl m_check_marked k_check_marked b_check_marked .nil pass0 (pa_cons (pv 2) pa_nil)))
  (pss_one (ps_ret (pe_call G_text_with (hr.mono (by decide)) rfl m_text_with k_text_with b_text_with .nil pass0 (pa_cons (pv 0) (pa_cons (pv 1) (pa_cons (pv 2) pa_nil)))))))), ?_⟩
    refine ⟨_, rfl, _, rfl, b, v, rows, T, rfl, hB, hT, hG.ok, hG.2, fun H2 g2 => ?_⟩
    refine ⟨_, rfl, a, ms, rfl, tups_of g2 _ _ hm, hms, hml, hmp, fun H3 g3 => ?_⟩
    have gg := g2.trans g3
    exact ⟨_, rfl, _, rfl, _, rfl, b, v, rows, T, a, ms, rfl, hB.mono gg, hT.mono (tups_of gg), hG, tups_of gg _ _ hm, hz, fun H4 g4 => q H4 (gg.trans g4)⟩
  · refine F.binds0 2 (by simp) rfl fun D doc pm an cdv ct us ks hu hk => ?_
    match us, hu, ks, hk with
    | [_, _], _, [_], _ => exact ⟨_, _, _, _, _, _, rfl, rfl, rfl⟩
  · obtain ⟨oc, od, dV, kV, doc, pm, an, cdv, ct, osl, rfl, lk, hcd, hD, hK⟩ := F.ex
    rcases hD with ⟨_, rfl⟩ | ⟨e, _⟩
    · refine ⟨fun s us ws _ hu hw => ?_, fun r1 r2 => r1.append r2⟩
      match us, hu, ws, hw with
      | [_, _], _, [_], _ => exact .of_eq rfl
    · exact absurd rfl e
end
end Lq
namespace Lq
open PySem L2
def natD (ns : List Nat) : List PyData := ns.map fun (n : Nat) => PyData.int (n : Int)
theorem dpAll_nat {K : PySem.W.Frag} {H : Hp} : ∀ (ns : List Nat), DpAll K H (natV ns) (natD ns)
  | [] => .nil
  | n :: r => .cons (.int (n : Int)) (dpAll_nat r)
theorem dp_natT {K : PySem.W.Frag} {H : Hp} {a : Addr} {ns : List Nat} (h : SqT K H a (natV ns)) : Dp K H (.ref a) (.tuple (natD ns)) := .tup h (dpAll_nat ns)
theorem lay_nat : ∀ (ns : List Nat), PyData.canLayAll0 (natD ns) = true ∧ PyData.depthAll (natD ns) = 0
  | [] => ⟨by simp [natD, PyData.canLayAll0], by simp [natD, PyData.depthAll]⟩
  | n :: r => by
    obtain ⟨h1, h2⟩ := lay_nat r
    have e : natD (n :: r) = PyData.int (n : Int) :: natD r := rfl
    rw [e]
    exact ⟨by rw [PyData.canLayAll0, h1]; simp [PyData.canLay0], by rw [PyData.depthAll, h2]; simp [PyData.depth]⟩
theorem shaped_natT (ns : List Nat) : SeqAt.shaped (.tuple (natD ns)) = true := by
  obtain ⟨h1, h2⟩ := lay_nat ns
  show (PyData.canLay0 _ && decide (PyData.depth _ ≤ 64)) = true
  rw [PyData.canLay0, PyData.depth, h1, h2]
  rfl
theorem eqvAll_nat : ∀ (ns : List Nat), PyData.eqvAll (natD ns) (natD ns) = true
  | [] => by simp [natD, PyData.eqvAll]
  | n :: r => by
    have e : natD (n :: r) = PyData.int (n : Int) :: natD r := rfl
    rw [e, PyData.eqvAll, eqvAll_nat r]
    simp [PyData.eqv]
theorem eqv_natT (ns : List Nat) : PyData.eqv (.tuple (natD ns)) (.tuple (natD ns)) = true := by
  rw [PyData.eqv]
  exact eqvAll_nat ns
theorem lt60 {n : Nat} (h : n ≤ 1000) : (n : Int) < 10 ^ 60 := by
  have : ((n : Nat) : Int) ≤ 1000 := by omega
  exact Int.lt_of_le_of_lt this (by decide +kernel)
structure Sk (K : PySem.W.Frag) (mg : Str → Option Value) (D : Addr) : Prop where
  cl : Cls K D
  nM : NoAttr K D "marks"
  nB : NoAttr K D "body"
  nT : NoAttr K D "total"
  nO : NoAttr K D "_outline"
def sf (m v t o : V) : List (Str × V) := putF "_outline" o (putF "total" t (putF "body" v (putF "marks" m [])))
theorem s_mb : ¬ (("marks" : Str) = "body") := by decide +kernel
theorem s_mt : ¬ (("marks" : Str) = "total") := by decide +kernel
theorem s_mo : ¬ (("marks" : Str) = "_outline") := by decide +kernel
theorem s_bt : ¬ (("body" : Str) = "total") := by decide +kernel
theorem s_bo : ¬ (("body" : Str) = "_outline") := by decide +kernel
theorem sf_marks (m v t o : V) : (sf m v t o).lookup ("marks" : Str) = some m := by
  unfold sf
  rw [lookup_putF, if_neg s_mo, lookup_putF, if_neg s_mt, lookup_putF, if_neg s_mb, lookup_putF, if_pos rfl]
theorem sf_body (m v t o : V) : (sf m v t o).lookup ("body" : Str) = some v := by
  unfold sf
  rw [lookup_putF, if_neg s_bo, lookup_putF, if_neg s_bt, lookup_putF, if_pos rfl]
theorem sf_no (m v t o : V) {x : Str} (h1 : ¬ x = "_outline") (h2 : ¬ x = "total") (h3 : ¬ x = "body") (h4 : ¬ x = "marks") : (sf m v t o).lookup x = none := by
  unfold sf
  rw [lookup_putF, if_neg h1, lookup_putF, if_neg h2, lookup_putF, if_neg h3, lookup_putF, if_neg h4]
  rfl
section
variable {P : Program} {w : World} {K : PySem.W.Frag} {mg : Str → Option Value} {base : Heap} {C D : Addr}
abbrev s_Scheme___init__ : Stmt := inClass (top 57) 0
theorem sc_Scheme___init__ : FnScope ["self", "book", "marks", "body", "variables", "mark"] ["self", "book", "marks", "body"] (defScope s_Scheme___init__) := ⟨rfl, rfl, rfl, by decide +kernel, rfl, by decide +kernel, by decide +kernel⟩
def spSInit (K : PySem.W.Frag) (C D : Addr) : Sp := fun vs H Q _ => ∃ (H0 : Hp) (p dx a : Addr) (b v : V) (rows : List Row) (T : Ty) (ms : List Nat), vs = [.ref p, b, .ref a, v] ∧ Same H0 H ∧ H0 p = none ∧ H p = some (.ins D dx []) ∧
  BookH K C H0 rows b ∧ TyH K H0 T v ∧ T.Ok (arOf rows) ∧ T.sz ≤ 300 ∧ T.Leafy ∧ T.ord = List.range T.ord.length ∧ SqT K H0 a (natV ms) ∧ (∀ n, n ∈ ms → n < T.ord.length) ∧ ms.length ≤ 1000 ∧ ms.Pairwise (· < ·) ∧
  ∀ (H' : Hp) (t o : V), Same H0 H' → H' p = some (.ins D dx (sf (.ref a) v t o)) → Q .non H'
theorem ok_sinit {f : Addr} {fd : FuncData} (F : Fun K "__init__" "Scheme.__init__" s_Scheme___init__ f fd) (B : Bi mg) (S : Sk K mg D) (D_check_book : Has P w K mg base "check_book" ["book"] 1 (spCheckBook K C)) (D_is_ascending : Has P w K mg base "is_ascending" ["value"] 4 (spAsc K)) (D_is_type : Has P w K mg base "is_type" ["book", "value"] 6 (spIsType K C))
    (D_variables_in : Has P w K mg base "variables_in" ["T"] 3 (spVarsO K)) (D_outline : Has P w K mg base "outline" ["T"] 3 (spOutl K)) : FnOk P w K mg base CX0 7 f fd ["self", "book", "marks", "body"] (spSInit K C D) := by
  refine F.ok sc_Scheme___init__ (fun vs H Q E h => ?_) (fun cdv A outer s H vs Q E hr h => ?_)
  · obtain ⟨H0, p, dx, a, b, v, rows, T, ms, rfl, _⟩ := h
    rfl
  obtain ⟨H0, p, dx, a, b, v, rows, T, ms, rfl, s0, p0, hp, hB, hT, hok, hsz, hlf, hord, ha, hms, hml, hmp, q⟩ := h
  obtain ⟨f_check_book, fd_check_book, G_check_book, b_check_book, k_check_book, m_check_book⟩ := D_check_book
  obtain ⟨f_is_ascending, fd_is_ascending, G_is_ascending, b_is_ascending, k_is_ascending, m_is_ascending⟩ := D_is_ascending
  obtain ⟨f_is_type, fd_is_type, G_is_type, b_is_type, k_is_type, m_is_type⟩ := D_is_type
  obtain ⟨f_variables_in, fd_variables_in, G_variables_in, b_variables_in, k_variables_in, m_variables_in⟩ := D_variables_in
  obtain ⟨f_outline, fd_outline, G_outline, b_outline, k_outline, m_outline⟩ := D_outline
  refine ⟨_, (pss_cons (ps_expr (pe_call G_check_book (hr.mono (by decide)) rfl m_check_book k_check_book b_check_book .nil pass0 (pa_cons (pv 1) pa_nil)))
  (pss_cons (ps_if (PW.pt (pw_or (pt_not (pt_val (pe_call G_is_ascending (hr.mono (by decide)) rfl m_is_ascending k_is_ascending b_is_ascending .nil pass0 (pa_cons (pv 2) pa_nil)))) (pw_or1 (pt_not (pt_val (pe_call G_is_type (hr.mono (by decide)) rfl m_is_type k_is_type b_is_type .nil pass0 (pa_cons (pv 1) (pa_cons (pv 3) pa_nil)))))))) (pss_one ps_never) pss_nil)
  (pss_cons (ps_set (i := 4) sc_Scheme___init__.nd rfl (Or.inr rfl) (pe_call G_variables_in (hr.mono (by decide)) rfl m_variables_in k_variables_in b_variables_in .nil pass0 (pa_cons (pv 3) pa_nil)))
  (pss_cons (ps_if (PW.pt (pw_or (pt_cmpR (op_neD hr.units) (pv 4) (pe_tupRg rfl (by rfl) B.tuple (prg_1 (by rfl) B.range (pe_callB (lenS K) (by rfl) B.len (by decide +kernel) (pa_cons (pv 4) pa_nil)))) (nomark _)) (pw_or1 (pt_not (pt_val (pe_callB (cr_all rfl) (by rfl) B.all (by decide +kernel) (pa_cons (pe_lc (own := [("mark", 5)]) (g := gName 5) (tt := tYes) (by rfl) sc_Scheme___init__.nd (pi_tup (pv 2)) (blkOk_by (N := ["self", "book", "marks", "body", "variables", "mark"]) (sc := defScope s_Scheme___init__) (by decide +kernel)) (fun _ _ _ _ _ => (pg_name (i := 5) sc_Scheme___init__.nd rfl (Or.inl rfl))) (fun _ _ _ _ _ => pts_nil) (fun _ _ _ _ _ => (pe_cmpR op_lt (pv 5) (pe_callB (lenS K) (by rfl) B.len (by decide +kernel) (pa_cons (pv 4) pa_nil)) (nomark _)))) pa_nil))))))) (pss_one ps_never) pss_nil)
  (pss_cons (ps_fld (pv 0) (pv 2) rfl)
  (pss_cons (ps_fld (pv 0) (pv 3) rfl)
  (pss_cons (ps_fld (pv 0) (pe_callB (lenS K) (by rfl) B.len (by decide +kernel) (pa_cons (pv 4) pa_nil)) rfl)
  (pss_one (ps_fld (pv 0) (pe_call G_outline (hr.mono (by decide)) rfl m_outline k_outline b_outline .nil pass0 (pa_cons (pv 3) pa_nil)) rfl))))))))), ?_⟩
  refine ⟨_, rfl, b, rows, rfl, hB.mono s0, ?_⟩
  have hB' := hB.mono s0
  have hT' := hT.mono (tups_of s0)
  have ha' := tups_of s0 _ _ ha
  have hol := ord_len T
  refine ⟨_, rfl, a, ms, rfl, ha', (fun n hn => lt60 (by have := hms n hn; omega)), hml, hmp, fun H2 g2 => ⟨_, rfl, iteF ?_⟩⟩
  refine ⟨_, rfl, _, rfl, b, v, rows, T, rfl, hB'.mono g2, hT'.mono (tups_of g2), hok, hsz, fun H3 g3 => ⟨_, rfl, iteF ?_⟩⟩
  have g23 := g2.trans g3
  refine ⟨_, rfl, T, v, rfl, hT'.mono (tups_of g23), by omega, hlf, fun H4 pv g4 hpv => ?_⟩
  refine ⟨_, rfl, _, rfl, pv, _, rfl, .inr hpv, ?_⟩
  have e0 : rgV 0 ((T.ord.length : Nat) : Int) = natV T.ord := by
    unfold rgV natV
    rw [show (((T.ord.length : Nat) : Int) - 0).toNat = T.ord.length by omega]
    conv => rhs; rw [hord]
    exact List.map_congr_left fun i _ => by rw [Int.zero_add]
  have g24 := g23.trans g4
  have hnl : (natV T.ord).length = T.ord.length := natV_len _
  rw [hnl]
  refine ⟨_, rfl, ⟨by decide, by decide, by omega, by omega, by omega⟩, fun pr hpr => ?_⟩
  rw [e0]
  have g5 := same_upd hpr (.tup (natV T.ord))
  refine ⟨_, _, dp_natT (tups_of g5 _ _ hpv), dp_natT sq_new, shaped_natT _, shaped_natT _, ?_⟩
  rw [eqv_natT]
  refine ⟨_, rfl, iteF ?_⟩
  have g25 := g24.trans g5
  refine ⟨_, rfl, a, rfl, ⟨_, tups_of g25 _ _ ha'⟩, fun Dl hDl => lc_tup (K := K) (a := a) (xs := natV ms)
    (fun i H6 => Same _ H6 ∧ H6 Dl = some (.lst (((ms.take i).map fun _ => true).map V.bl))) ⟨same_upd hDl _, upd_same⟩ (fun i H6 _ z => tups_of (g25.trans z.1) _ _ ha') ?_ ?_⟩
  · rintro i x H6 hx ⟨g6, h6⟩
    obtain ⟨n, hn, rfl⟩ := natV_at hx
    have hil := lt_of_get hn
    refine ⟨rfl, _, rfl, _, rfl, pv, _, rfl, .inr (tups_of (g5.trans g6) _ _ hpv), _, _, rfl, rfl, _, h6, by rw [List.length_map, List.length_map, List.length_take]; exact small1000 (by omega), same_set g6 hDl _, ?_⟩
    rw [upd_same, take_snoc hn, List.map_append, List.map_append]
    have hlt := hms n (List.mem_of_getElem? hn)
    rw [hnl]
    show some (HO.lst (_ ++ [V.bl (decide ((n : Int) < (T.ord.length : Int)))])) = _
    rw [decide_eq_true (show (n : Int) < (T.ord.length : Int) by omega)]
    rfl
  · rintro H6 ⟨g6, h6⟩
    rw [natV_len, List.take_length] at h6
    refine ⟨Dl, _, rfl, SqL.of h6, _, rfl, ?_⟩
    have eall : (ms.map fun _ => true).all id = true := by
      rw [List.all_map]
      exact List.all_eq_true.mpr fun _ _ => rfl
    rw [eall]
    refine iteF ?_
    have hp6 := (g25.trans g6) _ _ hp
    have s6 := s0.trans (g25.trans g6)
    refine ⟨_, rfl, _, rfl, p, D, dx, _, rfl, hp6, S.cl, S.nM, (by show 0 < 1000; decide), ?_⟩
    have s7 := same_set s6 p0 (.ins D dx (putF "marks" (.ref a) []))
    refine ⟨_, rfl, _, rfl, p, D, dx, _, rfl, upd_same, S.cl, S.nB, (by show 1 < 1000; decide), ?_⟩
    have s8 := same_set s7 p0 (.ins D dx (putF "body" v (putF "marks" (.ref a) [])))
    have t68 := (tups_ins hp6 (.ins D dx (putF "marks" (.ref a) []))).trans (tups_ins (K := K) upd_same (.ins D dx (putF "body" v (putF "marks" (.ref a) []))))
    refine ⟨_, rfl, pv, _, rfl, .inr (t68 _ _ (tups_of (g5.trans g6) _ _ hpv)), ?_⟩
    refine ⟨_, rfl, p, D, dx, _, rfl, upd_same, S.cl, S.nT, (by show 2 < 1000; decide), ?_⟩
    have s9 := same_set s8 p0 (.ins D dx (putF "total" (.int ((natV T.ord).length : Nat)) (putF "body" v (putF "marks" (.ref a) []))))
    refine ⟨_, rfl, T, v, rfl, hT.mono (tups_of s9), by omega, fun H10 o g10 => ?_⟩
    refine ⟨_, rfl, p, D, dx, _, rfl, g10 _ _ upd_same, S.cl, S.nO, (by show 3 < 1000; decide), ?_⟩
    exact q _ _ _ (same_set (s9.trans g10) p0 _) upd_same
end
end Lq
namespace Lq
open PySem L2
def idx : List Nat → Nat → Nat
  | [], _ => 0
  | m :: r, n => if n = m then 0 else idx r n + 1
theorem idx_get : ∀ {ns : List Nat} {n : Nat}, n ∈ ns → ns[idx ns n]? = some n
  | m :: r, n, h => by
    unfold idx
    by_cases e : n = m
    · rw [if_pos e, e]
      rfl
    · rw [if_neg e, List.getElem?_cons_succ]
      exact idx_get ((List.mem_cons.mp h).resolve_left e)
theorem idx_lt {ns : List Nat} {n : Nat} (h : n ∈ ns) : idx ns n < ns.length := lt_of_get (idx_get h)
theorem idx_le : ∀ (ns : List Nat) (n : Nat), idx ns n ≤ ns.length
  | [], _ => Nat.le_refl _
  | m :: r, n => by
    have := idx_le r n
    unfold idx
    rw [List.length_cons]
    split <;> omega
theorem idx_inj {ns : List Nat} {a b : Nat} (ha : a ∈ ns) (hb : b ∈ ns) (e : idx ns a = idx ns b) : a = b := by
  have h1 := idx_get ha
  have h2 := idx_get hb
  rw [e, h2] at h1
  injection h1 with h1
  exact h1.symm
theorem idx_at {ns : List Nat} (hd : ns.Nodup) {i n : Nat} (h : ns[i]? = some n) : idx ns n = i := by
  have h1 := idx_get (List.mem_of_getElem? h)
  by_cases e : idx ns n = i
  · exact e
  · exact absurd rfl (nodup_ne hd h1 h e)
theorem idx_map {ns : List Nat} (hd : ns.Nodup) : ns.map (idx ns) = List.range ns.length := by
  apply List.ext_getElem?
  intro i
  rw [List.getElem?_map]
  by_cases h : i < ns.length
  · have e : ns[i]? = some ns[i] := List.getElem?_eq_getElem h
    rw [e, List.getElem?_range h]
    show some (idx ns ns[i]) = some i
    rw [idx_at hd e]
  · rw [List.getElem?_eq_none (by omega), List.getElem?_eq_none (by rw [List.length_range]; omega)]
    rfl
theorem foldA_nodup : ∀ (l acc : List Nat), acc.Nodup → (foldA acc l).Nodup
  | [], acc, h => h
  | n :: r, acc, h => by
    show (foldA (addN acc n) r).Nodup
    refine foldA_nodup r _ ?_
    unfold addN
    by_cases e : n ∈ acc
    · rw [if_pos e]
      exact h
    · rw [if_neg e]
      refine List.nodup_append.mpr ⟨h, (by simp), fun a ha b hb => ?_⟩
      rw [List.mem_singleton.mp hb]
      intro z
      exact e (z ▸ ha)
theorem foldA_mem {n : Nat} : ∀ (l acc : List Nat), n ∈ foldA acc l ↔ n ∈ acc ∨ n ∈ l
  | [], acc => by
    show n ∈ acc ↔ _
    simp
  | m :: r, acc => by
    show n ∈ foldA (addN acc m) r ↔ _
    rw [foldA_mem r]
    unfold addN
    by_cases e : m ∈ acc
    · rw [if_pos e, List.mem_cons]
      constructor
      · rintro (h | h)
        · exact .inl h
        · exact .inr (.inr h)
      · rintro (h | h | h)
        · exact .inl h
        · exact .inl (h ▸ e)
        · exact .inr h
    · rw [if_neg e, List.mem_append, List.mem_singleton, List.mem_cons, or_assoc]
theorem foldA_map (f : Nat → Nat) {S : List Nat} (hf : ∀ a b, a ∈ S → b ∈ S → f a = f b → a = b) : ∀ (l acc : List Nat), (∀ a ∈ acc, a ∈ S) → (∀ a ∈ l, a ∈ S) → foldA (acc.map f) (l.map f) = (foldA acc l).map f
  | [], acc, _, _ => rfl
  | n :: r, acc, ha, hl => by
    show foldA (addN (acc.map f) (f n)) (r.map f) = (foldA (addN acc n) r).map f
    have hn := hl n List.mem_cons_self
    have e : addN (acc.map f) (f n) = (addN acc n).map f := by
      unfold addN
      by_cases h : n ∈ acc
      · rw [if_pos h, if_pos (List.mem_map_of_mem h)]
      · rw [if_neg h, if_neg, List.map_append]
        · rfl
        · intro z
          obtain ⟨m, hm, em⟩ := List.mem_map.mp z
          exact h (hf m n (ha m hm) hn em ▸ hm)
    rw [e]
    refine foldA_map f hf r _ (fun a h => ?_) (fun a h => hl a (List.mem_cons_of_mem _ h))
    unfold addN at h
    split at h
    · exact ha a h
    · rcases List.mem_append.mp h with h | h
      · exact ha a h
      · rw [List.mem_singleton.mp h]
        exact hn
theorem ord_nodup {T : Ty} (h : T.Leafy) : T.ord.Nodup := by
  rw [← ord_vars h]
  exact foldA_nodup _ [] List.nodup_nil
theorem ord_mem {T : Ty} (h : T.Leafy) (n : Nat) : n ∈ T.ord ↔ n ∈ T.vars := by
  rw [← ord_vars h, foldA_mem]
  simp
mutual
theorem vars_put (f : Nat → Nat) : ∀ (T : Ty), T.Leafy → (T.sub fun n => tv (f n)).vars = T.vars.map f
  | .node l ts, h => by
    cases e : l.num with
    | some n =>
      have hk : ts = [] := h (.node l ts) (by rw [pre_eq]; exact List.mem_cons_self) (by show l.num ≠ none; rw [e]; exact fun z => nomatch z)
      subst hk
      rw [sub_var _ (T := .node l []) e, vars_pre, vars_pre (.node l [])]
      show [f n] ++ (Ty.pres []).filterMap _ = ((match l.num with | some n => [n] | none => []) ++ (Ty.pres []).filterMap _).map f
      rw [e, pres_nil]
      rfl
    | none =>
      rw [sub_node _ (T := .node l ts) e, vars_pre, vars_pre (.node l ts)]
      show (match l.num with | some n => [n] | none => []) ++ (Ty.pres (Ty.subs _ ts)).filterMap _ = ((match l.num with | some n => [n] | none => []) ++ (Ty.pres ts).filterMap _).map f
      rw [e, varss_put f ts fun t ht => h.kid (T := .node l ts) ht]
      rfl
theorem varss_put (f : Nat → Nat) : ∀ (ts : List Ty), (∀ t ∈ ts, t.Leafy) → ((Ty.pres (Ty.subs (fun n => tv (f n)) ts)).filterMap fun t => t.lab.num) = ((Ty.pres ts).filterMap fun t => t.lab.num).map f
  | [], _ => by
    rw [subs_nil, pres_nil]
    rfl
  | t :: r, h => by
    rw [subs_cons, pres_cons, pres_cons, List.filterMap_append, List.filterMap_append, List.map_append, varss_put f r fun u hu => h u (List.mem_cons_of_mem _ hu)]
    have := vars_put f t (h t List.mem_cons_self)
    unfold Ty.vars at this
    rw [this]
end
mutual
theorem sz_put (f : Nat → Nat) : ∀ (T : Ty), T.Leafy → (T.sub fun n => tv (f n)).sz = T.sz
  | .node l ts, h => by
    cases e : l.num with
    | some n =>
      have hk : ts = [] := h (.node l ts) (by rw [pre_eq]; exact List.mem_cons_self) (by show l.num ≠ none; rw [e]; exact fun z => nomatch z)
      subst hk
      rw [sub_var _ (T := .node l []) e, Ty.sz, Ty.sz]
    | none =>
      rw [sub_node _ (T := .node l ts) e]
      show (Ty.node l (Ty.subs _ ts)).sz = _
      rw [Ty.sz, Ty.sz, szs_put f ts fun t ht => h.kid (T := .node l ts) ht]
theorem szs_put (f : Nat → Nat) : ∀ (ts : List Ty), (∀ t ∈ ts, t.Leafy) → Ty.szs (Ty.subs (fun n => tv (f n)) ts) = Ty.szs ts
  | [], _ => by rw [subs_nil]
  | t :: r, h => by rw [subs_cons, szs_cons, szs_cons, sz_put f t (h t List.mem_cons_self), szs_put f r fun u hu => h u (List.mem_cons_of_mem _ hu)]
end
theorem subs_len (σ : Nat → Ty) (ts : List Ty) : (Ty.subs σ ts).length = ts.length := by rw [subs_map, List.length_map]
mutual
theorem ok_put {ar : List Nat} (f : Nat → Nat) : ∀ (T : Ty), T.Ok ar → (∀ n, n ∈ T.vars → ((f n : Nat) : Int) < 10 ^ 60) → (T.sub fun n => tv (f n)).Ok ar
  | .node l ts, h, hf => by
    cases e : l.num with
    | some n =>
      rw [sub_var _ (T := .node l ts) e]
      refine Ty.Ok.node (l := .var (f n)) ⟨rfl, hf n ?_⟩ (fun t ht => nomatch ht)
      rw [vars_pre]
      show n ∈ (match l.num with | some n => [n] | none => []) ++ _
      rw [e]
      exact List.mem_append_left _ (List.mem_singleton_self _)
    | none =>
      rw [sub_node _ (T := .node l ts) e]
      refine Ty.Ok.node (l := l) ?_ (oks_put f ts (fun t ht => h.kid (T := .node l ts) ht) fun t ht n hn => hf n ?_)
      · have := h.loc
        rw [subs_len]
        exact this
      · rw [vars_pre]
        refine List.mem_append_right _ ?_
        unfold Ty.vars at hn
        obtain ⟨u, hu, eu⟩ := List.mem_filterMap.mp hn
        exact List.mem_filterMap.mpr ⟨u, mem_pres ht hu, eu⟩
theorem oks_put {ar : List Nat} (f : Nat → Nat) : ∀ (ts : List Ty), (∀ t ∈ ts, t.Ok ar) → (∀ t ∈ ts, ∀ n, n ∈ t.vars → ((f n : Nat) : Int) < 10 ^ 60) → ∀ u ∈ Ty.subs (fun n => tv (f n)) ts, u.Ok ar
  | [], _, _, u, hu => by
    rw [subs_nil] at hu
    exact (nomatch hu)
  | t :: r, h, hf, u, hu => by
    rw [subs_cons] at hu
    rcases List.mem_cons.mp hu with rfl | hu
    · exact ok_put f t (h t List.mem_cons_self) (hf t List.mem_cons_self)
    · exact oks_put f r (fun x hx => h x (List.mem_cons_of_mem _ hx)) (fun x hx => hf x (List.mem_cons_of_mem _ hx)) u hu
end
/-- variables renumbered as they first stand -/
def Ty.ren (T : Ty) : Ty := T.sub fun n => tv (idx T.ord n)
theorem ren_ok {ar : List Nat} {T : Ty} (h : T.Ok ar) (hs : T.sz ≤ 300) : T.ren.Ok ar := ok_put _ T h fun n _ => lt60 (by
  have := idx_le T.ord n
  have := ord_len T
  omega)
theorem ren_sz {T : Ty} (h : T.Leafy) : T.ren.sz = T.sz := sz_put _ T h
theorem ren_vars {T : Ty} (h : T.Leafy) : T.ren.vars = T.vars.map (idx T.ord) := vars_put _ T h
theorem ren_ord {ar : List Nat} {T : Ty} (h : T.Ok ar) (hs : T.sz ≤ 300) : T.ren.ord = List.range T.ord.length := by
  have hl := h.leafy
  rw [← ord_vars (ren_ok h hs).leafy, ren_vars hl]
  have := foldA_map (idx T.ord) (S := T.ord) (fun a b ha hb e => idx_inj ha hb e) T.vars [] (fun a ha => nomatch ha) (fun a ha => (ord_mem hl a).mpr ha)
  rw [show ([] : List Nat).map (idx T.ord) = [] from rfl] at this
  rw [this, ord_vars hl, idx_map (ord_nodup hl)]
theorem vars_lt {k : Nat} {T : Ty} (h : ∀ n, n ∈ T.vars → n < k) : ∀ t ∈ T.pre, ∀ n, t.lab.num = some n → n < k := fun t ht n hn => h n (List.mem_filterMap.mpr ⟨t, ht, hn⟩)
theorem GTy.of {ar : List Nat} {T : Ty} (h : T.Ok ar) (hs : T.sz ≤ 300) (hv : ∀ n, n ∈ T.vars → n < 1000) : GTy ar T := ⟨fun t ht => ⟨h t ht, fun n hn => vars_lt hv t ht n hn⟩, hs⟩
theorem ren_good {ar : List Nat} {T : Ty} (h : T.Ok ar) (hs : T.sz ≤ 300) : GTy ar T.ren := by
  refine GTy.of (ren_ok h hs) (by rw [ren_sz h.leafy]; exact hs) fun n hn => ?_
  rw [ren_vars h.leafy] at hn
  obtain ⟨m, hm, rfl⟩ := List.mem_map.mp hn
  have := idx_le T.ord m
  have := ord_len T
  omega
end Lq
namespace Lq
open PySem L2
section
variable {P : Program} {w : World} {K : PySem.W.Frag} {mg : Str → Option Value} {base : Heap} {C D : Addr}
abbrev s_Scheme_of : Stmt := inClass (top 57) 1
theorem sc_Scheme_of : FnScope ["cls", "book", "T", "marked", "variables", "marks", "number", "variable"] ["cls", "book", "T", "marked"] (defScope s_Scheme_of) := ⟨rfl, rfl, rfl, by decide +kernel, rfl, by decide +kernel, by decide +kernel⟩
def SchH (K : PySem.W.Frag) (D : Addr) (H : Hp) (T : Ty) (mk : List Nat) (x : V) : Prop := ∃ (p dx am : Addr) (va t o : V), x = .ref p ∧ H p = some (.ins D dx (sf (.ref am) va t o)) ∧ SqT K H am (natV mk) ∧ TyH K H T va
theorem SchH.mono {K : PySem.W.Frag} {D : Addr} {H H' : Hp} (e : Same H H') {T : Ty} {mk : List Nat} {x : V} (h : SchH K D H T mk x) : SchH K D H' T mk x := by
  obtain ⟨p, dx, am, va, t, o, h1, h2, h3, h4⟩ := h
  exact ⟨p, dx, am, va, t, o, h1, e _ _ h2, tups_of e _ _ h3, h4.mono (tups_of e)⟩
def spOf (K : PySem.W.Frag) (C D : Addr) : Sp := fun vs H Q _ => ∃ (b v : V) (a : Addr) (rows : List Row) (T : Ty) (ms : List Nat), vs = [.ref D, b, v, .ref a] ∧ BookH K C H rows b ∧ TyH K H T v ∧ T.Ok (arOf rows) ∧ T.sz ≤ 300 ∧
  SqT K H a (natV ms) ∧ (∀ n, n ∈ ms → (n : Int) < 10 ^ 60) ∧ ms.length ≤ 1000 ∧ ms.Pairwise (· < ·) ∧ ∀ (H' : Hp) (mk : List Nat) (x : V), Same H H' → SchH K D H' T.ren mk x → Q x H'
/-- Scheme.of, a classmethod -/
def AtC (K : PySem.W.Frag) (D : Addr) (x q : Str) (st : Stmt) (kws : List (Str × V)) : Prop := ∃ mc p g fd, ClX.CRead K D mc ∧ ClX.CMet K D mc x p g ∧ FunD K x q (defArgs st) (defBody st) (defScope st) [] kws g fd
def HasC (P : Program) (w : World) (K : PySem.W.Frag) (mg : Str → Option Value) (base : Heap) (D : Addr) (x : Str) (k : Nat) (sp : Sp) : Prop :=
  ∃ mc p g fd, ClX.CRead K D mc ∧ ClX.CMet K D mc x p g ∧ FnOk P w K mg base CX0 k g fd ["cls", "book", "T", "marked"] sp ∧ KBn K fd ["cls", "book", "T", "marked"] 3 ["marked"] (fun us ws => us ++ ws) (fun vs zs => vs ++ zs)
theorem ok_of {am f_init : Addr} {fd_init : FuncData} (A : AtC K D "of" "Scheme.of" s_Scheme_of [("marked", .ref am)]) (B : Bi mg) (M_Scheme : Mk K D f_init) (G_sinit : FnOk P w K mg base CX0 7 f_init fd_init ["self", "book", "marks", "body"] (spSInit K C D)) (b_sinit : Binds K fd_init ["self", "book", "marks", "body"] [])
    (D_check_type : Has P w K mg base "check_type" ["book", "T"] 7 (spCheckType K C)) (D_check_marked : Has P w K mg base "check_marked" ["marked"] 5 (spMarked K)) (D_variables_in : Has P w K mg base "variables_in" ["T"] 3 (spVarsO K)) (D_numbered : Has P w K mg base "numbered" ["variables"] 1 (spNumb K)) (D_replaced : Has P w K mg base "replaced" ["T", "images"] 2 (spReplaced K)) :
    HasC P w K mg base D "of" 9 (spOf K C D) := by
  obtain ⟨mc, p, g, fd, r, c, F⟩ := A
  refine ⟨mc, p, g, fd, r, c, ?_, ?_⟩
  · refine F.ok sc_Scheme_of (fun vs H Q E h => ?_) (fun cdv A outer s H vs Q E hr h => ?_)
    · obtain ⟨b, v, a, rows, T, ms, rfl, _⟩ := h
      rfl
    obtain ⟨b, v, a, rows, T, ms, rfl, hB, hT, hok, hsz, ha, hms, hml, hmp, q⟩ := h
    obtain ⟨f_check_type, fd_check_type, G_check_type, b_check_type, k_check_type, m_check_type⟩ := D_check_type
    obtain ⟨f_check_marked, fd_check_marked, G_check_marked, b_check_marked, k_check_marked, m_check_marked⟩ := D_check_marked
    obtain ⟨f_variables_in, fd_variables_in, G_variables_in, b_variables_in, k_variables_in, m_variables_in⟩ := D_variables_in
    obtain ⟨f_numbered, fd_numbered, G_numbered, b_numbered, k_numbered, m_numbered⟩ := D_numbered
    obtain ⟨f_replaced, fd_replaced, G_replaced, b_replaced, k_replaced, m_replaced⟩ := D_replaced
    suffices hh : ∃ t, PSs (cxOf CX0 P w K mg base ["cls", "book", "T", "marked", "variables", "marks", "number", "variable"] "Scheme.of" (defScope s_Scheme_of) g cdv A outer s H E).nox (defBody s_Scheme_of) t ∧ t { nx := fun _ H' => Q .non H', rt := Q } (start ["cls", "book", "T", "marked", "variables", "marks", "number", "variable"] [.ref D, b, v, .ref a]) H by
      obtain ⟨t, h1, h2⟩ := hh
      exact ⟨t, h1.nox, h2⟩
    refine ⟨_, (pss_cons (ps_expr (pe_call G_check_type (hr.mono (by decide)) rfl m_check_type k_check_type b_check_type .nil pass0 (pa_cons (pv 1) (pa_cons (pv 2) pa_nil))))
  (pss_cons (ps_expr (pe_call G_check_marked (hr.mono (by decide)) rfl m_check_marked k_check_marked b_check_marked .nil pass0 (pa_cons (pv 3) pa_nil)))
  (pss_cons (ps_set (i := 4) sc_Scheme_of.nd rfl (Or.inl rfl) (pe_call G_variables_in (hr.mono (by decide)) rfl m_variables_in k_variables_in b_variables_in .nil pass0 (pa_cons (pv 2) pa_nil)))
  (pss_cons (ps_setLc (i := 5) (own := [("number", 6), ("variable", 7)]) (g := gTup _ 2 (gCons (gName 6) (gCons (gName 7) gNil))) (tt := _) (by rfl) sc_Scheme_of.nd rfl rfl (sw_true rfl rfl rfl (by decide +kernel)) (pi_enumT (by rfl) B.enumerate (pa_cons (pv 4) pa_nil)) (blkOk_by (N := ["cls", "book", "T", "marked", "variables", "marks", "number", "variable"]) (sc := defScope s_Scheme_of) (by decide +kernel)) (fun _ _ _ _ _ => (pg_tup rfl (pgs_cons (pg_name (i := 6) sc_Scheme_of.nd rfl (Or.inl rfl)) (pgs_cons (pg_name (i := 7) sc_Scheme_of.nd rfl (Or.inl rfl)) pgs_nil)))) (fun _ _ _ _ _ => (pts_one (pt_cmpR (inS K) (pv 7) (pv 3) rfl))) (fun _ _ _ _ _ => (pv 6)))
  (pss_one (ps_ret (pe_makeL (i := 0) M_Scheme G_sinit (hr.mono (by decide)) rfl (Or.inl rfl) b_sinit pass0 (pa_cons (pv 1) (pa_cons (pe_callTy call_tuple_of (by rfl) B.tuple (by decide +kernel) (pa_cons (pv 5) pa_nil)) (pa_cons (pe_call G_replaced (hr.mono (by decide)) rfl m_replaced k_replaced b_replaced .nil pass0 (pa_cons (pv 2) (pa_cons (pe_call G_numbered (hr.mono (by decide)) rfl m_numbered k_numbered b_numbered .nil pass0 (pa_cons (pv 4) pa_nil)) pa_nil))) pa_nil)))))))))), ?_⟩
    refine ⟨_, rfl, _, rfl, b, v, rows, T, rfl, hB, hT, hok, hsz, fun H2 g2 => ?_⟩
    refine ⟨_, rfl, a, ms, rfl, tups_of g2 _ _ ha, hms, hml, hmp, fun H3 g3 => ?_⟩
    have g13 := g2.trans g3
    refine ⟨_, rfl, T, v, rfl, hT.mono (tups_of g13), by omega, hok.leafy, fun H4 pv g4 hpv => ?_⟩
    have g14 := g13.trans g4
    have hol := ord_len T
    refine ⟨_, rfl, pv, _, rfl, hpv, fun Dl hDl => lc_enumT (K := K) (fun i H5 => Same H4 H5 ∧ ∃ mk : List Nat, H5 Dl = some (.lst (natV mk)) ∧ mk.length ≤ i ∧ mk.Pairwise (· < ·) ∧ ∀ n ∈ mk, n < i)
      ⟨same_upd hDl _, [], upd_same, Nat.le_refl _, .nil, fun n h => nomatch h⟩ (fun i H5 z => tups_of z.1 _ _ hpv) ?_ ?_⟩
    · rintro i x Tp H5 hx ⟨g5, mk, h5, hkl, hkp, hki⟩ hTp
      obtain ⟨n, hn, rfl⟩ := natV_at hx
      have hil := lt_of_get hn
      have w1 := same_upd hTp (.tup [.int (i : Nat), .int (n : Int)])
      have h6 := w1 _ _ h5
      refine ⟨Tp, _, rfl, sq_new, rfl, _, _, rfl, _, _, rfl, rfl, rfl, _, rfl, _, rfl, a, natV ms, rfl, .inr (tups_of (g14.trans (g5.trans w1)) _ _ ha), rfl, flat_nat ms, _, rfl, ?_⟩
      rw [inV_nat]
      by_cases hin : n ∈ ms
      · rw [decide_eq_true hin]
        refine iteT ⟨_, rfl, _, h6, ?_, same_set (g5.trans w1) hDl _, mk ++ [i], ?_, ?_, ?_, ?_⟩
        · rw [natV_len]
          exact small1000 (by omega)
        · rw [upd_same, natV_app]
          rfl
        · rw [List.length_append, List.length_singleton]
          omega
        · refine List.pairwise_append.mpr ⟨hkp, .cons (fun _ h => nomatch h) .nil, fun x hx y hy => ?_⟩
          rw [List.mem_singleton.mp hy]
          exact hki x hx
        · intro x hx
          rcases List.mem_append.mp hx with hx | hx
          · have := hki x hx
            omega
          · rw [List.mem_singleton.mp hx]
            exact Nat.lt_succ_self i
      · rw [decide_eq_false hin]
        exact iteF ⟨g5.trans w1, mk, h6, by omega, hkp, fun x hx => by have := hki x hx; omega⟩
    · rintro H5 ⟨g5, mk, h5, hkl, hkp, hki⟩
      rw [natV_len] at hkl hki
      have g15 := g14.trans g5
      refine ⟨rfl, _, rfl, _, rfl, Dl, _, rfl, .inl ⟨SqL.of h5, fun ma hma => ?_⟩⟩
      have w6 := same_upd hma (.tup (natV mk))
      have g45 := g5.trans w6
      have g16 := g14.trans g45
      refine ⟨_, rfl, _, rfl, pv, T.ord, rfl, tups_of g45 _ _ hpv, ord_nodup hok.leafy, by omega, fun H7 d kvs g7 hd hk => ?_⟩
      have g17 := g16.trans g7
      refine ⟨T, v, d, kvs, (fun n => tv (idx T.ord n)), arOf rows, rfl, hT.mono (tups_of g17), hok, hsz, hd, (fun n hn => hk _ n (idx_get ((ord_mem hok.leafy n).mpr hn))), fun H8 x8 g8 hx8 => ?_⟩
      have g18 := g17.trans g8
      have hma8 : SqT K H8 ma (natV mk) := tups_of (g7.trans g8) _ _ sq_new
      intro x dx nx ndx nex
      have s8 : Same H8 (upd (upd H8 dx (.own x)) x (.ins D dx [])) := (same_upd ndx _).trans (same_upd (by rw [upd_ne nex.symm]; exact nx) _)
      have eo : T.ren.ord.length = T.ord.length := by rw [ren_ord hok hsz, List.length_range]
      refine ⟨H8, x, dx, ma, b, x8, rows, T.ren, mk, rfl, s8, nx, upd_same, hB.mono g18, hx8, ren_ok hok hsz, by rw [ren_sz hok.leafy]; exact hsz, (ren_ok hok hsz).leafy, by rw [eo]; exact ren_ord hok hsz, hma8, by rw [eo]; exact hki, by omega, hkp, fun H9 t o g9 h9 => ⟨rfl, ?_⟩⟩
      exact q H9 mk _ (g18.trans g9) ⟨x, dx, ma, x8, t, o, rfl, h9, tups_of g9 _ _ hma8, hx8.mono (tups_of g9)⟩
  · obtain ⟨oc, od, dV, kV, doc, pm, an, cdv, ct, osl, rfl, lk, hcd, hD, hK⟩ := F.ex
    rcases hD with ⟨_, rfl⟩ | ⟨e, _⟩
    · refine ⟨fun s us ws _ hu hw => ?_, fun r1 r2 => r1.append r2⟩
      match us, hu, ws, hw with
      | [_, _, _], _, [_], _ => exact .of_eq rfl
    · exact absurd rfl e
end
end Lq
namespace Lq
open PySem L2
section
variable {P : Program} {w : World} {K : PySem.W.Frag} {mg : Str → Option Value} {base : Heap} {C D : Addr}
abbrev s_Scheme__check_body : Stmt := inClass (top 57) 3
theorem sc_Scheme__check_body : FnScope ["self", "book"] ["self", "book"] (defScope s_Scheme__check_body) := ⟨rfl, rfl, rfl, by decide +kernel, rfl, by decide +kernel, by decide +kernel⟩
abbrev s_Scheme_text : Stmt := inClass (top 57) 8
theorem sc_Scheme_text : FnScope ["self", "book"] ["self", "book"] (defScope s_Scheme_text) := ⟨rfl, rfl, rfl, by decide +kernel, rfl, by decide +kernel, by decide +kernel⟩
def spCB (K : PySem.W.Frag) (C D : Addr) : Sp := fun vs H Q _ => ∃ (x b : V) (rows : List Row) (T : Ty) (mk : List Nat), vs = [x, b] ∧ SchH K D H T mk x ∧ BookH K C H rows b ∧ T.Ok (arOf rows) ∧ T.sz ≤ 300 ∧ ∀ H', Same H H' → Q .non H'
theorem ok_check_body (A : AtM K D "_check_body" "Scheme._check_body" s_Scheme__check_body ["self", "book"]) (S : Sk K mg D) (D_check_book : Has P w K mg base "check_book" ["book"] 1 (spCheckBook K C)) (D_is_type : Has P w K mg base "is_type" ["book", "value"] 6 (spIsType K C)) : HasM P w K mg base D "_check_body" ["self", "book"] 7 (spCB K C D) := by
  refine .mk A fun f fd F => ?_
  refine F.ok sc_Scheme__check_body (fun vs H Q E h => ?_) (fun cdv A outer s H vs Q E hr h => ?_)
  · obtain ⟨x, b, rows, T, mk, rfl, _⟩ := h
    rfl
  obtain ⟨x, b, rows, T, mk, rfl, ⟨p, dx, am, va, t, o, rfl, hp, hm, hT⟩, hB, hok, hsz, q⟩ := h
  obtain ⟨f_check_book, fd_check_book, G_check_book, b_check_book, k_check_book, m_check_book⟩ := D_check_book
  obtain ⟨f_is_type, fd_is_type, G_is_type, b_is_type, k_is_type, m_is_type⟩ := D_is_type
  refine ⟨_, (pss_cons (ps_expr (pe_call G_check_book (hr.mono (by decide)) rfl m_check_book k_check_book b_check_book .nil pass0 (pa_cons (pv 1) pa_nil)))
  (pss_one (ps_if (pt_not (pt_val (pe_call G_is_type (hr.mono (by decide)) rfl m_is_type k_is_type b_is_type .nil pass0 (pa_cons (pv 1) (pa_cons (pe_fld (pv 0) rfl) pa_nil))))) (pss_one ps_never) pss_nil))), ?_⟩
  refine ⟨_, rfl, b, rows, rfl, hB, ?_⟩
  refine ⟨_, rfl, _, rfl, p, D, dx, _, _, rfl, hp, S.cl, S.nB, sf_body _ _ _ _, b, va, rows, T, rfl, hB, hT, hok, hsz, fun H2 g2 => ⟨_, rfl, iteF ?_⟩⟩
  exact q H2 g2
def spSText (K : PySem.W.Frag) (C D : Addr) : Sp := fun vs H Q _ => ∃ (x b : V) (rows : List Row) (T : Ty) (mk : List Nat), vs = [x, b] ∧ SchH K D H T mk x ∧ BookH K C H rows b ∧ GTy (arOf rows) T ∧ (∀ row ∈ rows, row.z.length ≤ 10) ∧ ∀ H', Same H H' → Q (.str (T.tx (nmR rows) mk 0)) H'
theorem ok_stext (A : AtM K D "text" "Scheme.text" s_Scheme_text ["self", "book"]) (S : Sk K mg D) (D_text_with : Has P w K mg base "text_with" ["book", "T", "marked"] 5 (spTextW K C)) (DM__check_body : HasM P w K mg base D "_check_body" ["self", "book"] 7 (spCB K C D)) : HasM P w K mg base D "text" ["self", "book"] 8 (spSText K C D) := by
  refine .mk A fun f fd F => ?_
  refine F.ok sc_Scheme_text (fun vs H Q E h => ?_) (fun cdv A outer s H vs Q E hr h => ?_)
  · obtain ⟨x, b, rows, T, mk, rfl, _⟩ := h
    rfl
  obtain ⟨x, b, rows, T, mk, rfl, hS, hB, hG, hz, q⟩ := h
  obtain ⟨f_text_with, fd_text_with, G_text_with, b_text_with, k_text_with, m_text_with⟩ := D_text_with
  obtain ⟨fm__check_body, fdm__check_body, GM__check_body, bm__check_body, mm__check_body⟩ := DM__check_body
  refine ⟨_, (pss_cons (ps_expr (pe_meth (pv 0) S.cl mm__check_body GM__check_body (hr.mono (by decide)) bm__check_body .nil pass0 (pa_cons (pv 1) pa_nil)))
  (pss_one (ps_ret (pe_call G_text_with (hr.mono (by decide)) rfl m_text_with k_text_with b_text_with .nil pass0 (pa_cons (pv 1) (pa_cons (pe_fld (pv 0) rfl) (pa_cons (pe_fld (pv 0) rfl) pa_nil))))))), ?_⟩
  have hS' := hS
  obtain ⟨p, dx, am, va, t, o, rfl, hp, hm, hT⟩ := hS
  refine ⟨_, rfl, p, dx, _, rfl, hp, sf_no _ _ _ _ (by decide +kernel) (by decide +kernel) (by decide +kernel) (by decide +kernel), _, rfl, _, b, rows, T, mk, rfl, hS', hB, hG.ok, hG.2, fun H2 g2 => ?_⟩
  refine ⟨_, rfl, _, rfl, p, D, dx, _, _, rfl, g2 _ _ hp, S.cl, S.nB, sf_body _ _ _ _, _, rfl, p, D, dx, _, _, rfl, g2 _ _ hp, S.cl, S.nM, sf_marks _ _ _ _, ?_⟩
  exact ⟨b, va, rows, T, am, mk, rfl, hB.mono g2, hT.mono (tups_of g2), hG, tups_of g2 _ _ hm, hz, fun H3 g3 => q H3 (g2.trans g3)⟩
end
end Lq
namespace Lq
open PySem L2
theorem kid_dep {T t : Ty} (m : t ∈ T.kids) : t.dep < T.dep := by
  obtain ⟨l, ts⟩ := T
  rw [Ty.dep.eq_1 l ts]
  have : ∀ {ts : List Ty}, t ∈ ts → t.dep ≤ Ty.deps ts := fun {ts} h => by
    induction ts with
    | nil => cases h
    | cons x r ih =>
      rw [Ty.deps]
      rcases List.mem_cons.mp h with e | h
      · rw [e]
        exact Nat.le_max_left _ _
      · exact Nat.le_trans (ih h) (Nat.le_max_right _ _)
  exact Nat.lt_succ_of_le (this m)
theorem dep_pos (T : Ty) : 1 ≤ T.dep := by
  obtain ⟨l, ts⟩ := T
  rw [Ty.dep]
  exact Nat.le_add_left _ _
structure Bi2 (mg : Str → Option Value) : Prop where
  dict : mg "dict" = none
section
variable {P : Program} {w : World} {K : PySem.W.Frag} {mg : Str → Option Value} {base : Heap} {C : Addr}
abbrev s__law_put : Stmt := top 67
theorem sc__law_put : FnScope ["_law_kt", "_law_types", "_law_have", "_law_inner_here", "_law_one"] ["_law_kt", "_law_types"] (defScope s__law_put) := ⟨rfl, rfl, rfl, by decide +kernel, rfl, by decide +kernel, by decide +kernel⟩
/-- d holds types for the variables -/
def PutT (K : PySem.W.Frag) (H : Hp) (d : Addr) (σ : Nat → Ty) (M : List Nat) : Prop := ∃ xs, SqT K H d xs ∧ ∀ n ∈ M, ∃ x, xs[n]? = some x ∧ TyH K H (σ n) x
def PutD (K : PySem.W.Frag) (H : Hp) (d : Addr) (σ : Nat → Ty) (M : List Nat) : Prop := ∃ kvs, H d = some (.dK kvs) ∧ ∀ n ∈ M, ∃ x, valV kvs (Sum.inl (n : Int)) = some x ∧ TyH K H (σ n) x
def PutA (K : PySem.W.Frag) (H : Hp) (d : Addr) (σ : Nat → Ty) (M : List Nat) : Prop := PutT K H d σ M ∨ PutD K H d σ M
theorem PutA.mono {K : PySem.W.Frag} {H H' : Hp} (e : Same H H') {d : Addr} {σ : Nat → Ty} {M N : List Nat} (hM : ∀ n ∈ N, n ∈ M) (h : PutA K H d σ M) : PutA K H' d σ N := by
  rcases h with ⟨xs, h1, h2⟩ | ⟨kvs, h1, h2⟩
  · exact .inl ⟨xs, tups_of e _ _ h1, fun n hn => by
      obtain ⟨x, a, b⟩ := h2 n (hM n hn)
      exact ⟨x, a, b.mono (tups_of e)⟩⟩
  · exact .inr ⟨kvs, e _ _ h1, fun n hn => by
      obtain ⟨x, a, b⟩ := h2 n (hM n hn)
      exact ⟨x, a, b.mono (tups_of e)⟩⟩
def spLPut (K : PySem.W.Frag) (n : Nat) : Sp := fun vs H Q _ => ∃ (T : Ty) (v : V) (d : Addr) (σ : Nat → Ty), vs = [v, .ref d] ∧ TyH K H T v ∧ T.dep ≤ n ∧ T.sz ≤ 300 ∧ T.Leafy ∧ PutA K H d σ T.vars ∧ ∀ (H' : Hp) (x : V), Same H H' → TyH K H' (T.sub σ) x → Q x H'
theorem put_none {f : Addr} {fd : FuncData} : FnOk P w K mg base CX0 1 f fd ["_law_kt", "_law_types"] (spLPut K 0) := by
  have no : ∀ vs H Q E, ¬ spLPut K 0 vs H Q E := fun vs H Q E h => by
    obtain ⟨T, v, d, σ, _, _, h1, _⟩ := h
    have := dep_pos T
    omega
  exact ⟨fun vs H Q E h => absurd h (no vs H Q E), fun A outer s H args us vs Q E _ _ _ _ h => absurd h (no vs H Q E)⟩
theorem put_step {n : Nat} {f__law_put : Addr} {fd__law_put : FuncData} (F : Fun K "_law_put" "_law_put" s__law_put f__law_put fd__law_put) (b__law_put : Binds K fd__law_put ["_law_kt", "_law_types"] []) (m__law_put : mg "_law_put" = some (.ref f__law_put)) (B : Bi mg) (B2 : Bi2 mg)
    (D__law_inner : Has P w K mg base "_law_inner" ["_law_kt"] 1 (spChildren K)) (G__law_put : FnOk P w K mg base CX0 (n + 1) f__law_put fd__law_put ["_law_kt", "_law_types"] (spLPut K n)) : FnOk P w K mg base CX0 (n + 2) f__law_put fd__law_put ["_law_kt", "_law_types"] (spLPut K (n + 1)) := by
  have k__law_put := F.kp
  refine F.ok sc__law_put (fun vs H Q E h => ?_) (fun cdv A outer s H vs Q E hr h => ?_)
  · obtain ⟨T, v, d, σ, rfl, _⟩ := h
    rfl
  obtain ⟨T, v, d, σ, rfl, hT, hn, h300, hlf, hp, q⟩ := h
  obtain ⟨f__law_inner, fd__law_inner, G__law_inner, b__law_inner, k__law_inner, m__law_inner⟩ := D__law_inner
  obtain ⟨a, xs, rfl, ⟨r, hS, hR⟩, _⟩ := hT.out
  have i0 : atI (V.str T.lab.word :: r) 0 = some (V.str T.lab.word) := atI_nat (j := 0) rfl
  have hpA := hp
  have hlab : ∀ m, T.lab.num = some m → T.lab = .var m := fun m hnum => by
    cases e : T.lab with
    | var k => rw [e] at hnum; cases hnum; rfl
    | _ => rw [e] at hnum; cases hnum
  have hmv : ∀ m, T.lab.num = some m → m ∈ T.vars := fun m hnum => List.mem_filterMap.mpr ⟨T, by rw [pre_eq]; exact List.mem_cons_self, hnum⟩
  have hkl := kids_len T
  rcases hp with ⟨ys, hd, hsub⟩ | ⟨kvs, hd, hsub⟩
  · refine ⟨_, (pss_cons (ps_if (pt_cmpR op_eq (pe_ix (ixT K) (pv 0) pe_int (fun _ _ => rfl)) pe_str (nomark _)) (pss_cons (ps_set (i := 2) sc__law_put.nd rfl (Or.inl rfl) (pe_or (pe_and (pe_callB (isiK K) (by rfl) B.isinstance (by decide +kernel) (pa_cons (pv 1) (pa_cons (pe_bltn (v := .ty "tuple") rfl B.tuple (by decide +kernel) rfl) pa_nil))) (pe_one (pe_cmpR op_lt (pe_ix (ixT K) (pv 0) pe_int (fun _ _ => rfl)) (pe_callB (lenS K) (by rfl) B.len (by decide +kernel) (pa_cons (pv 1) pa_nil)) (nomark _)))) (pe_one (pe_and (pe_callB (isiK K) (by rfl) B.isinstance (by decide +kernel) (pa_cons (pv 1) (pa_cons (pe_bltn (v := .ty "dict") rfl B2.dict (by decide +kernel) rfl) pa_nil))) (pe_one (pe_cmp (pc_din (hu_of hr) (pe_ix (ixT K) (pv 0) pe_int (fun _ _ => rfl)) (pv 1)) rfl))))))
  (pss_one (ps_ret (pe_ifExp (pt_truth (pv 2) (by intro _; rfl)) (pe_ix (ixT K) (pv 1) (pe_ix (ixT K) (pv 0) pe_int (fun _ _ => rfl)) (fun _ _ => rfl)) (pv 0))))) pss_nil)
  (pss_cons (ps_set (i := 3) sc__law_put.nd rfl (Or.inl rfl) (pe_callTy call_tuple_of (by rfl) B.tuple (by decide +kernel) (pa_cons (pe_lc (own := [("_law_one", 4)]) (g := gName 4) (tt := tYes) (by rfl) sc__law_put.nd (pi_tup (pe_call G__law_inner (hr.mono (by omega)) rfl m__law_inner k__law_inner b__law_inner .nil pass0 (pa_cons (pv 0) pa_nil))) (blkOk_by (N := ["_law_kt", "_law_types", "_law_have", "_law_inner_here", "_law_one"]) (sc := defScope s__law_put) (by decide +kernel)) (fun _ _ _ _ _ => (pg_name (i := 4) sc__law_put.nd rfl (Or.inl rfl))) (fun _ _ _ _ _ => pts_nil) (fun _ _ _ _ _ => (pe_call G__law_put (hr.mono (by omega)) rfl m__law_put k__law_put b__law_put .nil pass0 (pa_cons (pv 4) (pa_cons (pv 1) pa_nil))))) pa_nil)))
  (pss_one (ps_ret (pe_ifExp (pt_cmpR op_eq (pe_ix (ixT K) (pv 0) pe_int (fun _ _ => rfl)) pe_str (nomark _)) (pe_op op_catT (pe_tup (pa_cons pe_str pa_nil)) (pv 3)) (pe_op op_catT (pe_slice sl_tup (pv 0) po_none (po_some (pe_un un_neg pe_int))) (pe_tup (pa_cons (pv 3) pa_nil)))))))), ?_⟩
    refine ⟨_, rfl, a, _, _, _, rfl, rfl, hS, i0, rfl, _, rfl, ?_⟩
    rw [w_var]
    cases hnum : T.lab.num with
    | some m =>
      have hl := hlab m hnum
      rw [hl] at hR hS ⊢
      obtain ⟨_, rfl⟩ := hR
      obtain ⟨x, hx, hxT⟩ := hsub m (hmv m hnum)
      refine iteT ?_
      refine ⟨_, rfl, _, _, _, _, true, rfl, .ty _, tyx_tup hd, kit_ty (by decide +kernel), _, rfl, iteT ?_⟩
      refine ⟨_, rfl, a, _, _, _, rfl, rfl, hS, atI_nat (j := 1) rfl, _, rfl, d, ys, rfl, .inr hd, _, _, rfl, rfl, _, rfl, ?_⟩
      have hlt := lt_of_get hx
      rw [decide_eq_true (show ((m : Nat) : Int) < (ys.length : Int) by omega)]
      refine iteT ⟨_, rfl, _, rfl, iteT ⟨_, rfl, _, rfl, a, _, _, _, rfl, rfl, hS, atI_nat (j := 1) rfl, d, _, _, _, rfl, rfl, hd, atI_nat hx, ?_⟩⟩
      refine q H x (Same.refl _) ?_
      rw [sub_var σ hnum]
      exact hxT
    | none =>
      have hv : T.lab.isVar = false := by
        cases e : T.lab with
        | var k => rw [e] at hnum; cases hnum
        | _ => rfl
      rw [hv]
      refine iteF ?_
      have hk2 : T.lab.num = none := hnum
      show tSeq _ _ _ _ _
      refine ⟨_, rfl, T, _, rfl, hT, fun H2 c xs2 g2 hc hK => ?_⟩
      refine ⟨c, rfl, ⟨_, hc⟩, fun Dl hDl => lc_tup (K := K) (a := c) (xs := xs2) (fun i H3 => Same H2 H3 ∧ ∃ acc, H3 Dl = some (.lst acc) ∧ TysH K H3 ((Ty.subs σ T.kids).take i) acc) ⟨same_upd hDl _, [], upd_same, .nil⟩ (fun i H3 _ z => tups_of z.1 _ _ hc) ?_ ?_⟩
      · rintro i x H3 hx ⟨g3, acc, h3, hA⟩
        obtain ⟨t, hti, ht⟩ := hK.get hx
        have hmem := List.mem_of_getElem? hti
        have htd := kid_dep hmem
        have htz := kid_sz hmem
        have hil := lt_of_get hti
        refine ⟨rfl, _, rfl, _, rfl, t, x, d, σ, rfl, ht.mono (tups_of g3), by omega, by omega, hlf.kid hmem, hpA.mono (g2.trans g3) (fun n hn => vars_kid hmem hn), fun H4 y g4 hy => ?_⟩
        have h4 := g4 _ _ h3
        have hal := hA.len
        rw [List.length_take] at hal
        have t5 := tups_set (K := K) h4 (.lst (acc ++ [y]))
        refine ⟨acc, h4, small1000 (by omega), same_set (g3.trans g4) hDl _, _, upd_same, ?_⟩
        have e : (Ty.subs σ T.kids)[i]? = some (t.sub σ) := by rw [subs_map, List.getElem?_map, hti]; rfl
        rw [take_snoc e]
        exact ((hA.mono (tups_of g4)).mono t5).app (.cons (hy.mono t5) .nil)
      · rintro H3 ⟨g3, acc, h3, hA⟩
        have hxl := hK.len
        have hAl : (Ty.subs σ T.kids).take xs2.length = Ty.subs σ T.kids := List.take_of_length_le (by rw [subs_len, hxl]; exact Nat.le_refl _)
        rw [hAl] at hA
        have hacc := hA.len
        rw [subs_len] at hacc
        refine ⟨Dl, _, rfl, .inl ⟨SqL.of h3, fun pi hpi => ?_⟩⟩
        have w4 := same_upd hpi (.tup acc)
        have gg := g2.trans (g3.trans w4)
        have hS4 := tups_of gg _ _ hS
        refine ⟨_, rfl, a, _, _, _, rfl, rfl, hS4, i0, rfl, _, rfl, ?_⟩
        rw [w_fn]
        have es := sub_node σ hk2
        obtain ⟨l, ts⟩ := T
        cases l with
        | var m => cases hk2
        | fn =>
          obtain ⟨_, h2⟩ := hR
          have h2k : acc.length = 2 := by
            rw [hacc, ← hxl]
            have := hT.out
            obtain ⟨a', xs', e1, ⟨r', hS', hR'⟩, hK'⟩ := this
            have := hK'.len
            obtain ⟨e3, e4⟩ := hR'
            rw [hxl, ← this, e3, e4]
          refine iteT ⟨z1, fun pf hpf => ?_⟩
          have w5 := same_upd hpf (.tup [.str "fn"])
          refine ⟨_, rfl, pf, pi, [.str "fn"], acc, rfl, rfl, sq_new, tups_of w5 _ _ sq_new, (fun z => nomatch z), small300 (by rw [h2k]; decide), (fun z => by rw [z] at h2k; cases h2k), fun _ p hp => ?_⟩
          have w6 := same_upd hp (.tup ([.str "fn"] ++ acc))
          rw [es] at q
          exact q _ _ (gg.trans (w5.trans w6)) (.mk ⟨acc, sq_new, rfl, h2k⟩ (hA.mono (tups_of (w4.trans (w5.trans w6)))))
        | tup =>
          obtain ⟨b, rfl, hb⟩ := hR
          refine iteF ⟨_, rfl, 1, rfl, -1, rfl, a, _, rfl, hS4, (show ¬ (HT.sIx 2 0 none = 0 ∧ HT.sIx 2 2 (some (-1)) = 2) by decide), fun pf hpf => ?_⟩
          have w5 := same_upd hpf (.tup [.str "tuple"])
          refine ⟨_, rfl, z1, fun pg hpg => ?_⟩
          have w6 := same_upd hpg (.tup [.ref pi])
          refine ⟨pf, pg, [.str "tuple"], [.ref pi], rfl, rfl, tups_of w6 _ _ sq_new, sq_new, (fun z => nomatch z), (by show 2 ≤ sizeLine; decide), (fun z => nomatch z), fun _ p hp => ?_⟩
          have w7 := same_upd hp (.tup ([.str "tuple"] ++ [.ref pi]))
          rw [es] at q
          have w57 := w5.trans (w6.trans w7)
          exact q _ _ (gg.trans w57) (.mk ⟨_, sq_new, pi, rfl, tups_of w57 _ _ sq_new⟩ (hA.mono (tups_of (w4.trans w57))))
        | made st =>
          obtain ⟨b, rfl, hb⟩ := hR
          refine iteF ⟨_, rfl, 1, rfl, -1, rfl, a, _, rfl, hS4, (show ¬ (HT.sIx 3 0 none = 0 ∧ HT.sIx 3 3 (some (-1)) = 3) by decide), fun pf hpf => ?_⟩
          have w5 := same_upd hpf (.tup [.str "made", .int (st : Int)])
          refine ⟨_, rfl, z1, fun pg hpg => ?_⟩
          have w6 := same_upd hpg (.tup [.ref pi])
          refine ⟨pf, pg, [.str "made", .int (st : Int)], [.ref pi], rfl, rfl, tups_of w6 _ _ sq_new, sq_new, (fun z => nomatch z), (by show 3 ≤ sizeLine; decide), (fun z => nomatch z), fun _ p hp => ?_⟩
          have w7 := same_upd hp (.tup ([.str "made", .int (st : Int)] ++ [.ref pi]))
          rw [es] at q
          have w57 := w5.trans (w6.trans w7)
          exact q _ _ (gg.trans w57) (.mk ⟨_, sq_new, pi, rfl, tups_of w57 _ _ sq_new⟩ (hA.mono (tups_of (w4.trans w57))))
  · refine ⟨_, (pss_cons (ps_if (pt_cmpR op_eq (pe_ix (ixT K) (pv 0) pe_int (fun _ _ => rfl)) pe_str (nomark _)) (pss_cons (ps_set (i := 2) sc__law_put.nd rfl (Or.inl rfl) (pe_or (pe_and (pe_callB (isiK K) (by rfl) B.isinstance (by decide +kernel) (pa_cons (pv 1) (pa_cons (pe_bltn (v := .ty "tuple") rfl B.tuple (by decide +kernel) rfl) pa_nil))) (pe_one (pe_cmpR op_lt (pe_ix (ixT K) (pv 0) pe_int (fun _ _ => rfl)) (pe_callB (lenS K) (by rfl) B.len (by decide +kernel) (pa_cons (pv 1) pa_nil)) (nomark _)))) (pe_one (pe_and (pe_callB (isiK K) (by rfl) B.isinstance (by decide +kernel) (pa_cons (pv 1) (pa_cons (pe_bltn (v := .ty "dict") rfl B2.dict (by decide +kernel) rfl) pa_nil))) (pe_one (pe_cmp (pc_din (hu_of hr) (pe_ix (ixT K) (pv 0) pe_int (fun _ _ => rfl)) (pv 1)) rfl))))))
  (pss_one (ps_ret (pe_ifExp (pt_truth (pv 2) (by intro _; rfl)) (pe_dget (hu_of hr) (pv 1) (pe_ix (ixT K) (pv 0) pe_int (fun _ _ => rfl)) (fun _ _ => rfl)) (pv 0))))) pss_nil)
  (pss_cons (ps_set (i := 3) sc__law_put.nd rfl (Or.inl rfl) (pe_callTy call_tuple_of (by rfl) B.tuple (by decide +kernel) (pa_cons (pe_lc (own := [("_law_one", 4)]) (g := gName 4) (tt := tYes) (by rfl) sc__law_put.nd (pi_tup (pe_call G__law_inner (hr.mono (by omega)) rfl m__law_inner k__law_inner b__law_inner .nil pass0 (pa_cons (pv 0) pa_nil))) (blkOk_by (N := ["_law_kt", "_law_types", "_law_have", "_law_inner_here", "_law_one"]) (sc := defScope s__law_put) (by decide +kernel)) (fun _ _ _ _ _ => (pg_name (i := 4) sc__law_put.nd rfl (Or.inl rfl))) (fun _ _ _ _ _ => pts_nil) (fun _ _ _ _ _ => (pe_call G__law_put (hr.mono (by omega)) rfl m__law_put k__law_put b__law_put .nil pass0 (pa_cons (pv 4) (pa_cons (pv 1) pa_nil))))) pa_nil)))
  (pss_one (ps_ret (pe_ifExp (pt_cmpR op_eq (pe_ix (ixT K) (pv 0) pe_int (fun _ _ => rfl)) pe_str (nomark _)) (pe_op op_catT (pe_tup (pa_cons pe_str pa_nil)) (pv 3)) (pe_op op_catT (pe_slice sl_tup (pv 0) po_none (po_some (pe_un un_neg pe_int))) (pe_tup (pa_cons (pv 3) pa_nil)))))))), ?_⟩
    refine ⟨_, rfl, a, _, _, _, rfl, rfl, hS, i0, rfl, _, rfl, ?_⟩
    rw [w_var]
    cases hnum : T.lab.num with
    | some m =>
      have hl := hlab m hnum
      rw [hl] at hR hS ⊢
      obtain ⟨_, rfl⟩ := hR
      obtain ⟨x, hx, hxT⟩ := hsub m (hmv m hnum)
      refine iteT ?_
      refine ⟨_, rfl, _, _, _, _, false, rfl, .ty _, .base (.dK hd), kit_ty (by decide +kernel), _, rfl, iteF ?_⟩
      refine ⟨_, rfl, iteF ?_⟩
      refine ⟨_, rfl, _, _, _, _, true, rfl, .ty _, .base (.dK hd), kit_ty (by decide +kernel), _, rfl, iteT ?_⟩
      refine ⟨_, rfl, a, _, _, _, rfl, rfl, hS, atI_nat (j := 1) rfl, _, rfl, d, _, rfl, DGet.k (k := Sum.inl (m : Int)) hd, ?_⟩
      rw [hx]
      refine ⟨_, rfl, _, rfl, iteT ⟨_, rfl, _, rfl, a, _, _, _, rfl, rfl, hS, atI_nat (j := 1) rfl, d, x, rfl, (by
        have h1 := DGet.k (k := Sum.inl (m : Int)) hd
        rw [hx] at h1
        exact h1), ?_⟩⟩
      refine q H x (Same.refl _) ?_
      rw [sub_var σ hnum]
      exact hxT
    | none =>
      have hv : T.lab.isVar = false := by
        cases e : T.lab with
        | var k => rw [e] at hnum; cases hnum
        | _ => rfl
      rw [hv]
      refine iteF ?_
      have hk2 : T.lab.num = none := hnum
      show tSeq _ _ _ _ _
      refine ⟨_, rfl, T, _, rfl, hT, fun H2 c xs2 g2 hc hK => ?_⟩
      refine ⟨c, rfl, ⟨_, hc⟩, fun Dl hDl => lc_tup (K := K) (a := c) (xs := xs2) (fun i H3 => Same H2 H3 ∧ ∃ acc, H3 Dl = some (.lst acc) ∧ TysH K H3 ((Ty.subs σ T.kids).take i) acc) ⟨same_upd hDl _, [], upd_same, .nil⟩ (fun i H3 _ z => tups_of z.1 _ _ hc) ?_ ?_⟩
      · rintro i x H3 hx ⟨g3, acc, h3, hA⟩
        obtain ⟨t, hti, ht⟩ := hK.get hx
        have hmem := List.mem_of_getElem? hti
        have htd := kid_dep hmem
        have htz := kid_sz hmem
        have hil := lt_of_get hti
        refine ⟨rfl, _, rfl, _, rfl, t, x, d, σ, rfl, ht.mono (tups_of g3), by omega, by omega, hlf.kid hmem, hpA.mono (g2.trans g3) (fun n hn => vars_kid hmem hn), fun H4 y g4 hy => ?_⟩
        have h4 := g4 _ _ h3
        have hal := hA.len
        rw [List.length_take] at hal
        have t5 := tups_set (K := K) h4 (.lst (acc ++ [y]))
        refine ⟨acc, h4, small1000 (by omega), same_set (g3.trans g4) hDl _, _, upd_same, ?_⟩
        have e : (Ty.subs σ T.kids)[i]? = some (t.sub σ) := by rw [subs_map, List.getElem?_map, hti]; rfl
        rw [take_snoc e]
        exact ((hA.mono (tups_of g4)).mono t5).app (.cons (hy.mono t5) .nil)
      · rintro H3 ⟨g3, acc, h3, hA⟩
        have hxl := hK.len
        have hAl : (Ty.subs σ T.kids).take xs2.length = Ty.subs σ T.kids := List.take_of_length_le (by rw [subs_len, hxl]; exact Nat.le_refl _)
        rw [hAl] at hA
        have hacc := hA.len
        rw [subs_len] at hacc
        refine ⟨Dl, _, rfl, .inl ⟨SqL.of h3, fun pi hpi => ?_⟩⟩
        have w4 := same_upd hpi (.tup acc)
        have gg := g2.trans (g3.trans w4)
        have hS4 := tups_of gg _ _ hS
        refine ⟨_, rfl, a, _, _, _, rfl, rfl, hS4, i0, rfl, _, rfl, ?_⟩
        rw [w_fn]
        have es := sub_node σ hk2
        obtain ⟨l, ts⟩ := T
        cases l with
        | var m => cases hk2
        | fn =>
          obtain ⟨_, h2⟩ := hR
          have h2k : acc.length = 2 := by
            rw [hacc, ← hxl]
            have := hT.out
            obtain ⟨a', xs', e1, ⟨r', hS', hR'⟩, hK'⟩ := this
            have := hK'.len
            obtain ⟨e3, e4⟩ := hR'
            rw [hxl, ← this, e3, e4]
          refine iteT ⟨z1, fun pf hpf => ?_⟩
          have w5 := same_upd hpf (.tup [.str "fn"])
          refine ⟨_, rfl, pf, pi, [.str "fn"], acc, rfl, rfl, sq_new, tups_of w5 _ _ sq_new, (fun z => nomatch z), small300 (by rw [h2k]; decide), (fun z => by rw [z] at h2k; cases h2k), fun _ p hp => ?_⟩
          have w6 := same_upd hp (.tup ([.str "fn"] ++ acc))
          rw [es] at q
          exact q _ _ (gg.trans (w5.trans w6)) (.mk ⟨acc, sq_new, rfl, h2k⟩ (hA.mono (tups_of (w4.trans (w5.trans w6)))))
        | tup =>
          obtain ⟨b, rfl, hb⟩ := hR
          refine iteF ⟨_, rfl, 1, rfl, -1, rfl, a, _, rfl, hS4, (show ¬ (HT.sIx 2 0 none = 0 ∧ HT.sIx 2 2 (some (-1)) = 2) by decide), fun pf hpf => ?_⟩
          have w5 := same_upd hpf (.tup [.str "tuple"])
          refine ⟨_, rfl, z1, fun pg hpg => ?_⟩
          have w6 := same_upd hpg (.tup [.ref pi])
          refine ⟨pf, pg, [.str "tuple"], [.ref pi], rfl, rfl, tups_of w6 _ _ sq_new, sq_new, (fun z => nomatch z), (by show 2 ≤ sizeLine; decide), (fun z => nomatch z), fun _ p hp => ?_⟩
          have w7 := same_upd hp (.tup ([.str "tuple"] ++ [.ref pi]))
          rw [es] at q
          have w57 := w5.trans (w6.trans w7)
          exact q _ _ (gg.trans w57) (.mk ⟨_, sq_new, pi, rfl, tups_of w57 _ _ sq_new⟩ (hA.mono (tups_of (w4.trans w57))))
        | made st =>
          obtain ⟨b, rfl, hb⟩ := hR
          refine iteF ⟨_, rfl, 1, rfl, -1, rfl, a, _, rfl, hS4, (show ¬ (HT.sIx 3 0 none = 0 ∧ HT.sIx 3 3 (some (-1)) = 3) by decide), fun pf hpf => ?_⟩
          have w5 := same_upd hpf (.tup [.str "made", .int (st : Int)])
          refine ⟨_, rfl, z1, fun pg hpg => ?_⟩
          have w6 := same_upd hpg (.tup [.ref pi])
          refine ⟨pf, pg, [.str "made", .int (st : Int)], [.ref pi], rfl, rfl, tups_of w6 _ _ sq_new, sq_new, (fun z => nomatch z), (by show 3 ≤ sizeLine; decide), (fun z => nomatch z), fun _ p hp => ?_⟩
          have w7 := same_upd hp (.tup ([.str "made", .int (st : Int)] ++ [.ref pi]))
          rw [es] at q
          have w57 := w5.trans (w6.trans w7)
          exact q _ _ (gg.trans w57) (.mk ⟨_, sq_new, pi, rfl, tups_of w57 _ _ sq_new⟩ (hA.mono (tups_of (w4.trans w57))))
theorem ok_lput (A : At K mg "_law_put" s__law_put ["_law_kt", "_law_types"]) (B : Bi mg) (B2 : Bi2 mg) (D__law_inner : Has P w K mg base "_law_inner" ["_law_kt"] 1 (spChildren K)) (n : Nat) : Has P w K mg base "_law_put" ["_law_kt", "_law_types"] (n + 1) (spLPut K n) := by
  obtain ⟨f, fd, F, m, b⟩ := A
  refine ⟨f, fd, ?_, b, F.kp, m⟩
  induction n with
  | zero => exact put_none
  | succ n ih => exact put_step F b m B B2 D__law_inner ih
end
end Lq
namespace Lq
open PySem L2
section
variable {P : Program} {w : World} {K : PySem.W.Frag} {mg : Str → Option Value} {base : Heap} {C : Addr}
abbrev s__law_letter : Stmt := top 69
theorem sc__law_letter : FnScope ["_law_number", "_law_marked_in", "_law_tail"] ["_law_number", "_law_marked_in"] (defScope s__law_letter) := ⟨rfl, rfl, rfl, by decide +kernel, rfl, by decide +kernel, by decide +kernel⟩
theorem ok_letter (A : At K mg "_law_letter" s__law_letter ["_law_number", "_law_marked_in"]) (B : Bi mg) : Has P w K mg base "_law_letter" ["_law_number", "_law_marked_in"] 1 (spVarT K) := by
  refine .mk A fun f fd F => ?_
  refine F.ok sc__law_letter (fun vs H Q E h => ?_) (fun cdv A outer s H vs Q E hr h => ?_)
  · obtain ⟨n, a, ms, rfl, _⟩ := h
    rfl
  obtain ⟨n, a, ms, rfl, ha, hn, q⟩ := h
  refine ⟨_, (pss_cons (ps_set (i := 2) sc__law_letter.nd rfl (Or.inl rfl) (pe_ifExp (pt_cmpR op_lt (pv 0) pe_int (nomark _)) pe_str (pe_callTy call_str_int (by rfl) B.str (by decide +kernel) (pa_cons (pe_op op_fdivN (pv 0) pe_int) pa_nil))))
  (pss_one (ps_ret (pe_op op_add_str (pe_op op_add_str (pe_ifExp (pt_cmpR (inS K) (pv 0) (pv 1) rfl) pe_str pe_str) (pe_ix ix_str pe_str (pe_op op_modN (pv 0) pe_int) (fun _ _ => rfl))) (pv 2))))), ?_⟩
  refine ⟨_, rfl, _, _, rfl, rfl, _, rfl, ?_⟩
  have htl : (tailT n).length ≤ 2 := by
    unfold tailT
    split
    · exact digs_len (n / 26) (by omega)
    · show (0 : Nat) ≤ 2
      decide
  by_cases h26 : n < 26
  · rw [decide_eq_true (show (n : Int) < 26 by omega)]
    have et : tailT n = "" := by unfold tailT; rw [if_neg (by omega)]; rfl
    refine iteT ?_
    rw [← et]
    refine ⟨_, rfl, _, rfl, a, natV ms, rfl, .inr ha, rfl, flat_nat ms, _, rfl, ?_⟩
    rw [inV_nat]
    have hl : (letT n).length = 1 := rfl
    by_cases hm : n ∈ ms
    · rw [decide_eq_true hm]
      refine iteT ⟨_, rfl, _, _, rfl, rfl, (by show (26 : Int) ≠ 0; decide), _, _, 97 + n % 26, rfl, rfl, (by decide +kernel), (by rw [show (26 : Int) = ((26 : Nat) : Int) from rfl, fmod26]; exact atI_nat (j := n % 26) (low_at (n % 26) (by omega))), ?_⟩
      refine ⟨dq, letT n, rfl, rfl, (by decide +kernel : 2 + 1 ≤ sizeLine), _, rfl, dq ++ letT n, tailT n, rfl, rfl, ?_, ?_⟩
      · rw [strLen_append, hl, show dq.length = 2 by decide +kernel]
        exact line20 (by omega)
      · have e : varT ms n = dq ++ letT n ++ tailT n := by unfold varT; rw [if_pos hm]
        rw [← e]
        exact q
    · rw [decide_eq_false hm]
      refine iteF ⟨_, rfl, _, _, rfl, rfl, (by show (26 : Int) ≠ 0; decide), _, _, 97 + n % 26, rfl, rfl, (by decide +kernel), (by rw [show (26 : Int) = ((26 : Nat) : Int) from rfl, fmod26]; exact atI_nat (j := n % 26) (low_at (n % 26) (by omega))), ?_⟩
      refine ⟨sq1, letT n, rfl, rfl, (by decide +kernel : 1 + 1 ≤ sizeLine), _, rfl, sq1 ++ letT n, tailT n, rfl, rfl, ?_, ?_⟩
      · rw [strLen_append, hl, show sq1.length = 1 by decide +kernel]
        exact line20 (by omega)
      · have e : varT ms n = sq1 ++ letT n ++ tailT n := by unfold varT; rw [if_neg hm]
        rw [← e]
        exact q
  · rw [decide_eq_false (show ¬ (n : Int) < 26 by omega)]
    have et : ((toString ((n : Int).fdiv 26) : String) : Str) = tailT n := by
      unfold tailT
      rw [if_pos (by omega), show (26 : Int) = ((26 : Nat) : Int) from rfl, fdiv26]
    refine iteF ⟨_, rfl, _, _, rfl, rfl, ⟨by decide, by decide⟩, _, rfl, ?_, ?_⟩
    · rw [show (26 : Int) = ((26 : Nat) : Int) from rfl, fdiv26]
      exact Nat.lt_of_le_of_lt (Nat.log2_le_self _) (by omega)
    rw [et]
    refine ⟨_, rfl, _, rfl, a, natV ms, rfl, .inr ha, rfl, flat_nat ms, _, rfl, ?_⟩
    rw [inV_nat]
    have hl : (letT n).length = 1 := rfl
    by_cases hm : n ∈ ms
    · rw [decide_eq_true hm]
      refine iteT ⟨_, rfl, _, _, rfl, rfl, (by show (26 : Int) ≠ 0; decide), _, _, 97 + n % 26, rfl, rfl, (by decide +kernel), (by rw [show (26 : Int) = ((26 : Nat) : Int) from rfl, fmod26]; exact atI_nat (j := n % 26) (low_at (n % 26) (by omega))), ?_⟩
      refine ⟨dq, letT n, rfl, rfl, (by decide +kernel : 2 + 1 ≤ sizeLine), _, rfl, dq ++ letT n, tailT n, rfl, rfl, ?_, ?_⟩
      · rw [strLen_append, hl, show dq.length = 2 by decide +kernel]
        exact line20 (by omega)
      · have e : varT ms n = dq ++ letT n ++ tailT n := by unfold varT; rw [if_pos hm]
        rw [← e]
        exact q
    · rw [decide_eq_false hm]
      refine iteF ⟨_, rfl, _, _, rfl, rfl, (by show (26 : Int) ≠ 0; decide), _, _, 97 + n % 26, rfl, rfl, (by decide +kernel), (by rw [show (26 : Int) = ((26 : Nat) : Int) from rfl, fmod26]; exact atI_nat (j := n % 26) (low_at (n % 26) (by omega))), ?_⟩
      refine ⟨sq1, letT n, rfl, rfl, (by decide +kernel : 1 + 1 ≤ sizeLine), _, rfl, sq1 ++ letT n, tailT n, rfl, rfl, ?_, ?_⟩
      · rw [strLen_append, hl, show sq1.length = 1 by decide +kernel]
        exact line20 (by omega)
      · have e : varT ms n = sq1 ++ letT n ++ tailT n := by unfold varT; rw [if_neg hm]
        rw [← e]
        exact q
end
end Lq
namespace Lq
open PySem L2
theorem catI_len (nm : Nat → Str) (ms : List Nat) : ∀ its : List Itm, (∀ i ∈ its, (txI nm ms i).length ≤ 20 * wI i) → (catI nm ms its).length ≤ 20 * wIs its
  | [], _ => Nat.le_refl _
  | i :: r, h => by
    have h1 := h i List.mem_cons_self
    have h2 := catI_len nm ms r fun j hj => h j (List.mem_cons_of_mem _ hj)
    rw [catI_cons, strLen_append, wIs_cons]
    omega
theorem wI_le {i : Itm} : ∀ {its : List Itm}, i ∈ its → wI i ≤ wIs its
  | j :: r, h => by
    rw [wIs_cons]
    rcases List.mem_cons.mp h with rfl | h
    · exact Nat.le_add_right _ _
    · have := wI_le h
      omega
theorem loc_fn {ar : List Nat} {l : Lab} {n : Nat} (h : LocOk ar l n) (e : l = .fn) : n = 2 := by
  rw [e] at h
  exact h
theorem GTy.loc {ar : List Nat} {T : Ty} (h : GTy ar T) : LocOk ar T.lab T.kids.length := (h.1 T (by rw [pre_eq]; exact List.mem_cons_self)).1
theorem tx_len {ar : List Nat} {nm : Nat → Str} {ms : List Nat} (hz : ∀ s, (nm s).length ≤ 10) : ∀ (k : Nat) (T : Ty), T.sz ≤ k → GTy ar T → ∀ r, (T.tx nm ms r).length ≤ 20 * (6 * T.sz - 2)
  | 0, T, h, _, _ => by
    have := sz_pos T
    omega
  | k + 1, T, h, hG, r => by
    obtain ⟨l, ts⟩ := T
    rw [← catI_items nm ms l ts r fun e => loc_fn hG.loc e]
    have h1 := wIs_items nm ms l ts r
    refine Nat.le_trans (catI_len nm ms _ fun i hi => ?_) (Nat.mul_le_mul_left 20 (Nat.le_of_lt h1))
    have h2 := items_good (nm := nm) (ms := ms) (r := r) hG hz i hi
    have h3 := wI_le hi
    cases i with
    | txt s =>
      have h2 : s.length ≤ 20 := h2
      show s.length ≤ 20 * 1
      omega
    | ty U r' =>
      obtain ⟨hU, _⟩ := h2
      have h4 : 6 * U.sz - 2 < 6 * (Ty.node l ts).sz - 2 := Nat.lt_of_le_of_lt h3 h1
      exact tx_len hz k U (by omega) hU r'
theorem tx_len' {ar : List Nat} {nm : Nat → Str} {ms : List Nat} (hz : ∀ s, (nm s).length ≤ 10) {T : Ty} (h : GTy ar T) (r : Nat) : (T.tx nm ms r).length ≤ 36000 := by
  have := tx_len (ms := ms) hz T.sz T (Nat.le_refl _) h r
  have := h.2
  omega
theorem len36 {n : Nat} (h : n ≤ 100000) : n ≤ sizeLine := Nat.le_trans h (by decide)
/-- parentheses that closed puts -/
def parOf (T : Ty) : Bool := T.lab.isFn || (T.lab.isTup && !T.kids.isEmpty)
theorem tx_2 (nm : Nat → Str) (ms : List Nat) (T : Ty) (h : T.lab = .fn → T.kids.length = 2) : T.tx nm ms 2 = parT (parOf T) (T.tx nm ms 0) := by
  obtain ⟨l, ts⟩ := T
  rw [tx_eq, tx_eq]
  cases l with
  | var n => rfl
  | fn =>
    match ts, h rfl with
    | [x, y], _ =>
      show wrapT nm ms .fn (Ty.txs nm ms [x, y]) 2 = parT true (wrapT nm ms .fn (Ty.txs nm ms [x, y]) 0)
      rw [txs_cons, txs_cons, txs_nil]
      rfl
  | tup =>
    match ts with
    | [] =>
      show wrapT nm ms .tup (Ty.txs nm ms []) 2 = parT false (wrapT nm ms .tup (Ty.txs nm ms []) 0)
      rw [txs_nil]
      rfl
    | t :: r =>
      show wrapT nm ms .tup (Ty.txs nm ms (t :: r)) 2 = parT true (wrapT nm ms .tup (Ty.txs nm ms (t :: r)) 0)
      rw [txs_cons]
      rfl
  | made s => rfl
theorem tx_1 (nm : Nat → Str) (ms : List Nat) (T : Ty) (h : T.lab = .fn → T.kids.length = 2) : T.tx nm ms 1 = if T.lab.isFn = true then T.tx nm ms 2 else T.tx nm ms 0 := by
  obtain ⟨l, ts⟩ := T
  rw [tx_eq, tx_eq, tx_eq]
  cases l with
  | var n => rfl
  | fn =>
    match ts, h rfl with
    | [x, y], _ =>
      show wrapT nm ms .fn (Ty.txs nm ms [x, y]) 1 = wrapT nm ms .fn (Ty.txs nm ms [x, y]) 2
      rw [txs_cons, txs_cons, txs_nil]
      rfl
  | tup =>
    match ts with
    | [] =>
      show wrapT nm ms .tup (Ty.txs nm ms []) 1 = wrapT nm ms .tup (Ty.txs nm ms []) 0
      rw [txs_nil]
      rfl
    | t :: r =>
      show wrapT nm ms .tup (Ty.txs nm ms (t :: r)) 1 = wrapT nm ms .tup (Ty.txs nm ms (t :: r)) 0
      rw [txs_cons]
      rfl
  | made s => rfl
section
variable {P : Program} {w : World} {K : PySem.W.Frag} {mg : Str → Option Value} {base : Heap} {C : Addr}
abbrev s__law_closed : Stmt := top 70
theorem sc__law_closed : FnScope ["_law_table_here", "_law_kt", "_law_marked_in", "_law_text_here"] ["_law_table_here", "_law_kt", "_law_marked_in"] (defScope s__law_closed) := ⟨rfl, rfl, rfl, by decide +kernel, rfl, by decide +kernel, by decide +kernel⟩
abbrev s__law_text : Stmt := top 71
theorem sc__law_text : FnScope ["_law_table_here", "_law_kt", "_law_marked_in", "_law_ahead", "_law_one", "_law_name", "_law_types"] ["_law_table_here", "_law_kt", "_law_marked_in"] (defScope s__law_text) := ⟨rfl, rfl, rfl, by decide +kernel, rfl, by decide +kernel, by decide +kernel⟩
def spLTx (K : PySem.W.Frag) (r n : Nat) : Sp := fun vs H Q _ => ∃ (d a : Addr) (v : V) (rows : List Row) (T : Ty) (ms : List Nat), vs = [.ref d, v, .ref a] ∧ TabH K H d rows ∧ TyH K H T v ∧ GTy (arOf rows) T ∧ T.dep ≤ n ∧ SqT K H a (natV ms) ∧ (∀ row ∈ rows, row.z.length ≤ 10) ∧
  ∀ H', Same H H' → Q (.str (T.tx (nmR rows) ms r)) H'
theorem nm_short {rows : List Row} (hz : ∀ row ∈ rows, row.z.length ≤ 10) (st : Nat) : (nmR rows st).length ≤ 10 := by
  unfold nmR
  cases h : rows[st - 1]? with
  | none => exact Nat.zero_le _
  | some row => exact hz row (List.mem_of_getElem? h)
theorem closed_of {n : Nat} {f__law_text : Addr} {fd__law_text : FuncData} (A : At K mg "_law_closed" s__law_closed ["_law_table_here", "_law_kt", "_law_marked_in"]) (b__law_text : Binds K fd__law_text ["_law_table_here", "_law_kt", "_law_marked_in"] []) (k__law_text : PySem.W.keepIn K (.ref f__law_text) = true) (m__law_text : mg "_law_text" = some (.ref f__law_text))
    (G__law_text : FnOk P w K mg base CX0 (2 * n + 1) f__law_text fd__law_text ["_law_table_here", "_law_kt", "_law_marked_in"] (spLTx K 0 n)) : Has P w K mg base "_law_closed" ["_law_table_here", "_law_kt", "_law_marked_in"] (2 * n + 2) (spLTx K 2 n) := by
  refine .mk A fun f fd F => ?_
  refine F.ok sc__law_closed (fun vs H Q E h => ?_) (fun cdv A outer s H vs Q E hr h => ?_)
  · obtain ⟨d, a, v, rows, T, ms, rfl, _⟩ := h
    rfl
  obtain ⟨d, a, v, rows, T, ms, rfl, hTab, hT, hG, hdep, ha, hz, q⟩ := h
  refine ⟨_, (pss_cons (ps_set (i := 3) sc__law_closed.nd rfl (Or.inl rfl) (pe_call G__law_text (hr.mono (by omega)) rfl m__law_text k__law_text b__law_text .nil pass0 (pa_cons (pv 0) (pa_cons (pv 1) (pa_cons (pv 2) pa_nil)))))
  (pss_one (ps_ret (pe_ifExp (PW.pt (pw_or (pt_cmpR op_eq (pe_ix (ixT K) (pv 1) pe_int (fun _ _ => rfl)) pe_str (nomark _)) (pw_or1 (PW.pt (pw_and (pt_cmpR op_eq (pe_ix (ixT K) (pv 1) pe_int (fun _ _ => rfl)) pe_str (nomark _)) (pw_and1 (pt_cmpR (op_neNilT hr.units) (pe_ix (ixT K) (pv 1) pe_int (fun _ _ => rfl)) (pe_tup pa_nil) (nomark _)))))))) (pe_op op_add_str (pe_op op_add_str pe_str (pv 3)) pe_str) (pv 3))))), ?_⟩
  refine ⟨_, rfl, _, rfl, _, rfl, d, a, v, rows, T, ms, rfl, hTab, hT, hG, hdep, ha, hz, fun H2 g2 => ?_⟩
  have hT2 := hT.mono (tups_of g2)
  have hlen := tx_len' (ms := ms) (nm_short hz) hG 0
  have e2 := tx_2 (nmR rows) ms T fun e => loc_fn hG.loc e
  have hloc := hG.loc
  have q := q
  rw [e2] at q
  obtain ⟨p, xs, rfl, ⟨r, hS, hR⟩, hK⟩ := hT2.out
  have i0 : atI (V.str T.lab.word :: r) 0 = some (V.str T.lab.word) := atI_nat (j := 0) rfl
  refine ⟨_, rfl, p, _, _, _, rfl, rfl, hS, i0, rfl, _, rfl, ?_⟩
  rw [w_fn]
  have paren : ∀ H3, Same H H3 → parOf T = true → ∃ i j, V.str "(" = V.str i ∧ V.str (T.tx (nmR rows) ms 0) = V.str j ∧ i.length + j.length ≤ sizeLine ∧ ∃ i' j', V.str (i ++ j) = V.str i' ∧ V.str ")" = V.str j' ∧ i'.length + j'.length ≤ sizeLine ∧ Q (.str (i' ++ j')) H3 := fun H3 g3 hp => by
    refine ⟨_, _, rfl, rfl, ?_, _, _, rfl, rfl, ?_, ?_⟩
    · rw [show ("(" : Str).length = 1 by decide +kernel]
      exact len36 (by omega)
    · rw [strLen_append, show ("(" : Str).length = 1 by decide +kernel, show (")" : Str).length = 1 by decide +kernel]
      exact len36 (by omega)
    · have := q H3 g3
      rw [hp] at this
      exact this
  have bare : ∀ H3, Same H H3 → parOf T = false → Q (.str (T.tx (nmR rows) ms 0)) H3 := fun H3 g3 hp => by
    have := q H3 g3
    rw [hp] at this
    exact this
  generalize (T.tx (nmR rows) ms 0) = X at paren bare ⊢
  obtain ⟨l, ts⟩ := T
  cases l with
  | var n => 
    refine iteF ⟨_, rfl, p, _, _, _, rfl, rfl, hS, i0, rfl, _, rfl, ?_⟩
    rw [w_tup]
    exact iteF (iteF ⟨_, rfl, bare H2 g2 rfl⟩)
  | made n => 
    refine iteF ⟨_, rfl, p, _, _, _, rfl, rfl, hS, i0, rfl, _, rfl, ?_⟩
    rw [w_tup]
    exact iteF (iteF ⟨_, rfl, bare H2 g2 rfl⟩)
  | fn =>
    obtain ⟨i, j, h1, h2, h3, i', j', h4, h5, h6, h7⟩ := paren H2 g2 rfl
    exact iteT (iteT ⟨_, rfl, i, j, h1, h2, h3, i', j', h4, h5, h6, h7⟩)
  | tup =>
    obtain ⟨pb, rfl, hb⟩ := hR
    refine iteF ⟨_, rfl, p, _, _, _, rfl, rfl, hS, i0, rfl, _, rfl, ?_⟩
    rw [w_tup]
    refine iteT ⟨_, rfl, p, _, _, _, rfl, rfl, hS, atI_nat (j := 1) rfl, z0, fun e he => ?_⟩
    have w3 := same_upd he (.tup [])
    refine ⟨pb, e, xs, rfl, rfl, tups_of w3 _ _ hb, sq_new, _, rfl, ?_⟩
    cases xs with
    | nil =>
      have : ts = [] := List.eq_nil_of_length_eq_zero hK.len.symm
      subst this
      exact iteF ⟨_, rfl, bare _ (g2.trans w3) rfl⟩
    | cons x ys =>
      have : parOf (.node .tup ts) = true := by
        cases ts with
        | nil => exact absurd hK.nil_inv (fun z => nomatch z)
        | cons t r => rfl
      obtain ⟨i, j, h1, h2, h3, i', j', h4, h5, h6, h7⟩ := paren _ (g2.trans w3) this
      exact iteT ⟨_, rfl, i, j, h1, h2, h3, i', j', h4, h5, h6, h7⟩
end
end Lq
namespace Lq
open PySem L2
def joinJ (sep : Str) : List Str → Str
  | [] => Str.empty
  | b :: r => sep ++ b ++ joinJ sep r
theorem join_J (sep : Str) : ∀ (r : List Str) (a : Str), Str.join sep (a :: r) = a ++ joinJ sep r
  | [], a => (Str.append_empty a).symm
  | b :: r, a => by
    show a ++ sep ++ Str.join sep (b :: r) = a ++ (sep ++ b ++ joinJ sep r)
    rw [join_J sep r b, sapp_assoc, sapp_assoc]
theorem glue_J (sep : Str) : ∀ (ys : List Str) (acc : Array Nat), List.foldl (fun acc (p : Str) => acc ++ sep.cps ++ p.cps) acc ys = acc ++ (joinJ sep ys).cps
  | [], acc => (Array.append_empty).symm
  | s :: r, acc => by
    rw [List.foldl_cons, glue_J sep r]
    show acc ++ sep.cps ++ s.cps ++ (joinJ sep r).cps = acc ++ (sep.cps ++ s.cps ++ (joinJ sep r).cps)
    rw [Array.append_assoc, Array.append_assoc, Array.append_assoc]
theorem txt_join (sep : Str) (ys : List Str) : Txt.join sep ys = Str.join sep ys := by
  match ys with
  | [] => exact str_ext rfl
  | s :: r =>
    rw [join_J]
    exact str_ext (glue_J sep r s.cps)
theorem sum_le (k : Nat) : ∀ l : List Str, (∀ z ∈ l, z.length ≤ k) → (l.map (·.length)).sum ≤ k * l.length
  | [], _ => Nat.zero_le _
  | z :: r, h => by
    have h1 := sum_le k r fun x hx => h x (List.mem_cons_of_mem _ hx)
    have h2 := h z List.mem_cons_self
    rw [List.map_cons, List.sum_cons, List.length_cons, Nat.mul_succ]
    omega
section
variable {P : Program} {w : World} {K : PySem.W.Frag} {mg : Str → Option Value} {base : Heap} {C : Addr}
theorem text_none {f : Addr} {fd : FuncData} : FnOk P w K mg base CX0 1 f fd ["_law_table_here", "_law_kt", "_law_marked_in"] (spLTx K 0 0) := by
  have no : ∀ vs H Q E, ¬ spLTx K 0 0 vs H Q E := fun vs H Q E h => by
    obtain ⟨d, a, v, rows, T, ms, _, _, _, _, h1, _⟩ := h
    have := dep_pos T
    omega
  exact ⟨fun vs H Q E h => absurd h (no vs H Q E), fun A outer s H args us vs Q E _ _ _ _ h => absurd h (no vs H Q E)⟩
theorem text_step {n : Nat} {f__law_text : Addr} {fd__law_text : FuncData} (F : Fun K "_law_text" "_law_text" s__law_text f__law_text fd__law_text) (b__law_text : Binds K fd__law_text ["_law_table_here", "_law_kt", "_law_marked_in"] []) (m__law_text : mg "_law_text" = some (.ref f__law_text)) (B : Bi mg)
    (A_closed : At K mg "_law_closed" s__law_closed ["_law_table_here", "_law_kt", "_law_marked_in"]) (D__law_letter : Has P w K mg base "_law_letter" ["_law_number", "_law_marked_in"] 1 (spVarT K)) (G__law_text : FnOk P w K mg base CX0 (2 * n + 1) f__law_text fd__law_text ["_law_table_here", "_law_kt", "_law_marked_in"] (spLTx K 0 n)) : FnOk P w K mg base CX0 (2 * (n + 1) + 1) f__law_text fd__law_text ["_law_table_here", "_law_kt", "_law_marked_in"] (spLTx K 0 (n + 1)) := by
  have k__law_text := F.kp
  have D__law_closed := closed_of A_closed b__law_text k__law_text m__law_text G__law_text
  refine F.ok sc__law_text (fun vs H Q E h => ?_) (fun cdv A outer s H vs Q E hr h => ?_)
  · obtain ⟨d, a, v, rows, T, ms, rfl, _⟩ := h
    rfl
  obtain ⟨d, a, v, rows, T, ms, rfl, hTab, hT, hG, hdep, ha, hz, q⟩ := h
  obtain ⟨f__law_closed, fd__law_closed, G__law_closed, b__law_closed, k__law_closed, m__law_closed⟩ := D__law_closed
  obtain ⟨f__law_letter, fd__law_letter, G__law_letter, b__law_letter, k__law_letter, m__law_letter⟩ := D__law_letter
  refine ⟨_, (pss_cons (ps_if (pt_cmpR op_eq (pe_ix (ixT K) (pv 1) pe_int (fun _ _ => rfl)) pe_str (nomark _)) (pss_one (ps_ret (pe_call G__law_letter (hr.mono (by omega)) rfl m__law_letter k__law_letter b__law_letter .nil pass0 (pa_cons (pe_ix (ixT K) (pv 1) pe_int (fun _ _ => rfl)) (pa_cons (pv 2) pa_nil))))) pss_nil)
  (pss_cons (ps_if (pt_cmpR op_eq (pe_ix (ixT K) (pv 1) pe_int (fun _ _ => rfl)) pe_str (nomark _)) (pss_cons (ps_set (i := 3) sc__law_text.nd rfl (Or.inl rfl) (pe_ifExp (pt_cmpR op_eq (pe_ix (ixT K) (pe_ix (ixT K) (pv 1) pe_int (fun _ _ => rfl)) pe_int (fun _ _ => rfl)) pe_str (nomark _)) (pe_call G__law_closed (hr.mono (by omega)) rfl m__law_closed k__law_closed b__law_closed .nil pass0 (pa_cons (pv 0) (pa_cons (pe_ix (ixT K) (pv 1) pe_int (fun _ _ => rfl)) (pa_cons (pv 2) pa_nil)))) (pe_call G__law_text (hr.mono (by omega)) rfl m__law_text k__law_text b__law_text .nil pass0 (pa_cons (pv 0) (pa_cons (pe_ix (ixT K) (pv 1) pe_int (fun _ _ => rfl)) (pa_cons (pv 2) pa_nil))))))
  (pss_one (ps_ret (pe_op op_add_str (pe_op op_add_str (pv 3) pe_str) (pe_call G__law_text (hr.mono (by omega)) rfl m__law_text k__law_text b__law_text .nil pass0 (pa_cons (pv 0) (pa_cons (pe_ix (ixT K) (pv 1) pe_int (fun _ _ => rfl)) (pa_cons (pv 2) pa_nil)))))))) pss_nil)
  (pss_cons (ps_if (pt_cmpR op_eq (pe_ix (ixT K) (pv 1) pe_int (fun _ _ => rfl)) pe_str (nomark _)) (pss_one (ps_ret (pe_ifExp (pt_cmpR (op_neNilT hr.units) (pe_ix (ixT K) (pv 1) pe_int (fun _ _ => rfl)) (pe_tup pa_nil) (nomark _)) (pe_join pe_str (pe_lc (own := [("_law_one", 4)]) (g := gName 4) (tt := tYes) (by rfl) sc__law_text.nd (pi_tup (pe_ix (ixT K) (pv 1) pe_int (fun _ _ => rfl))) (blkOk_by (N := ["_law_table_here", "_law_kt", "_law_marked_in", "_law_ahead", "_law_one", "_law_name", "_law_types"]) (sc := defScope s__law_text) (by decide +kernel)) (fun _ _ _ _ _ => (pg_name (i := 4) sc__law_text.nd rfl (Or.inl rfl))) (fun _ _ _ _ _ => pts_nil) (fun _ _ _ _ _ => (pe_call G__law_closed (hr.mono (by omega)) rfl m__law_closed k__law_closed b__law_closed .nil pass0 (pa_cons (pv 0) (pa_cons (pv 4) (pa_cons (pv 2) pa_nil))))))) pe_str))) pss_nil)
  (pss_cons (ps_par (i := 5) (j := 6) rfl sc__law_text.nd rfl rfl (by decide) rfl rfl (pa_cons (pe_ix (ixT K) (pe_dget (hu_of hr) (pv 0) (pe_ix (ixT K) (pv 1) pe_int (fun _ _ => rfl)) (fun _ _ => rfl)) pe_int (fun _ _ => rfl)) (pa_cons (pe_ix (ixT K) (pv 1) pe_int (fun _ _ => rfl)) pa_nil)) rfl)
  (pss_cons (ps_if (pt_cmpR (op_eqNilT hr.units) (pv 6) (pe_tup pa_nil) (nomark _)) (pss_one (ps_ret (pv 5))) pss_nil)
  (pss_cons (ps_if (pt_cmpR op_eq (pe_callB (lenS K) (by rfl) B.len (by decide +kernel) (pa_cons (pv 6) pa_nil)) pe_int (nomark _)) (pss_one (ps_ret (pe_op op_add_str (pe_op op_add_str (pe_call G__law_closed (hr.mono (by omega)) rfl m__law_closed k__law_closed b__law_closed .nil pass0 (pa_cons (pv 0) (pa_cons (pe_ix (ixT K) (pv 6) pe_int (fun _ _ => rfl)) (pa_cons (pv 2) pa_nil)))) pe_str) (pv 5)))) pss_nil)
  (pss_one (ps_ret (pe_op op_add_str (pe_op op_add_str (pe_op op_add_str pe_str (pe_join pe_str (pe_lc (own := [("_law_one", 4)]) (g := gName 4) (tt := tYes) (by rfl) sc__law_text.nd (pi_tup (pv 6)) (blkOk_by (N := ["_law_table_here", "_law_kt", "_law_marked_in", "_law_ahead", "_law_one", "_law_name", "_law_types"]) (sc := defScope s__law_text) (by decide +kernel)) (fun _ _ _ _ _ => (pg_name (i := 4) sc__law_text.nd rfl (Or.inl rfl))) (fun _ _ _ _ _ => pts_nil) (fun _ _ _ _ _ => (pe_call G__law_text (hr.mono (by omega)) rfl m__law_text k__law_text b__law_text .nil pass0 (pa_cons (pv 0) (pa_cons (pv 4) (pa_cons (pv 2) pa_nil)))))))) pe_str) (pv 5)))))))))), ?_⟩
  have hloc := hG.loc
  have hG' := hG
  obtain ⟨p, xs, rfl, ⟨r, hS, hR⟩, hK⟩ := hT.out
  have i0 : atI (V.str T.lab.word :: r) 0 = some (V.str T.lab.word) := atI_nat (j := 0) rfl
  have hkid : ∀ t ∈ T.kids, GTy (arOf rows) t ∧ t.dep ≤ n := fun t ht => by
    have := kid_dep ht
    refine ⟨?_, by omega⟩
    obtain ⟨l, ts⟩ := T
    exact hG'.kid t ht
  have hnum : ∀ m, T.lab.num = some m → m < 1000 := (hG.1 T (by rw [pre_eq]; exact List.mem_cons_self)).2
  have hnm := nm_short hz
  refine ⟨_, rfl, p, _, _, _, rfl, rfl, hS, i0, rfl, _, rfl, ?_⟩
  rw [w_var]
  obtain ⟨l, ts⟩ := T
  rw [tx_eq] at q
  have q : ∀ H', Same H H' → Q (.str (wrapT (nmR rows) ms l (Ty.txs (nmR rows) ms ts) 0)) H' := q
  have hkl := kids_len (.node l ts)
  have hkl3 : ts.length ≤ 300 := by
    have h5 : ts.length < (Ty.node l ts).sz := hkl
    have := hG.2
    omega
  have hK : TysH K H ts xs := hK
  have hL := tx_len' (ms := ms) hnm hG 0
  rw [tx_eq] at hL
  have hL : (wrapT (nmR rows) ms l (Ty.txs (nmR rows) ms ts) 0).length ≤ 36000 := hL
  have hkid : ∀ t ∈ ts, GTy (arOf rows) t ∧ t.dep ≤ n := hkid
  have hsum : ∀ (sep : Str) (rr : Nat), sep.length ≤ 3 → ((ts.map fun t => t.tx (nmR rows) ms rr).map (·.length)).sum + (ts.map fun t => t.tx (nmR rows) ms rr).length * sep.length ≤ 16777216 := fun sep rr h3 => by
    have h1 := sum_le 36000 (ts.map fun t => t.tx (nmR rows) ms rr) fun z hz' => by
      obtain ⟨t, ht, rfl⟩ := List.mem_map.mp hz'
      exact tx_len' hnm (hkid t ht).1 rr
    rw [List.length_map] at h1 ⊢
    have h2 : ts.length ≤ 300 := by
      have h5 : ts.length < (Ty.node l ts).sz := hkl
      have := hG.2
      omega
    have h4 : ts.length * sep.length ≤ 300 * 3 := Nat.mul_le_mul h2 h3
    omega
  cases l with
  | var m =>
    obtain ⟨_, rfl⟩ := hR
    exact iteT ⟨_, rfl, p, _, _, _, rfl, rfl, hS, atI_nat (j := 1) rfl, _, rfl, m, a, ms, rfl, ha, hnum m rfl, q H (Same.refl _)⟩
  | fn =>
    obtain ⟨rfl, h2⟩ := hR
    match ts, xs, hK, h2, q, hL, hkid, hS, i0 with
    | [x, y], [vx, vy], hK, _, q, hL, hkid, hS, i0 =>
      obtain ⟨_, _, e, hx, hy⟩ := hK.cons_inv
      injection e with e1 e2
      subst e1 e2
      obtain ⟨_, _, e, hy, _⟩ := hy.cons_inv
      injection e with e1 e2
      subst e1
      refine iteF ⟨_, rfl, p, _, _, _, rfl, rfl, hS, i0, rfl, _, rfl, iteT ?_⟩
      obtain ⟨hGx, hdx⟩ := hkid x List.mem_cons_self
      obtain ⟨hGy, hdy⟩ := hkid y (List.mem_cons_of_mem _ (List.mem_singleton_self _))
      have eW : wrapT (nmR rows) ms .fn (Ty.txs (nmR rows) ms [x, y]) 0 = x.tx (nmR rows) ms 1 ++ " -> " ++ y.tx (nmR rows) ms 0 := by
        rw [txs_cons, txs_cons, txs_nil]
        rfl
      rw [eW, strLen_append, strLen_append] at hL
      rw [eW] at q
      obtain ⟨px, xsx, rfl, ⟨rx, hSx, hRx⟩, hKx⟩ := hx.out
      have ix : atI (V.str x.lab.word :: rx) 0 = some (V.str x.lab.word) := atI_nat (j := 0) rfl
      refine ⟨_, rfl, p, _, _, _, rfl, rfl, hS, atI_nat (j := 1) rfl, px, _, _, _, rfl, rfl, hSx, ix, rfl, _, rfl, ?_⟩
      rw [w_fn]
      have e1 := tx_1 (nmR rows) ms x fun e => loc_fn hGx.loc e
      cases hf : x.lab.isFn with
      | true =>
        rw [hf, if_pos rfl] at e1
        refine iteT ⟨_, rfl, _, rfl, p, _, _, _, rfl, rfl, hS, atI_nat (j := 1) rfl, _, rfl, d, a, _, rows, x, ms, rfl, hTab, hx, hGx, hdx, ha, hz, fun H2 g2 => ?_⟩
        rw [← e1]
        refine ⟨_, rfl, _, _, rfl, rfl, len36 (by omega), _, rfl, _, rfl, p, _, _, _, rfl, rfl, tups_of g2 _ _ hS, atI_nat (j := 2) rfl, _, rfl, d, a, _, rows, y, ms, rfl, hTab.mono g2, hy.mono (tups_of g2), hGy, hdy, tups_of g2 _ _ ha, hz, fun H3 g3 => ?_⟩
        exact ⟨_, _, rfl, rfl, by rw [strLen_append]; exact len36 (by omega), q H3 (g2.trans g3)⟩
      | false =>
        rw [hf, if_neg Bool.false_ne_true] at e1
        refine iteF ⟨_, rfl, _, rfl, p, _, _, _, rfl, rfl, hS, atI_nat (j := 1) rfl, _, rfl, d, a, _, rows, x, ms, rfl, hTab, hx, hGx, hdx, ha, hz, fun H2 g2 => ?_⟩
        rw [← e1]
        refine ⟨_, rfl, _, _, rfl, rfl, len36 (by omega), _, rfl, _, rfl, p, _, _, _, rfl, rfl, tups_of g2 _ _ hS, atI_nat (j := 2) rfl, _, rfl, d, a, _, rows, y, ms, rfl, hTab.mono g2, hy.mono (tups_of g2), hGy, hdy, tups_of g2 _ _ ha, hz, fun H3 g3 => ?_⟩
        exact ⟨_, _, rfl, rfl, by rw [strLen_append]; exact len36 (by omega), q H3 (g2.trans g3)⟩
    | [x, y], [], _, h2, _, _, _, _, _ => exact absurd h2 (by decide)
    | [x, y], [_], _, h2, _, _, _, _, _ => exact absurd h2 (by show ¬ (1 : Nat) = 2; decide)
    | [x, y], _ :: _ :: _ :: _, _, h2, _, _, _, _, _ => exact absurd h2 (by rw [List.length_cons, List.length_cons, List.length_cons]; omega)
    | [], xs, hK, h2, _, _, _, _, _ => exact absurd (hK.len.symm.trans h2 : (0 : Nat) = 2) (by decide)
    | [_], xs, hK, h2, _, _, _, _, _ => exact absurd (hK.len.symm.trans h2) (by show ¬ (1 : Nat) = 2; decide)
    | _ :: _ :: _ :: l3, xs, hK, h2, _, _, _, _, _ => exact absurd (hK.len.symm.trans h2) (by show ¬ (l3.length + 1 + 1 + 1 = 2); omega)
  | tup =>
    obtain ⟨pb, rfl, hb⟩ := hR
    refine iteF ⟨_, rfl, p, _, _, _, rfl, rfl, hS, i0, rfl, _, rfl, iteF ⟨_, rfl, p, _, _, _, rfl, rfl, hS, i0, rfl, _, rfl, iteT ?_⟩⟩
    refine ⟨_, rfl, p, _, _, _, rfl, rfl, hS, atI_nat (j := 1) rfl, z0, fun e he => ?_⟩
    have w2 := same_upd he (.tup [])
    refine ⟨pb, e, xs, rfl, rfl, tups_of w2 _ _ hb, sq_new, _, rfl, ?_⟩
    match ts, xs, hK, q, hL, hkid, hkl3, hsum with
    | [], xs, hK, q, hL, hkid, hkl3, hsum =>
      have ex := hK.nil_inv
      subst ex
      rw [txs_nil] at q
      exact iteF (q _ w2)
    | t1 :: r1, [], hK, q, hL, hkid, hkl3, hsum =>
      obtain ⟨_, _, z, _⟩ := hK.cons_inv
      cases z
    | t1 :: r1, x1 :: y1, hK, q, hL, hkid, hkl3, hsum =>
      have hK : TysH K H (t1 :: r1) (x1 :: y1) := hK
      have eW : wrapT (nmR rows) ms .tup (Ty.txs (nmR rows) ms (t1 :: r1)) 0 = Str.join " * " ((t1 :: r1).map fun t => t.tx (nmR rows) ms 2) := by
        have h := txs_c (nmR rows) ms (t1 :: r1)
        rw [txs_cons] at h ⊢
        rw [← h]
        rfl
      rw [eW] at q
      have hb2 := tups_of w2 _ _ hb
      refine iteT ⟨⟨_, rfl⟩, _, rfl, p, _, _, _, rfl, rfl, tups_of w2 _ _ hS, atI_nat (j := 1) rfl, pb, rfl, ⟨_, hb2⟩, fun Dl hDl => ?_⟩
      refine lc_tup (K := K) (a := pb) (xs := x1 :: y1) (fun i H5 => Same _ H5 ∧ H5 Dl = some (.lst ((((t1 :: r1).take i).map fun t => t.tx (nmR rows) ms 2).map V.str))) ⟨same_upd hDl _, upd_same⟩ (fun i H5 _ z => tups_of z.1 _ _ hb2) ?_ ?_
      · rintro i x H5 hx ⟨g5, h5⟩
        obtain ⟨t, hti, ht⟩ := hK.get hx
        have hil := lt_of_get hti
        obtain ⟨hGt, hdt⟩ := hkid t (List.mem_of_getElem? hti)
        have g25 := w2.trans g5
        refine ⟨rfl, _, rfl, _, rfl, _, rfl, d, a, _, rows, t, ms, rfl, hTab.mono g25, ht.mono (tups_of g25), hGt, hdt, tups_of g25 _ _ ha, hz, fun H6 g6 => ?_⟩
        refine ⟨_, g6 _ _ h5, ?_, same_set (g5.trans g6) hDl _, ?_⟩
        · rw [List.length_map, List.length_map, List.length_take]
          exact small1000 (by omega)
        · rw [upd_same, take_snoc hti, List.map_append, List.map_append]
          rfl
      · rintro H5 ⟨g5, h5⟩
        rw [hK.len, List.take_length] at h5
        refine ⟨" * ", Dl, _, rfl, rfl, .inl (SqL.of h5), hsum " * " 2 (by decide +kernel), ?_⟩
        rw [txt_join]
        exact q _ (w2.trans g5)
  | made st =>
    obtain ⟨pb, rfl, hb⟩ := hR
    refine iteF ⟨_, rfl, p, _, _, _, rfl, rfl, hS, i0, rfl, _, rfl, iteF ⟨_, rfl, p, _, _, _, rfl, rfl, hS, i0, rfl, _, rfl, iteF ?_⟩⟩
    obtain ⟨hs0, hs1, har⟩ := hloc
    have hrow : ∃ row, rows[st - 1]? = some row := by
      unfold arOf at har
      rw [List.getElem?_map] at har
      cases h : rows[st - 1]? with
      | none => rw [h] at har; cases har
      | some row => exact ⟨row, rfl⟩
    obtain ⟨row, hrow⟩ := hrow
    have enm : nmR rows st = row.z := by unfold nmR; rw [hrow]
    obtain ⟨v', hDG, pr, z, av, rfl, hpr, _, rfl⟩ := hTab.get hs0 hrow
    have hzl := hz row (List.mem_of_getElem? hrow)
    refine ⟨_, rfl, _, rfl, p, _, _, _, rfl, rfl, hS, atI_nat (j := 1) rfl, d, _, rfl, hDG, pr, _, _, _, rfl, rfl, hpr, atI_nat (j := 0) rfl, _, rfl, p, _, _, _, rfl, rfl, hS, atI_nat (j := 2) rfl, _, _, rfl, ?_⟩
    refine ⟨_, rfl, z0, fun e he => ?_⟩
    have w2 := same_upd he (.tup [])
    refine ⟨pb, e, xs, rfl, rfl, tups_of w2 _ _ hb, sq_new, _, rfl, ?_⟩
    have hb2 := tups_of w2 _ _ hb
    match ts, xs, hK, q, hL, hkid, hkl3, hsum with
    | [], xs, hK, q, hL, hkid, hkl3, hsum =>
      have ex := hK.nil_inv
      subst ex
      rw [txs_nil] at q
      have q : ∀ H', Same H H' → Q (.str (nmR rows st)) H' := q
      rw [enm] at q
      exact iteT ⟨_, rfl, q _ w2⟩
    | t1 :: r1, [], hK, q, hL, hkid, hkl3, hsum =>
      obtain ⟨_, _, z, _⟩ := hK.cons_inv
      cases z
    | [t1], x1 :: y1, hK, q, hL, hkid, hkl3, hsum =>
      obtain ⟨_, _, e, hx, hn⟩ := hK.cons_inv
      injection e with e1 e2
      subst e1 e2
      have ey := hn.nil_inv
      subst ey
      have eW : wrapT (nmR rows) ms (.made st) (Ty.txs (nmR rows) ms [t1]) 0 = t1.tx (nmR rows) ms 2 ++ " " ++ row.z := by
        rw [txs_cons, txs_nil, ← enm]
        rfl
      rw [eW] at q hL
      rw [strLen_append, strLen_append] at hL
      obtain ⟨hGx, hdx⟩ := hkid t1 List.mem_cons_self
      refine iteF ⟨_, rfl, pb, _, rfl, .inr hb2, rfl, _, rfl, ?_⟩
      rw [dec_int']
      refine iteT ⟨_, rfl, _, rfl, pb, _, _, _, rfl, rfl, hb2, atI_nat (j := 0) rfl, _, rfl, d, a, _, rows, t1, ms, rfl, hTab.mono w2, hx.mono (tups_of w2), hGx, hdx, tups_of w2 _ _ ha, hz, fun H3 g3 => ?_⟩
      exact ⟨_, _, rfl, rfl, len36 (by omega), _, rfl, _, _, rfl, rfl, by rw [strLen_append]; exact len36 (by omega), q H3 (w2.trans g3)⟩
    | t1 :: t2 :: r2, x1 :: y1, hK, q, hL, hkid, hkl3, hsum =>
      have hK : TysH K H (t1 :: t2 :: r2) (x1 :: y1) := hK
      obtain ⟨r1, er1⟩ : ∃ r1, r1 = t2 :: r2 := ⟨_, rfl⟩
      have eW : wrapT (nmR rows) ms (.made st) (Ty.txs (nmR rows) ms (t1 :: t2 :: r2)) 0 = "(" ++ Str.join ", " ((t1 :: t2 :: r2).map fun t => t.tx (nmR rows) ms 0) ++ ") " ++ row.z := by
        have h := txs_a (nmR rows) ms (t1 :: t2 :: r2)
        rw [txs_cons, txs_cons] at h ⊢
        rw [← h, ← enm]
        rfl
      rw [eW] at q hL
      rw [strLen_append, strLen_append, strLen_append] at hL
      have hxl : y1.length + 1 = r2.length + 1 + 1 := hK.len
      refine iteF ⟨_, rfl, pb, _, rfl, .inr hb2, rfl, _, rfl, ?_⟩
      rw [dec_int', decide_eq_false (show ¬ (((x1 :: y1).length : Nat) : Int) = 1 by rw [List.length_cons]; omega)]
      refine iteF ⟨⟨_, rfl⟩, _, rfl, pb, rfl, ⟨_, hb2⟩, fun Dl hDl => ?_⟩
      rw [← er1] at hK q hkid hL hkl3 hsum
      refine lc_tup (K := K) (a := pb) (xs := x1 :: y1) (fun i H5 => Same _ H5 ∧ H5 Dl = some (.lst ((((t1 :: r1).take i).map fun t => t.tx (nmR rows) ms 0).map V.str))) ⟨same_upd hDl _, upd_same⟩ (fun i H5 _ z => tups_of z.1 _ _ hb2) ?_ ?_
      · rintro i x H5 hx ⟨g5, h5⟩
        obtain ⟨t, hti, ht⟩ := hK.get hx
        have hil := lt_of_get hti
        obtain ⟨hGt, hdt⟩ := hkid t (List.mem_of_getElem? hti)
        have g25 := w2.trans g5
        refine ⟨rfl, _, rfl, _, rfl, _, rfl, d, a, _, rows, t, ms, rfl, hTab.mono g25, ht.mono (tups_of g25), hGt, hdt, tups_of g25 _ _ ha, hz, fun H6 g6 => ?_⟩
        refine ⟨_, g6 _ _ h5, ?_, same_set (g5.trans g6) hDl _, ?_⟩
        · rw [List.length_map, List.length_map, List.length_take]
          exact small1000 (by omega)
        · rw [upd_same, take_snoc hti, List.map_append, List.map_append]
          rfl
      · rintro H5 ⟨g5, h5⟩
        rw [hK.len, List.take_length] at h5
        refine ⟨", ", Dl, _, rfl, rfl, .inl (SqL.of h5), hsum ", " 0 (by decide +kernel), ?_⟩
        rw [txt_join]
        refine ⟨_, _, rfl, rfl, len36 (by omega), _, _, rfl, rfl, by rw [strLen_append]; exact len36 (by omega), _, rfl, _, _, rfl, rfl, by rw [strLen_append, strLen_append]; exact len36 (by omega), ?_⟩
        exact q _ (w2.trans g5)
theorem ok_ltext (A : At K mg "_law_text" s__law_text ["_law_table_here", "_law_kt", "_law_marked_in"]) (B : Bi mg) (A_closed : At K mg "_law_closed" s__law_closed ["_law_table_here", "_law_kt", "_law_marked_in"]) (D__law_letter : Has P w K mg base "_law_letter" ["_law_number", "_law_marked_in"] 1 (spVarT K)) (n : Nat) : Has P w K mg base "_law_text" ["_law_table_here", "_law_kt", "_law_marked_in"] (2 * n + 1) (spLTx K 0 n) := by
  obtain ⟨f, fd, F, m, b⟩ := A
  refine ⟨f, fd, ?_, b, F.kp, m⟩
  induction n with
  | zero => exact text_none
  | succ n ih => exact text_step F b m B A_closed D__law_letter ih
end
end Lq
namespace Lq
open PySem L2
theorem lc_enumL {K : PySem.W.Frag} {a : Addr} {xs : List V} {g : TG} {tt : TT} {te : TE} {vs : List Nat} {σ : St} {H1 : Hp} {D : Addr} {Qd : Hp → Prop} (Pv : Nat → Hp → Prop) (h0 : Pv 0 (upd H1 D (.lst [])))
    (hl : ∀ i H, Pv i H → SqL K H a xs)
    (hs : ∀ (i : Nat) (x : V) (T : Addr) (H : Hp), xs[i]? = some x → Pv i H → H T = none → g (.ref T) (wipe σ vs) (upd H T (.tup [.int (i : Nat), x])) fun σ2 H2 => wipe σ2 vs = wipe σ vs ∧ tt σ2 H2 fun b H3 =>
      if b = true then te σ2 H3 fun y H4 => ∃ acc, H4 D = some (.lst acc) ∧ acc.length < sizeLine ∧ Pv (i + 1) (upd H4 D (.lst (acc ++ [y]))) else Pv (i + 1) H3)
    (hd : ∀ H, Pv xs.length H → Qd H) :
    ∃ W : Nat → Nat → Hp → Prop, (∃ m, W 0 m (upd H1 D (.lst []))) ∧ ∀ i m H, W i m H →
      (((Ite K a).stop i H ∧ Qd H) ∨ ((Ite K a).go i H ∧ ∃ Nx : Hp → Prop, (∀ H', Nx H' → ∃ m', m' < m ∧ W (i + 1) m' H') ∧ ∀ x H', (Ite K a).yld i H x H' → g x (wipe σ vs) H' fun σ2 H2 => wipe σ2 vs = wipe σ vs ∧ tt σ2 H2 fun b H3 =>
        if b = true then te σ2 H3 fun y H4 => ∃ acc, H4 D = some (.lst acc) ∧ acc.length < sizeLine ∧ Nx (upd H4 D (.lst (acc ++ [y]))) else Nx H3)) := by
  refine ⟨fun i m H => m = xs.length - i ∧ i ≤ xs.length ∧ Pv i H, ⟨xs.length, rfl, Nat.zero_le _, h0⟩, ?_⟩
  rintro i m H ⟨rfl, hi, p⟩
  have sq := hl i H p
  rcases Nat.lt_or_ge i xs.length with lt | ge
  · refine .inr ⟨⟨xs, xs[i], sq, List.getElem?_eq_getElem lt⟩, Pv (i + 1), fun H' p' => ⟨xs.length - (i + 1), by omega, rfl, lt, p'⟩, ?_⟩
    rintro x H' ⟨T, y, rfl, hT, rfl, e⟩
    exact hs i y T H (e xs sq) p hT
  · obtain rfl : i = xs.length := by omega
    exact .inl ⟨⟨xs, sq, Nat.le_refl _⟩, hd H p⟩
theorem paired_mono {α β : Type} {F G : α → β → Prop} (m : ∀ a b, F a b → G a b) : ∀ {l : List α} {r : List β}, PySem.Paired F l r → PySem.Paired G l r
  | _, _, .nil => .nil
  | _, _, .cons h t => .cons (m _ _ h) (paired_mono m t)
theorem paired_snoc {α β : Type} {F : α → β → Prop} {a : α} {b : β} (h : F a b) : ∀ {l : List α} {r : List β}, PySem.Paired F l r → PySem.Paired F (l ++ [a]) (r ++ [b])
  | _, _, .nil => .cons h .nil
  | _, _, .cons h1 t => .cons h1 (paired_snoc h t)
theorem merge_at : ∀ (kvs base : List (Key × V)) (k : Key) (x : V), (kvs.map (·.1)).Nodup → (k, x) ∈ kvs → valV (mergeK base kvs) k = some x
  | [], _, _, _, _, h => nomatch h
  | (j, y) :: r, base, k, x, hd, h => by
    have hd2 := List.nodup_cons.mp (by rw [List.map_cons] at hd; exact hd)
    show valV (mergeK (putK base j y) r) k = some x
    rcases List.mem_cons.mp h with e | h
    · injection e with e1 e2
      subst e1 e2
      have keep : ∀ (r : List (Key × V)) (b : List (Key × V)), k ∉ r.map (·.1) → valV b k = some x → valV (mergeK b r) k = some x := by
        intro r
        induction r with
        | nil => exact fun b _ h => h
        | cons z r ih =>
          intro b hn h
          rw [List.map_cons] at hn
          refine ih (putK b z.1 z.2) (fun q => hn (List.mem_cons_of_mem _ q)) ?_
          rw [valV_put, if_neg (fun e => hn (by rw [e]; exact List.mem_cons_self))]
          exact h
      refine keep r _ hd2.1 ?_
      rw [valV_put, if_pos rfl]
    · exact merge_at r _ k x hd2.2 h
section
variable {P : Program} {w : World} {K : PySem.W.Frag} {mg : Str → Option Value} {base : Heap} {C : Addr}
abbrev s__law_numbered : Stmt := top 68
theorem sc__law_numbered : FnScope ["_law_types", "_law_order", "_law_kt", "_law_number", "_law_names", "_law_at"] ["_law_types"] (defScope s__law_numbered) := ⟨rfl, rfl, rfl, by decide +kernel, rfl, by decide +kernel, by decide +kernel⟩
def spLNum (K : PySem.W.Frag) : Sp := fun vs H Q _ => ∃ (a : Addr) (v : V) (T : Ty), vs = [.ref a] ∧ SqT K H a [v] ∧ TyH K H T v ∧ T.dep ≤ 4 ∧ T.sz ≤ 40 ∧ T.Leafy ∧ ∀ (H' : Hp) (p : Addr) (x : V), Same H H' → SqT K H' p [x] → TyH K H' T.ren x → Q (.ref p) H'
theorem ok_lnum (A : At K mg "_law_numbered" s__law_numbered ["_law_types"]) (B : Bi mg) (B2 : Bi2 mg) (D__law_vars : Has P w K mg base "_law_vars" ["_law_kt"] 41 (spLVars K 40)) (D__law_put : Has P w K mg base "_law_put" ["_law_kt", "_law_types"] 5 (spLPut K 4)) : Has P w K mg base "_law_numbered" ["_law_types"] 42 (spLNum K) := by
  refine .mk A fun f fd F => ?_
  refine F.ok sc__law_numbered (fun vs H Q E h => ?_) (fun cdv A outer s H vs Q E hr h => ?_)
  · obtain ⟨a, v, T, rfl, _⟩ := h
    rfl
  obtain ⟨a, v, T, rfl, ha, hT, hdep, hsz, hlf, q⟩ := h
  obtain ⟨f__law_vars, fd__law_vars, G__law_vars, b__law_vars, k__law_vars, m__law_vars⟩ := D__law_vars
  obtain ⟨f__law_put, fd__law_put, G__law_put, b__law_put, k__law_put, m__law_put⟩ := D__law_put
  refine ⟨_, (pss_cons (ps_set (i := 1) sc__law_numbered.nd rfl (Or.inr rfl) (pe_lst pa_nil))
  (pss_cons (ps_for PassesOwn.never rfl (pi_tup (pv 0)) (pg_name (i := 2) sc__law_numbered.nd rfl (Or.inl rfl)) (pss_one (ps_set (i := 1) sc__law_numbered.nd rfl (Or.inr rfl) (pe_op op_cat (pv 1) (pe_lc (own := [("_law_number", 3)]) (g := gName 3) (tt := _) (by rfl) sc__law_numbered.nd (pi_list (pe_call G__law_vars (hr.mono (by decide)) rfl m__law_vars k__law_vars b__law_vars .nil pass0 (pa_cons (pv 2) pa_nil))) (blkOk_by (N := ["_law_types", "_law_order", "_law_kt", "_law_number", "_law_names", "_law_at"]) (sc := defScope s__law_numbered) (by decide +kernel)) (fun _ _ _ _ _ => (pg_name (i := 3) sc__law_numbered.nd rfl (Or.inl rfl))) (fun _ _ _ _ _ => (pts_one (pt_cmpR (notInS K) (pv 3) (pv 1) rfl))) (fun _ _ _ _ _ => (pv 3)))))))
  (pss_cons (ps_set (i := 4) sc__law_numbered.nd rfl (Or.inr rfl) (pe_callTy (call_dictP rfl) (by rfl) B2.dict (by decide +kernel) (pa_cons (pe_lc (own := [("_law_at", 5), ("_law_number", 3)]) (g := gTup _ 2 (gCons (gName 5) (gCons (gName 3) gNil))) (tt := tYes) (by rfl) sc__law_numbered.nd (pi_enum (by rfl) B.enumerate (pa_cons (pv 1) pa_nil)) (blkOk_by (N := ["_law_types", "_law_order", "_law_kt", "_law_number", "_law_names", "_law_at"]) (sc := defScope s__law_numbered) (by decide +kernel)) (fun _ _ _ _ _ => (pg_tup rfl (pgs_cons (pg_name (i := 5) sc__law_numbered.nd rfl (Or.inl rfl)) (pgs_cons (pg_name (i := 3) sc__law_numbered.nd rfl (Or.inl rfl)) pgs_nil)))) (fun _ _ _ _ _ => pts_nil) (fun _ _ _ _ _ => (pe_tup (pa_cons (pv 3) (pa_cons (pe_tup (pa_cons pe_str (pa_cons (pv 5) pa_nil))) pa_nil))))) pa_nil)))
  (pss_one (ps_ret (pe_callTy call_tuple_of (by rfl) B.tuple (by decide +kernel) (pa_cons (pe_lc (own := [("_law_kt", 2)]) (g := gName 2) (tt := tYes) (by rfl) sc__law_numbered.nd (pi_tup (pv 0)) (blkOk_by (N := ["_law_types", "_law_order", "_law_kt", "_law_number", "_law_names", "_law_at"]) (sc := defScope s__law_numbered) (by decide +kernel)) (fun _ _ _ _ _ => (pg_name (i := 2) sc__law_numbered.nd rfl (Or.inl rfl))) (fun _ _ _ _ _ => pts_nil) (fun _ _ _ _ _ => (pe_call G__law_put (hr.mono (by decide)) rfl m__law_put k__law_put b__law_put .nil pass0 (pa_cons (pv 2) (pa_cons (pv 4) pa_nil))))) pa_nil))))))), ?_⟩
  refine ⟨z0, fun f0 hf0 => ?_⟩
  have w0 := same_upd hf0 (.lst (natV []))
  refine ⟨_, rfl, a, rfl, ⟨_, tups_of w0 _ _ ha⟩, for_tup (K := K) (a := a) (xs := [v]) (fun i σ H3 => ∃ s2 s3 f, σ = [some (.ref a), some (.ref f), s2, s3, none, none] ∧ Same H H3 ∧ H3 f = some (.lst (natV (if i = 0 then [] else T.ord))))
    ⟨_, _, f0, rfl, w0, upd_same⟩ (fun i σ H3 _ z => ?_) ?_ ?_⟩
  · obtain ⟨_, _, _, _, g3, _⟩ := z
    exact tups_of g3 _ _ ha
  · rintro i x σ H3 hx ⟨s2, s3, f, rfl, g3, hf⟩
    have hi0 : i = 0 := by
      have := lt_of_get hx
      rw [List.length_singleton] at this
      omega
    subst hi0
    cases hx
    rw [if_pos rfl] at hf
    refine ⟨_, rfl, _, rfl, T, v, rfl, hT.mono (tups_of g3), hsz, by omega, hlf, fun H4 p g4 hp => ⟨p, rfl, ⟨_, SqL.of hp⟩, fun D hD => ?_⟩⟩
    have hf4 := g4 _ _ hf
    have hol := ord_len T
    refine lc_list (K := K) (a := p) (xs := natV T.ord) (fun j H5 => Same H4 H5 ∧ H5 D = some (.lst (natV (T.ord.take j)))) ⟨same_upd hD _, upd_same⟩ (fun j H5 _ z => SqL.of (z.1 _ _ hp)) ?_ ?_
    · rintro j x H5 hx5 ⟨g5, h5⟩
      obtain ⟨n', hn', rfl⟩ := natV_at hx5
      refine ⟨rfl, _, rfl, _, rfl, f, natV [], rfl, .inl (SqL.of (g5 _ _ hf4)), rfl, rfl, _, rfl, ?_⟩
      refine iteT ⟨_, rfl, _, h5, ?_, same_set g5 hD _, ?_⟩
      · rw [natV_len, List.length_take]
        exact small1000 (by omega)
      · rw [upd_same, take_snoc hn', natV_app]
        rfl
    · rintro H5 ⟨g5, h5⟩
      rw [natV_len, List.take_length] at h5
      refine ⟨f, D, _, _, rfl, rfl, g5 _ _ hf4, h5, ?_, fun p2 hp2 => ?_⟩
      · rw [natV_len, natV_len]
        exact small300 (by rw [List.length_nil]; omega)
      · refine ⟨_, _, p2, rfl, g3.trans (g4.trans (g5.trans (same_upd hp2 _))), ?_⟩
        rw [upd_same]
        rfl
  · rintro σ H3 ⟨s2, s3, f, rfl, g3, hf⟩
    have hf : H3 f = some (.lst (natV T.ord)) := hf
    have hol := ord_len T
    have hnd := ord_nodup hlf
    refine ⟨_, rfl, f, _, rfl, SqL.of hf, fun D hD => ?_⟩
    refine lc_enumL (K := K) (a := f) (xs := natV T.ord) (fun i H4 => Same H3 H4 ∧ ∃ (ps : List Addr) (kvs : List (Key × V)), H4 D = some (.lst (ps.map V.ref)) ∧ PySem.Paired (fun p kv => SqT K H4 p [kV kv.1, kv.2]) ps kvs ∧ ps.length ≤ i ∧
      kvs.map (·.1) = (T.ord.take i).map (fun (n : Nat) => (Sum.inl (n : Int) : Key)) ∧ ∀ j n : Nat, j < i → T.ord[j]? = some n → ∃ x, (Sum.inl (n : Int), x) ∈ kvs ∧ TyH K H4 (tv j) x)
      ⟨same_upd hD _, [], [], upd_same, .nil, Nat.le_refl _, rfl, fun j n h => absurd h (Nat.not_lt_zero j)⟩ (fun i H4 z => SqL.of (z.1 _ _ hf)) ?_ ?_
    · rintro i x Tp H4 hx ⟨g4, ps, kvs, h4, hP, hpl, hkk, hkv⟩ hTp
      obtain ⟨n, hn, rfl⟩ := natV_at hx
      have hil := lt_of_get hn
      have w1 := same_upd hTp (.tup [.int (i : Nat), .int (n : Int)])
      refine ⟨Tp, _, rfl, sq_new, rfl, _, _, rfl, _, _, rfl, rfl, rfl, _, rfl, _, rfl, z2, fun pi hpi => ⟨z2, fun po hpo => ?_⟩⟩
      have w2 := same_upd hpi (.tup [.str "var", .int (i : Nat)])
      have w3 := same_upd hpo (.tup [.int (n : Int), .ref pi])
      have w13 := w1.trans (w2.trans w3)
      have h5 := w13 _ _ h4
      have t5 := tups_set (K := K) h5 (.lst (ps.map V.ref ++ [.ref po]))
      refine ⟨_, h5, ?_, same_set (g4.trans w13) hD _, ps ++ [po], kvs ++ [(Sum.inl (n : Int), .ref pi)], ?_, ?_, ?_, ?_, ?_⟩
      · rw [List.length_map]
        exact small1000 (by omega)
      · rw [upd_same, List.map_append]
        rfl
      · exact paired_snoc (F := fun (p : Addr) (kv : Key × V) => SqT K _ p [kV kv.1, kv.2]) (t5 _ _ sq_new) (paired_mono (F := fun (p : Addr) (kv : Key × V) => SqT K H4 p [kV kv.1, kv.2]) (fun p kv h => t5 _ _ (tups_of w13 _ _ h)) hP)
      · rw [List.length_append, List.length_singleton]
        omega
      · rw [take_snoc hn, List.map_append, List.map_append, hkk]
        rfl
      · intro j m hj hm
        by_cases e : j = i
        · subst e
          rw [hn] at hm
          cases hm
          exact ⟨_, List.mem_append_right _ (List.mem_singleton_self _), TyH.var (t5 _ _ (tups_of w3 _ _ sq_new))⟩
        · obtain ⟨x, h1, h2⟩ := hkv j m (by omega) hm
          exact ⟨x, List.mem_append_left _ h1, (h2.mono (tups_of w13)).mono t5⟩
    · rintro H4 ⟨g4, ps, kvs, h4, hP, hpl, hkk, hkv⟩
      rw [natV_len] at hkk hkv
      rw [List.take_length] at hkk
      have hkd : (kvs.map (·.1)).Nodup := by
        rw [hkk]
        refine List.pairwise_map.mpr (hnd.imp fun {a b} h z => ?_)
        injection z with z
        exact h (by omega)
      refine ⟨D, ps, kvs, rfl, SqL.of h4, hP, fun dd hdd => ?_⟩
      have w5 := same_upd hdd (.dK (mergeK [] kvs))
      have g35 := g3.trans (g4.trans w5)
      have ha5 := tups_of g35 _ _ ha
      have hA : PutA K (upd H4 dd (.dK (mergeK [] kvs))) dd (fun n => tv (idx T.ord n)) T.vars := .inr ⟨_, upd_same, fun n hn => by
        have hm := (ord_mem hlf n).mpr hn
        obtain ⟨x, h1, h2⟩ := hkv (idx T.ord n) n (idx_lt hm) (idx_get hm)
        exact ⟨x, merge_at _ _ _ _ hkd h1, h2.mono (tups_of w5)⟩⟩
      refine ⟨_, rfl, a, rfl, ⟨_, ha5⟩, fun E2 hE2 => ?_⟩
      refine lc_tup (K := K) (a := a) (xs := [v]) (fun i H6 => Same _ H6 ∧ ∃ acc, H6 E2 = some (.lst acc) ∧ (i = 0 → acc = []) ∧ (i = 1 → ∃ x, acc = [x] ∧ TyH K H6 T.ren x)) ⟨same_upd hE2 _, [], upd_same, fun _ => rfl, fun z => nomatch z⟩ (fun i H6 _ z => tups_of z.1 _ _ ha5) ?_ ?_
      · rintro i x H6 hx ⟨g6, acc, h6, hz0, _⟩
        have hi0 : i = 0 := by
          have := lt_of_get hx
          rw [List.length_singleton] at this
          omega
        subst hi0
        cases hx
        have e0 := hz0 rfl
        subst e0
        refine ⟨rfl, _, rfl, _, rfl, T, v, dd, _, rfl, hT.mono (tups_of (g35.trans g6)), hdep, by omega, hlf, hA.mono g6 (fun n h => h), fun H7 y g7 hy => ?_⟩
        have h7 := g7 _ _ h6
        have t8 := tups_set (K := K) h7 (.lst ([] ++ [y]))
        exact ⟨[], h7, by decide, same_set (g6.trans g7) hE2 _, _, upd_same, fun z => (nomatch z), fun _ => ⟨y, rfl, hy.mono t8⟩⟩
      · rintro H6 ⟨g6, acc, h6, _, h1⟩
        obtain ⟨x, rfl, hx⟩ := h1 rfl
        refine ⟨E2, _, rfl, .inl ⟨SqL.of h6, fun po hpo => ?_⟩⟩
        have w7 := same_upd hpo (.tup [x])
        exact q _ po x (g35.trans (g6.trans w7)) sq_new (hx.mono (tups_of w7))
end
end Lq
namespace Lq
open PySem L2
mutual
def Ty.pd : Ty → PyData
  | .node l ts => match l with
    | .var n => .tuple [.str "var", .int (n : Int)]
    | .fn => .tuple (.str "fn" :: Ty.pds ts)
    | .tup => .tuple [.str "tuple", .tuple (Ty.pds ts)]
    | .made s => .tuple [.str "made", .int (s : Int), .tuple (Ty.pds ts)]
def Ty.pds : List Ty → List PyData
  | [] => []
  | t :: r => Ty.pd t :: Ty.pds r
end
mutual
theorem pd_dp {K : PySem.W.Frag} {H : Hp} : ∀ (T : Ty) (v : V), TyH K H T v → Dp K H v T.pd
  | .node l ts, v, h => by
    obtain ⟨a, xs, rfl, ⟨r, hS, hR⟩, hK⟩ := h.out
    have hK : TysH K H ts xs := hK
    cases l with
    | var n =>
      obtain ⟨_, rfl⟩ := hR
      rw [Ty.pd]
      exact .tup hS (.cons (.str _) (.cons (.int _) .nil))
    | fn =>
      obtain ⟨rfl, _⟩ := hR
      rw [Ty.pd]
      exact .tup hS (.cons (.str _) (pds_dp ts xs hK))
    | tup =>
      obtain ⟨b, rfl, hb⟩ := hR
      rw [Ty.pd]
      exact .tup hS (.cons (.str _) (.cons (.tup hb (pds_dp ts xs hK)) .nil))
    | made s =>
      obtain ⟨b, rfl, hb⟩ := hR
      rw [Ty.pd]
      exact .tup hS (.cons (.str _) (.cons (.int _) (.cons (.tup hb (pds_dp ts xs hK)) .nil)))
theorem pds_dp {K : PySem.W.Frag} {H : Hp} : ∀ (ts : List Ty) (xs : List V), TysH K H ts xs → DpAll K H xs (Ty.pds ts)
  | [], xs, h => by
    rw [h.nil_inv, Ty.pds]
    exact .nil
  | t :: r, xs, h => by
    obtain ⟨x, ys, rfl, h1, h2⟩ := h.cons_inv
    rw [Ty.pds]
    exact .cons (pd_dp t x h1) (pds_dp r ys h2)
end
theorem so_var : PyData.strOk (Str.ofString "var") = true := by decide +kernel
theorem so_fn : PyData.strOk (Str.ofString "fn") = true := by decide +kernel
theorem so_tup : PyData.strOk (Str.ofString "tuple") = true := by decide +kernel
theorem so_made : PyData.strOk (Str.ofString "made") = true := by decide +kernel
mutual
theorem pd_lay : ∀ (T : Ty), T.pd.canLay0 = true ∧ T.pd.depth ≤ 2 * T.dep
  | .node l ts => by
    obtain ⟨h1, h2⟩ := pds_lay ts
    rw [Ty.dep]
    cases l with
    | var n => exact ⟨by simp [Ty.pd, PyData.canLay0, PyData.canLayAll0, so_var], by simp [Ty.pd, PyData.depth, PyData.depthAll] <;> omega⟩
    | fn => exact ⟨by simp [Ty.pd, PyData.canLay0, PyData.canLayAll0, h1, so_fn, so_tup, so_made], by simp [Ty.pd, PyData.depth, PyData.depthAll] <;> omega⟩
    | tup => exact ⟨by simp [Ty.pd, PyData.canLay0, PyData.canLayAll0, h1, so_fn, so_tup, so_made], by simp [Ty.pd, PyData.depth, PyData.depthAll] <;> omega⟩
    | made s => exact ⟨by simp [Ty.pd, PyData.canLay0, PyData.canLayAll0, h1, so_fn, so_tup, so_made], by simp [Ty.pd, PyData.depth, PyData.depthAll] <;> omega⟩
theorem pds_lay : ∀ (ts : List Ty), PyData.canLayAll0 (Ty.pds ts) = true ∧ PyData.depthAll (Ty.pds ts) ≤ 2 * Ty.deps ts
  | [] => ⟨by simp [Ty.pds, PyData.canLayAll0, so_var], by simp [Ty.pds, PyData.depthAll]⟩
  | t :: r => by
    obtain ⟨h1, h2⟩ := pd_lay t
    obtain ⟨h3, h4⟩ := pds_lay r
    rw [Ty.pds, Ty.deps]
    exact ⟨by simp [PyData.canLayAll0, h1, h3], by simp [PyData.depthAll] <;> omega⟩
end
theorem pd_shaped {T : Ty} (h : T.dep ≤ 32) : SeqAt.shaped T.pd = true := by
  obtain ⟨h1, h2⟩ := pd_lay T
  show (T.pd.canLay0 && decide (T.pd.depth ≤ 64)) = true
  rw [h1, decide_eq_true (show T.pd.depth ≤ 64 by omega)]
  rfl
theorem word_inj : ∀ (l m : Lab), (l.word == m.word) = true → (match l, m with | .var _, .var _ => True | .fn, .fn => True | .tup, .tup => True | .made _, .made _ => True | _, _ => False) := by
  intro l m h
  cases l <;> cases m <;> first | trivial | (exfalso; revert h; show ¬ ((_ : Str) == _) = true; decide +kernel)
theorem eqv_str (a b : Str) : PyData.eqv (.str a) (.str b) = (a == b) := by rw [PyData.eqv]
theorem eqv_int (a b : Int) : PyData.eqv (.int a) (.int b) = (a == b) := by rw [PyData.eqv]
theorem eqv_tup (a b : List PyData) : PyData.eqv (.tuple a) (.tuple b) = PyData.eqvAll a b := by rw [PyData.eqv]
theorem eqvAll_cons (a b : PyData) (r q : List PyData) : PyData.eqvAll (a :: r) (b :: q) = (a.eqv b && PyData.eqvAll r q) := by rw [PyData.eqvAll]
theorem eqvAll_nil : PyData.eqvAll [] [] = true := by rw [PyData.eqvAll]
theorem eqvAll_cn (a : PyData) (r : List PyData) : PyData.eqvAll (a :: r) [] = false := by rw [PyData.eqvAll]; all_goals (intros; simp_all)
theorem eqvAll_nc (a : PyData) (r : List PyData) : PyData.eqvAll [] (a :: r) = false := by rw [PyData.eqvAll]; all_goals (intros; simp_all)
def restP (l : Lab) (ts : List Ty) : List PyData := match l with
  | .var n => [.int (n : Int)]
  | .fn => Ty.pds ts
  | .tup => [.tuple (Ty.pds ts)]
  | .made s => [.int (s : Int), .tuple (Ty.pds ts)]
theorem pd_eq (l : Lab) (ts : List Ty) : (Ty.node l ts).pd = .tuple (.str l.word :: restP l ts) := by
  cases l <;> rw [Ty.pd] <;> rfl
theorem beq_nat (a b : Nat) : (((a : Int) == (b : Int)) = true) ↔ a = b := by
  rw [beq_iff_eq]
  omega
mutual
theorem pd_eqv : ∀ (T U : Ty), T.Leafy → U.Leafy → (T.pd.eqv U.pd = true ↔ T = U)
  | .node l ts, .node m us, h1, h2 => by
    have ih := pds_eqv ts us (fun t ht => h1.kid (T := .node l ts) ht) (fun t ht => h2.kid (T := .node m us) ht)
    rw [pd_eq, pd_eq, eqv_tup, eqvAll_cons, eqv_str, Bool.and_eq_true]
    have kv : ∀ (n : Nat) (ts : List Ty), (Ty.node (.var n) ts).Leafy → ts = [] := fun n ts h => h (.node (.var n) ts) (by rw [pre_eq]; exact List.mem_cons_self) (fun z => nomatch z)
    constructor
    · rintro ⟨hw, hr⟩
      have hw := word_inj l m hw
      cases l with
      | var n =>
        cases m with
        | var k =>
          have e1 := kv n ts h1
          have e2 := kv k us h2
          subst e1 e2
          have hr : PyData.eqvAll [.int (n : Int)] [.int (k : Int)] = true := hr
          rw [eqvAll_cons, eqv_int, eqvAll_nil, Bool.and_true, beq_nat] at hr
          rw [hr]
        | _ => exact hw.elim
      | fn =>
        cases m with
        | fn =>
          have hr : PyData.eqvAll (Ty.pds ts) (Ty.pds us) = true := hr
          rw [ih.mp hr]
        | _ => exact hw.elim
      | tup =>
        cases m with
        | tup =>
          have hr : PyData.eqvAll [.tuple (Ty.pds ts)] [.tuple (Ty.pds us)] = true := hr
          rw [eqvAll_cons, eqv_tup, eqvAll_nil, Bool.and_true] at hr
          rw [ih.mp hr]
        | _ => exact hw.elim
      | made s =>
        cases m with
        | made k =>
          have hr : PyData.eqvAll [.int (s : Int), .tuple (Ty.pds ts)] [.int (k : Int), .tuple (Ty.pds us)] = true := hr
          rw [eqvAll_cons, eqvAll_cons, eqv_int, eqv_tup, eqvAll_nil, Bool.and_true, Bool.and_eq_true, beq_nat] at hr
          rw [ih.mp hr.2, hr.1]
        | _ => exact hw.elim
    · intro e
      injection e with e1 e2
      subst e1 e2
      have hp := ih.mpr rfl
      refine ⟨beq_self_eq_true _, ?_⟩
      cases l with
      | var n =>
        show PyData.eqvAll [.int (n : Int)] [.int (n : Int)] = true
        rw [eqvAll_cons, eqv_int, eqvAll_nil, Bool.and_true]
        exact beq_self_eq_true _
      | fn => exact hp
      | tup =>
        show PyData.eqvAll [.tuple (Ty.pds ts)] [.tuple (Ty.pds ts)] = true
        rw [eqvAll_cons, eqv_tup, eqvAll_nil, Bool.and_true]
        exact hp
      | made s =>
        show PyData.eqvAll [.int (s : Int), .tuple (Ty.pds ts)] [.int (s : Int), .tuple (Ty.pds ts)] = true
        rw [eqvAll_cons, eqvAll_cons, eqv_int, eqv_tup, eqvAll_nil, Bool.and_true, hp, Bool.and_true]
        exact beq_self_eq_true _
theorem pds_eqv : ∀ (ts us : List Ty), (∀ t ∈ ts, t.Leafy) → (∀ t ∈ us, t.Leafy) → (PyData.eqvAll (Ty.pds ts) (Ty.pds us) = true ↔ ts = us)
  | [], [], _, _ => by
    rw [Ty.pds, eqvAll_nil]
    exact ⟨fun _ => rfl, fun _ => rfl⟩
  | [], u :: q, _, _ => by
    rw [Ty.pds, Ty.pds, eqvAll_nc]
    exact ⟨fun z => (nomatch z), fun z => (nomatch z)⟩
  | t :: r, [], _, _ => by
    rw [Ty.pds, Ty.pds, eqvAll_cn]
    exact ⟨fun z => (nomatch z), fun z => (nomatch z)⟩
  | t :: r, u :: q, h1, h2 => by
    have i1 := pd_eqv t u (h1 t List.mem_cons_self) (h2 u List.mem_cons_self)
    have i2 := pds_eqv r q (fun x hx => h1 x (List.mem_cons_of_mem _ hx)) (fun x hx => h2 x (List.mem_cons_of_mem _ hx))
    rw [Ty.pds, Ty.pds, eqvAll_cons, Bool.and_eq_true, i1, i2, List.cons.injEq]
end
theorem pd_dec {T U : Ty} (h1 : T.Leafy) (h2 : U.Leafy) (d : Decidable (T = U)) : T.pd.eqv U.pd = @decide (T = U) d := by
  have := pd_eqv T U h1 h2
  rw [Bool.eq_iff_iff, this, decide_eq_true_iff]
end Lq
namespace Lq
open PySem L2
/-! ### the drawn rows -/
structure KwOk (kw : List V) : Prop where
  pair : inV (.str "pair") kw = false
  box : inV (.str "box") kw = false
  far : inV (.str "far") kw = false
theorem low_pair {kw : List V} (h : inV (.str "pair") kw = false) : LowOk kw "pair" := ⟨by decide +kernel, by decide +kernel, by decide +kernel, h⟩
theorem low_box {kw : List V} (h : inV (.str "box") kw = false) : LowOk kw "box" := ⟨by decide +kernel, by decide +kernel, by decide +kernel, h⟩
theorem low_far {kw : List V} (h : inV (.str "far") kw = false) : LowOk kw "far" := ⟨by decide +kernel, by decide +kernel, by decide +kernel, h⟩
theorem drawn_facts {kw : List V} (k : KwOk kw) {nrs : List NRow} (h : Drawn nrs) : nrs.length = 3 ∧ arOf (firstRows ++ nrs.map NRow.row) = ar9 ∧ (firstRows ++ nrs.map NRow.row).map Row.z = names9 ∧
    ∀ r ∈ nrs, OutOk kw r ∧ ConOk ar9 r := by
  obtain ⟨a2, a1, a0, con, rfl, h2, h1, h0, hc⟩ := h.ex
  refine ⟨rfl, rfl, rfl, ?_⟩
  · intro r hr
    simp only [List.mem_cons, List.not_mem_nil, or_false] at hr
    rcases hr with rfl | rfl | rfl
    · refine ⟨⟨low_pair k.pair, by show 2 ≤ 4; decide, fun l hl => ?_⟩, fun T hT => nomatch hT⟩
      have hl : a2 = some l := hl
      subst hl
      simp only [aks2, List.mem_cons, List.not_mem_nil, or_false, Option.some.injEq, reduceCtorEq, false_or] at h2
      rcases h2 with rfl | rfl | rfl | rfl | rfl <;> exact ⟨by decide, by show ∀ p ∈ _, p < 2; decide⟩
    · refine ⟨⟨low_box k.box, by show 1 ≤ 4; decide, fun l hl => ?_⟩, fun T hT => ?_⟩
      · have hl : a1 = some l := hl
        subst hl
        simp only [aks1, List.mem_cons, List.not_mem_nil, or_false, Option.some.injEq, reduceCtorEq, false_or] at h1
        rcases h1 with rfl | rfl | rfl <;> exact ⟨by decide, by show ∀ p ∈ _, p < 1; decide⟩
      · have hT : con = some (some T) := hT
        have := hc _ hT
        simp only [cars, List.mem_cons, List.not_mem_nil, or_false, Option.some.injEq, reduceCtorEq, false_or] at this
        have v0 : TyB 1 1 (tv 0) := .leaf (show 0 = 0 ∧ ((0 : Nat) : Int) < 10 ^ 60 from ⟨rfl, by decide⟩) (fun n e => by cases e; decide) (Nat.le_refl _)
        have fin : ∀ {T : Ty} {b : Nat}, TyB 1 b T → b ≤ 300 → T.Ok ar9 ∧ T.sz ≤ 300 ∧ ∀ i, i ∈ T.vars → i < 1 := fun h hb => ⟨h.ok, Nat.le_trans h.sz hb, h.vr⟩
        rcases this with rfl | rfl | rfl
        · exact fin v0 (by decide)
        · exact fin (b := 4) (TyB.node (b := 1) ⟨by decide, by decide, rfl⟩ rfl (fun t ht => by rw [List.mem_singleton.mp ht]; exact v0) (by decide)) (by decide)
        · exact fin (b := 4) (TyB.node (b := 1) rfl rfl (fun t ht => by
            rcases List.mem_cons.mp ht with rfl | ht
            · exact v0
            · rw [List.mem_singleton.mp ht]
              exact v0) (by decide)) (by decide)
    · refine ⟨⟨low_far k.far, by show 0 ≤ 4; decide, fun l hl => ?_⟩, fun T hT => nomatch hT⟩
      have hl : a0 = some l := hl
      subst hl
      simp only [aks0, List.mem_cons, List.not_mem_nil, or_false, Option.some.injEq, reduceCtorEq, false_or] at h0
      rcases h0 with rfl
      exact ⟨by decide, by show ∀ p ∈ _, p < 0; decide⟩
theorem nm_of {rows : List Row} (h : rows.map Row.z = names9) : nmR rows = nm9 := by
  funext s
  unfold nmR nm9
  rw [← h, List.getD_eq_getElem?_getD, List.getElem?_map]
  cases rows[s - 1]? <;> rfl
theorem z_short {rows : List Row} (h : rows.map Row.z = names9) : ∀ row ∈ rows, row.z.length ≤ 10 := fun row hr => by
  have hm : row.z ∈ names9 := by
    rw [← h]
    exact List.mem_map_of_mem hr
  have : ∀ z ∈ names9, z.length ≤ 10 := by decide +kernel
  exact this _ hm
theorem stamp9 {s n : Nat} (h : 0 < s) (e : ar9[s - 1]? = some n) : s ∈ S9 := by
  have hl := lt_of_get e
  have hl : s - 1 < 9 := hl
  have : s = 1 ∨ s = 2 ∨ s = 3 ∨ s = 4 ∨ s = 5 ∨ s = 6 ∨ s = 7 ∨ s = 8 ∨ s = 9 := by omega
  rcases this with rfl | rfl | rfl | rfl | rfl | rfl | rfl | rfl | rfl <;> decide
mutual
theorem gd_of : ∀ (T : Ty), GTy ar9 T → T.Gd S9
  | .node l ts, h => by
    have hl := h.loc
    have hv : ∀ n, l.num = some n → n < 1000 := (h.1 (.node l ts) (by rw [pre_eq]; exact List.mem_cons_self)).2
    have hk := gds_of ts fun t ht => h.kid t ht
    unfold Ty.Gd
    refine ⟨?_, hk⟩
    cases l with
    | var n => exact ⟨hl.1, hv n rfl⟩
    | fn => exact hl
    | tup => exact hl
    | made s => exact stamp9 hl.1 hl.2.2
theorem gds_of : ∀ (ts : List Ty), (∀ t ∈ ts, GTy ar9 t) → Ty.Gds S9 ts
  | [], _ => by unfold Ty.Gds; trivial
  | t :: r, h => by
    unfold Ty.Gds
    exact ⟨gd_of t (h t List.mem_cons_self), gds_of r fun u hu => h u (List.mem_cons_of_mem _ hu)⟩
end
mutual
theorem dep_put (f : Nat → Nat) : ∀ (T : Ty), T.Leafy → (T.sub fun n => tv (f n)).dep = T.dep
  | .node l ts, h => by
    cases e : l.num with
    | some n =>
      have hk : ts = [] := h (.node l ts) (by rw [pre_eq]; exact List.mem_cons_self) (by show l.num ≠ none; rw [e]; exact fun z => nomatch z)
      subst hk
      rw [sub_var _ (T := .node l []) e, Ty.dep, Ty.dep]
    | none =>
      rw [sub_node _ (T := .node l ts) e]
      show (Ty.node l (Ty.subs _ ts)).dep = _
      rw [Ty.dep, Ty.dep, deps_put f ts fun t ht => h.kid (T := .node l ts) ht]
theorem deps_put (f : Nat → Nat) : ∀ (ts : List Ty), (∀ t ∈ ts, t.Leafy) → Ty.deps (Ty.subs (fun n => tv (f n)) ts) = Ty.deps ts
  | [], _ => by rw [subs_nil]
  | t :: r, h => by rw [subs_cons, Ty.deps, Ty.deps, dep_put f t (h t List.mem_cons_self), deps_put f r fun u hu => h u (List.mem_cons_of_mem _ hu)]
end
theorem dep_4 {n : Nat} (h : 3 ^ n ≤ 81) : n ≤ 4 := by
  rcases Nat.lt_or_ge n 5 with h1 | h1
  · omega
  · have : 3 ^ 5 ≤ 3 ^ n := Nat.pow_le_pow_right (by decide) h1
    exact absurd (Nat.le_trans this h) (by decide)
/-- a drawn type whose variables are far numbers -/
def farT (far : Nat) (T : Ty) : Ty := T.sub fun n => tv (n + far)
theorem far_good {far : Nat} {T : Ty} (hf : far ≤ 700) (h : TyB 3 40 T) : GTy ar9 (farT far T) ∧ (farT far T).dep ≤ 4 ∧ (farT far T).sz ≤ 40 := by
  have hl := h.ok.leafy
  refine ⟨GTy.of (ok_put _ T h.ok fun n hn => lt60 ?_) ?_ fun n hn => ?_, ?_, ?_⟩
  · have := h.vr n hn
    omega
  · have e : (farT far T).sz = T.sz := sz_put _ T hl
    have := h.sz
    omega
  · have e : (farT far T).vars = T.vars.map fun n => n + far := vars_put _ T hl
    rw [e] at hn
    obtain ⟨m, hm, rfl⟩ := List.mem_map.mp hn
    have := h.vr m hm
    omega
  · have e : (farT far T).dep = T.dep := dep_put _ T hl
    rw [e]
    exact dep_4 h.dp
  · have e : (farT far T).sz = T.sz := sz_put _ T hl
    have := h.sz
    omega
theorem near_good {b : Nat} {T : Ty} (hb : b ≤ 40) (h : TyB 3 b T) : GTy ar9 T ∧ T.dep ≤ 4 := by
  have h := h.up hb
  exact ⟨GTy.of h.ok (Nat.le_trans h.sz (by decide)) fun n hn => Nat.lt_trans (h.vr n hn) (by decide), dep_4 h.dp⟩
end Lq
namespace Lq
open PySem L2
section
variable {P : Program} {w : World} {K : PySem.W.Frag} {mg : Str → Option Value} {base : Heap} {C D : Addr}
theorem z5 : (5 : Nat) ≤ sizeLine := by decide
theorem z8 : (8 : Nat) ≤ sizeLine := by decide
def MkV (K : PySem.W.Frag) (H : Hp) (ms : List Nat) (v : V) : Prop := ∃ m, v = .ref m ∧ SqT K H m (natV ms)
def mksF (far : Nat) : List (List Nat) := [[], [0], [far + 1], [25, 26], [0, 1, 2]]
structure MkOk (ns : List Nat) : Prop where
  lt : ∀ n, n ∈ ns → n ≤ 1000
  asc : ns.Pairwise (· < ·)
  len : ns.length ≤ 100
theorem mks_ok {far : Nat} (hf : far ≤ 700) {ms : List Nat} (h : ms ∈ mksF far) : MkOk ms := by
  simp only [mksF, List.mem_cons, List.not_mem_nil, or_false] at h
  rcases h with rfl | rfl | rfl | rfl | rfl
  · exact ⟨fun n hn => (nomatch hn), .nil, Nat.zero_le _⟩
  · exact ⟨by decide, by decide, by decide⟩
  · refine ⟨fun n hn => ?_, (.cons (fun _ h => (nomatch h)) .nil), by show 1 ≤ 100; decide⟩
    rw [List.mem_singleton.mp hn]
    omega
  · exact ⟨by decide, by decide, by decide⟩
  · exact ⟨by decide, by decide, by decide⟩
abbrev s__law_right : Stmt := top 72
theorem sc__law_right : FnScope ["_law_hat_here", "_law_rows_here", "_law_table_here", "_law_book", "_law_turn", "_law_kt", "_law_other", "_law_far", "_law_number", "_law_marked_in", "_law_scheme"] ["_law_hat_here"] (defScope s__law_right) := ⟨rfl, rfl, rfl, by decide +kernel, rfl, by decide +kernel, by decide +kernel⟩
def spRight : Sp := fun vs H Q _ => ∃ h : Addr, vs = [.ref h] ∧ HatOk H h ∧ ∀ H', Gw h H H' → Q (.bl true) H'
set_option maxHeartbeats 4000000 in
theorem ok_right {a0 am f_init : Addr} {fd_init : FuncData} {rs0 kw : List V} (A : At K mg "_law_right" s__law_right ["_law_hat_here"]) (B : Bi mg) (B2 : Bi2 mg) (T : Bk K mg C) (S : Sk K mg D) (T_Scheme : mg "Scheme" = some (.ref D)) (R : Fr K mg a0 rs0) (kwo : KwOk kw) (M_Book : Mk K C f_init)
    (G_init : FnOk P w K mg base CX0 1 f_init fd_init ["self"] (spInit K C a0)) (b_init : Binds K fd_init ["self"] []) (DM_with_stamps : HasM P w K mg base C "with_stamps" ["self", "rows"] 8 (spStamps K C kw))
    (D__law_rows : Has P w K mg base "_law_rows" ["_law_hat_here"] 3 (spRows K)) (D__law_table : Has P w K mg base "_law_table" ["_law_rows_here"] 1 (spTable K)) (D__law_type : Has P w K mg base "_law_type" ["_law_hat_here", "_law_count", "_law_deep"] 6 (spType K 4)) (D2 : Has P w K mg base "_law_type" ["_law_hat_here", "_law_count", "_law_deep"] 5 (spType K 3)) (D__law_choice : Has P w K mg base "_law_choice" ["_law_hat_here", "_law_items"] 2 (spChoice K))
    (D__law_put : Has P w K mg base "_law_put" ["_law_kt", "_law_types"] 5 (spLPut K 4)) (D__law_text : Has P w K mg base "_law_text" ["_law_table_here", "_law_kt", "_law_marked_in"] 9 (spLTx K 0 4)) (D__law_vars : Has P w K mg base "_law_vars" ["_law_kt"] 41 (spLVars K 40)) (D__law_numbered : Has P w K mg base "_law_numbered" ["_law_types"] 42 (spLNum K))
    (DT : HasT P w K mg base 8 am (spTT K C)) (DO : HasC P w K mg base D "of" 9 (spOf K C D)) (DM_text : HasM P w K mg base D "text" ["self", "book"] 8 (spSText K C D)) : Has P w K mg base "_law_right" ["_law_hat_here"] 43 spRight := by
  refine .mk A fun f fd F => ?_
  refine F.ok sc__law_right (fun vs H Q E h => ?_) (fun cdv A outer s H vs Q E hr h => ?_)
  · obtain ⟨h, rfl, _⟩ := h
    rfl
  obtain ⟨h, rfl, hh, q⟩ := h
  obtain ⟨f__law_rows, fd__law_rows, G__law_rows, b__law_rows, k__law_rows, m__law_rows⟩ := D__law_rows
  obtain ⟨f__law_table, fd__law_table, G__law_table, b__law_table, k__law_table, m__law_table⟩ := D__law_table
  obtain ⟨f__law_type, fd__law_type, G__law_type, b__law_type, k__law_type, m__law_type⟩ := D__law_type
  obtain ⟨f__law_choice, fd__law_choice, G__law_choice, b__law_choice, k__law_choice, m__law_choice⟩ := D__law_choice
  obtain ⟨f__law_put, fd__law_put, G__law_put, b__law_put, k__law_put, m__law_put⟩ := D__law_put
  obtain ⟨f__law_text, fd__law_text, G__law_text, b__law_text, k__law_text, m__law_text⟩ := D__law_text
  obtain ⟨f__law_vars, fd__law_vars, G__law_vars, b__law_vars, k__law_vars, m__law_vars⟩ := D__law_vars
  obtain ⟨f__law_numbered, fd__law_numbered, G__law_numbered, b__law_numbered, k__law_numbered, m__law_numbered⟩ := D__law_numbered
  obtain ⟨fm_with_stamps, fdm_with_stamps, GM_with_stamps, bm_with_stamps, mm_with_stamps⟩ := DM_with_stamps
  obtain ⟨fm_text, fdm_text, GM_text, bm_text, mm_text⟩ := DM_text
  obtain ⟨f2, fd2, G2, b2, k2, m2⟩ := D2
  obtain ⟨f_type_text, fd_type_text, G_type_text, ⟨ds, hds_type_text, b_type_text⟩, kb_type_text, k_type_text, m_type_text⟩ := DT
  obtain ⟨mc, p_of, g_of, fd_of, r_of, c_of, G_of, kb_of⟩ := DO
  refine ⟨_, (pss_cons (ps_set (i := 1) sc__law_right.nd rfl (Or.inl rfl) (pe_call G__law_rows (hr.mono (by decide)) rfl m__law_rows k__law_rows b__law_rows .nil pass0 (pa_cons (pv 0) pa_nil)))
  (pss_cons (ps_par (i := 2) (j := 3) rfl sc__law_right.nd rfl rfl (by decide) rfl rfl (pa_cons (pe_call G__law_table (hr.mono (by decide)) rfl m__law_table k__law_table b__law_table .nil pass0 (pa_cons (pv 1) pa_nil)) (pa_cons (pe_ix (ixT K) (pe_meth (pe_make0 M_Book G_init (hr.mono (by decide)) rfl T.mgC b_init .nil pass0) T.cl mm_with_stamps GM_with_stamps (hr.mono (by decide)) bm_with_stamps .nil pass0 (pa_cons (pv 1) pa_nil)) pe_int (fun _ _ => rfl)) pa_nil)) rfl)
  (pss_cons (ps_for PassesOwn.never rfl (pi_range1 (by rfl) B.range (pa_cons pe_int pa_nil)) (pg_name (i := 4) sc__law_right.nd rfl (Or.inl rfl)) (pss_cons (ps_asg (pe_tup (pa_cons (pe_call G__law_type (hr.mono (by decide)) rfl m__law_type k__law_type b__law_type .nil pass0 (pa_cons (pv 0) (pa_cons pe_int (pa_cons pe_int pa_nil)))) (pa_cons (pe_call G2 (hr.mono (by decide)) rfl m2 k2 b2 .nil pass0 (pa_cons (pv 0) (pa_cons pe_int (pa_cons pe_int pa_nil)))) pa_nil))) (pg_tup rfl (pgs_cons (pg_name (i := 5) sc__law_right.nd rfl (Or.inr rfl)) (pgs_cons (pg_name (i := 6) sc__law_right.nd rfl (Or.inl rfl)) pgs_nil))))
  (pss_cons (ps_set (i := 7) sc__law_right.nd rfl (Or.inr rfl) (pe_call G__law_choice (hr.mono (by decide)) rfl m__law_choice k__law_choice b__law_choice .nil pass0 (pa_cons (pv 0) (pa_cons (pe_lst (pa_cons pe_int (pa_cons pe_int (pa_cons pe_int (pa_cons pe_int (pa_cons pe_int (pa_cons pe_int (pa_cons pe_int (pa_cons pe_int pa_nil))))))))) pa_nil))))
  (pss_cons (ps_set (i := 5) sc__law_right.nd rfl (Or.inr rfl) (pe_call G__law_put (hr.mono (by decide)) rfl m__law_put k__law_put b__law_put .nil pass0 (pa_cons (pv 5) (pa_cons (pe_callTy call_tuple_of (by rfl) B.tuple (by decide +kernel) (pa_cons (pe_lc (own := [("_law_number", 8)]) (g := gName 8) (tt := tYes) (by rfl) sc__law_right.nd (pi_range1 (by rfl) B.range (pa_cons pe_int pa_nil)) (blkOk_by (N := ["_law_hat_here", "_law_rows_here", "_law_table_here", "_law_book", "_law_turn", "_law_kt", "_law_other", "_law_far", "_law_number", "_law_marked_in", "_law_scheme"]) (sc := defScope s__law_right) (by decide +kernel)) (fun _ _ _ _ _ => (pg_name (i := 8) sc__law_right.nd rfl (Or.inl rfl))) (fun _ _ _ _ _ => pts_nil) (fun _ _ _ _ _ => (pe_tup (pa_cons pe_str (pa_cons (pe_op op_add (pv 8) (pv 7)) pa_nil))))) pa_nil)) pa_nil))))
  (pss_cons (ps_set (i := 9) sc__law_right.nd rfl (Or.inl rfl) (pe_call G__law_choice (hr.mono (by decide)) rfl m__law_choice k__law_choice b__law_choice .nil pass0 (pa_cons (pv 0) (pa_cons (pe_lst (pa_cons (pe_tup pa_nil) (pa_cons (pe_tup (pa_cons pe_int pa_nil)) (pa_cons (pe_tup (pa_cons (pe_op op_add (pv 7) pe_int) pa_nil)) (pa_cons (pe_tup (pa_cons pe_int (pa_cons pe_int pa_nil))) (pa_cons (pe_tup (pa_cons pe_int (pa_cons pe_int (pa_cons pe_int pa_nil)))) pa_nil)))))) pa_nil))))
  (pss_cons (ps_if (pt_cmpR op_ne (pe_callN G_type_text (hr.mono (by decide)) (by rfl) m_type_text k_type_text kb_type_text pass0 (pa_cons (pv 3) (pa_cons (pv 5) pa_nil)) (pk_cons (pv 9) pk_nil)) (pe_call G__law_text (hr.mono (by decide)) rfl m__law_text k__law_text b__law_text .nil pass0 (pa_cons (pv 2) (pa_cons (pv 5) (pa_cons (pv 9) pa_nil)))) (nomark _)) (pss_one (ps_ret pe_bl)) pss_nil)
  (pss_cons (ps_if (pt_cmpR op_ne (pe_cmpR op_eq (pe_callN G_type_text (hr.mono (by decide)) (by rfl) m_type_text k_type_text kb_type_text pass0 (pa_cons (pv 3) (pa_cons (pv 5) pa_nil)) (pk_cons (pv 9) pk_nil)) (pe_callN G_type_text (hr.mono (by decide)) (by rfl) m_type_text k_type_text kb_type_text pass0 (pa_cons (pv 3) (pa_cons (pv 6) pa_nil)) (pk_cons (pv 9) pk_nil)) (nomark _)) (pe_cmpR (op_eqD hr.units) (pv 5) (pv 6) (nomark _)) (nomark _)) (pss_one (ps_ret pe_bl)) pss_nil)
  (pss_cons (ps_set (i := 10) sc__law_right.nd rfl (Or.inl rfl) (pe_clsK (pe_glob rfl T_Scheme r_ref) r_of c_of G_of (hr.mono (by decide)) kb_of pass0 (pa_cons (pv 3) (pa_cons (pv 5) pa_nil)) (pk_cons (pe_callTy call_tuple_of (by rfl) B.tuple (by decide +kernel) (pa_cons (pe_lc (own := [("_law_number", 8)]) (g := gName 8) (tt := _) (by rfl) sc__law_right.nd (pi_tup (pv 9)) (blkOk_by (N := ["_law_hat_here", "_law_rows_here", "_law_table_here", "_law_book", "_law_turn", "_law_kt", "_law_other", "_law_far", "_law_number", "_law_marked_in", "_law_scheme"]) (sc := defScope s__law_right) (by decide +kernel)) (fun _ _ _ _ _ => (pg_name (i := 8) sc__law_right.nd rfl (Or.inl rfl))) (fun _ _ _ _ _ => (pts_one (pt_cmpR (inS K) (pv 8) (pe_call G__law_vars (hr.mono (by decide)) rfl m__law_vars k__law_vars b__law_vars .nil pass0 (pa_cons (pv 5) pa_nil)) rfl))) (fun _ _ _ _ _ => (pv 8))) pa_nil)) pk_nil)))
  (pss_one (ps_if (PW.pt (pw_or (pt_cmpR op_ne (pe_meth (pv 10) S.cl mm_text GM_text (hr.mono (by decide)) bm_text .nil pass0 (pa_cons (pv 3) pa_nil)) (pe_call G__law_text (hr.mono (by decide)) rfl m__law_text k__law_text b__law_text .nil pass0 (pa_cons (pv 2) (pa_cons (pe_fld (pv 10) rfl) (pa_cons (pe_fld (pv 10) rfl) pa_nil)))) (nomark _)) (pw_or1 (pt_cmpR (op_neD hr.units) (pe_fld (pv 10) rfl) (pe_ix (ixT K) (pe_call G__law_numbered (hr.mono (by decide)) rfl m__law_numbered k__law_numbered b__law_numbered .nil pass0 (pa_cons (pe_tup (pa_cons (pv 5) pa_nil)) pa_nil)) pe_int (fun _ _ => rfl)) (nomark _))))) (pss_one (ps_ret pe_bl)) pss_nil))))))))))
  (pss_one (ps_ret pe_bl))))), ?_⟩
  refine ⟨_, rfl, h, rfl, hh, fun H1 p nrs ws g1 hdr hp hA => ?_⟩
  obtain ⟨hn3, har, hzs, hout⟩ := drawn_facts kwo hdr
  refine ⟨_, rfl, p, nrs, ws, rfl, hp, hA, by omega, fun H2 d g2 hTab => ?_⟩
  refine fun x dx hx hdx hne => ⟨H2, x, dx, rfl, same_set (same_upd hdx _) hx _, hx, upd_same, fun H3 qa g3 hb hq => ⟨rfl, ?_⟩⟩
  have hBook : BookH K C H3 firstRows (.ref x) := ⟨x, dx, a0, qa, rs0, rfl, hb, R.sq _, R.all _, hq⟩
  have g23 := g2.trans g3
  refine ⟨x, dx, _, rfl, hb, bf_no _ _ (by decide +kernel) (by decide +kernel), _, rfl, _, p, firstRows, nrs, ws, rfl, hBook, tups_of g23 _ _ hp, hA.mono (NRowH.mono (tups_of g23)), by decide, by omega, fun r hr => by rw [har]; exact hout r hr, fun H4 t bv tv' g4 ht hBk => ?_⟩
  refine ⟨t, _, _, _, rfl, rfl, ht, atI_nat (j := 0) rfl, _, _, rfl, ?_⟩
  have g24 := g3.trans g4
  have hTab := hTab.mono g24
  have hh4 := g1.2.mono (g2.trans g24)
  have G4 := g1.trans (Gw.of_same g1.2 (g2.trans g24))
  obtain ⟨rows, hrows⟩ : ∃ rows, rows = firstRows ++ nrs.map NRow.row := ⟨_, rfl⟩
  rw [← hrows] at hTab hBk har hzs
  have hnm := nm_of hzs
  have hz := z_short hzs
  refine ⟨4, rfl, by decide, by decide, for_range (lo := 0) (n := (4 : Int).toNat) (fun i σ H3 => ∃ s4 s5 s6 s7 s8 s9 s10, σ = [some (.ref h), some (.ref p), some (.ref d), some bv, s4, s5, s6, s7, s8, s9, s10] ∧ Gw h H H3 ∧ TabH K H3 d rows ∧ BookH K C H3 rows bv)
    ⟨_, _, _, _, _, _, _, rfl, G4, hTab, hBk⟩ ?_ ?_⟩
  · clear hTab hBk hh4 G4 g24 g23 hBook
    rintro i σ H5 hi ⟨s4, s5, s6, s7, s8, s9, s10, rfl, G5, hTab, hBk⟩
    refine ⟨_, rfl, h, 3, 3, rfl, G5.2, by decide, by decide, rfl, fun H6 T0 v g6 hT0 hB0 => ?_⟩
    have hTab := hTab.gw G5.2 g6
    have hBk := g6.book G5.2 hBk
    have G6 := G5.trans g6
    refine ⟨_, rfl, h, 3, 2, rfl, g6.2, by decide, by decide, rfl, fun H7 U0 u g7 hU0 hB1 => ⟨z2, fun tt htt => ?_⟩⟩
    have w7 := same_upd htt (.tup [v, u])
    have hTab := (hTab.gw G6.2 g7).mono w7
    have hBk := (g7.book G6.2 hBk).mono w7
    have hT0 := (hT0.mono (g7.tups g6.2)).mono (tups_of w7)
    have hU0 := hU0.mono (tups_of w7)
    have G7 := (G6.trans g7).trans (Gw.of_same g7.2 w7)
    refine ⟨tt, _, rfl, sq_new, rfl, _, _, rfl, _, _, rfl, rfl, ?_⟩
    generalize upd H7 tt (.tup [v, u]) = H8 at hTab hBk hT0 hU0 G7
    clear w7 htt g7 g6 G5 G6
    -- how far
    refine ⟨_, rfl, z8, fun l hl => ?_⟩
    have u1 := same_upd hl (.lst (natV [0, 0, 24, 25, 26, 51, 52, 700]))
    refine ⟨h, l, natV [0, 0, 24, 25, 26, 51, 52, 700], rfl, G7.2.mono u1, G7.2.ne hl, SqL.of upd_same, (by show 0 < 8; decide), (by show 8 < 1000000; decide), fun H9 r x hx g9 => ?_⟩
    obtain ⟨far, hfar, rfl⟩ := natV_at hx
    have hf7 : far ≤ 700 := by
      have := List.mem_of_getElem? hfar
      simp only [List.mem_cons, List.not_mem_nil, or_false] at this
      omega
    have hTab := (hTab.mono u1).gw (G7.2.mono u1) g9
    have hBk := g9.book (G7.2.mono u1) (hBk.mono u1)
    have hT0 := (hT0.mono (tups_of u1)).mono (g9.tups (G7.2.mono u1))
    have hU0 := (hU0.mono (tups_of u1)).mono (g9.tups (G7.2.mono u1))
    have G9 := (G7.trans (Gw.of_same G7.2 u1)).trans g9
    clear u1 g9 G7 hl hx hfar
    -- the variables put in
    refine ⟨_, rfl, 3, rfl, by decide, by decide, fun Dl hDl => ?_⟩
    refine lc_range (lo := 0) (n := (3 : Int).toNat) (fun i H3 => Same H9 H3 ∧ ∃ xs, H3 Dl = some (.lst xs) ∧ xs.length = i ∧ ∀ j, j < i → ∃ x, xs[j]? = some x ∧ TyH K H3 (tv (j + far)) x)
      ⟨same_upd hDl _, [], upd_same, rfl, fun j hj => absurd hj (Nat.not_lt_zero j)⟩ ?_ ?_
    · rintro i H3 hi ⟨g3, xs, h3, hxl, hxj⟩
      have hi : i < 3 := hi
      refine ⟨rfl, _, rfl, _, rfl, _, _, rfl, rfl, z2, fun pp hpp => ?_⟩
      have e : ((0 : Int) + (i : Int) + (far : Int)) = ((i + far : Nat) : Int) := by omega
      have w := same_upd hpp (.tup [.str "var", .int ((0 : Int) + (i : Int) + (far : Int))])
      have h4 := w _ _ h3
      have t5 := tups_set (K := K) h4 (.lst (xs ++ [.ref pp]))
      refine ⟨xs, h4, small1000 (by omega), same_set (g3.trans w) hDl _, _, upd_same, by rw [List.length_append, List.length_singleton, hxl], fun j hj => ?_⟩
      by_cases ej : j = i
      · subst ej
        have h6 := t5 _ _ (sq_new (K := K) (H := H3) (p := pp) (xs := [.str "var", .int ((0 : Int) + (j : Int) + (far : Int))]))
        have h7 := (congrArg (fun z => SqT K _ pp [V.str "var", V.int z]) e).mp h6
        refine ⟨.ref pp, ?_, TyH.var h7⟩
        rw [← hxl]
        exact List.getElem?_concat_length
      · obtain ⟨x, h1, h2⟩ := hxj j (by omega)
        refine ⟨x, ?_, (h2.mono (tups_of w)).mono t5⟩
        rw [List.getElem?_append_left (by omega)]
        exact h1
    rintro H3 ⟨g3, xs, h3, hxl, hxj⟩
    refine ⟨Dl, _, rfl, .inl ⟨SqL.of h3, fun tp htp => ?_⟩⟩
    have w1 := same_upd htp (.tup xs)
    have u1 := g3.trans w1
    obtain ⟨hGk, hdk, hzk⟩ := far_good hf7 hB0
    have hlf0 := hB0.ok.leafy
    refine ⟨T0, v, tp, (fun n => tv (n + far)), rfl, hT0.mono (tups_of u1), dep_4 hB0.dp, Nat.le_trans hB0.sz (by decide), hlf0, .inl ⟨xs, sq_new, fun n hn => ?_⟩, fun H10 k g10 hk => ?_⟩
    · obtain ⟨x, h1, h2⟩ := hxj n (hB0.vr n hn)
      exact ⟨x, h1, h2.mono (tups_of w1)⟩
    have hk : TyH K H10 (farT far T0) k := hk
    have u2 := u1.trans g10
    have hTab := hTab.mono u2
    have hBk := hBk.mono u2
    have hU0 := hU0.mono (tups_of u2)
    have G10 := G9.trans (Gw.of_same G9.2 u2)
    clear hxj h3 w1 u1 g10 u2 hT0 G9 g3 htp hDl
    obtain ⟨X, hX⟩ : ∃ X, X = farT far T0 := ⟨_, rfl⟩
    rw [← hX] at hk hGk hdk hzk
    clear hlf0 hB0 hX
    -- the marks
    refine ⟨_, rfl, z0, fun t1 h1 => ⟨z1, fun t2 h2 => ⟨_, rfl, _, _, rfl, rfl, z1, fun t3 h3 => ⟨z2, fun t4 h4 => ⟨z3, fun t5 h5 => ⟨z5, fun l hl => ?_⟩⟩⟩⟩⟩⟩
    have v1 := same_upd h1 (.tup (natV []))
    have v2 := same_upd h2 (.tup (natV [0]))
    have v3 := same_upd h3 (.tup (natV [far + 1]))
    have v4 := same_upd h4 (.tup (natV [25, 26]))
    have v5 := same_upd h5 (.tup (natV [0, 1, 2]))
    have v6 := same_upd hl (.lst [.ref t1, .ref t2, .ref t3, .ref t4, .ref t5])
    have e5 := v5.trans v6
    have e4 := v4.trans e5
    have e3 := v3.trans e4
    have e2 := v2.trans e3
    have e1 := v1.trans e2
    have k7 := G10.2.mono e1
    have L1 : All2 (MkV K _) (mksF far) [.ref t1, .ref t2, .ref t3, .ref t4, .ref t5] := ⟨_, _, rfl, ⟨t1, rfl, tups_of e2 _ _ sq_new⟩, _, _, rfl, ⟨t2, rfl, tups_of e3 _ _ sq_new⟩, _, _, rfl, ⟨t3, rfl, tups_of e4 _ _ sq_new⟩, _, _, rfl, ⟨t4, rfl, tups_of e5 _ _ sq_new⟩,
      _, _, rfl, ⟨t5, rfl, tups_of v6 _ _ sq_new⟩, rfl⟩
    refine ⟨h, l, _, rfl, k7, (G10.2.mono (v1.trans (v2.trans (v3.trans (v4.trans v5))))).ne hl, SqL.of upd_same, (by show 0 < 5; decide), (by show 5 < 1000000; decide), fun H11 r x hx g11 => ?_⟩
    obtain ⟨ms, hms, hxm⟩ := drawn (R := MkV K) (H' := H11) (fun e x ⟨m, h1, h2⟩ => ⟨m, h1, g11.tups k7 _ _ h2⟩) L1 hx
    obtain ⟨m, rfl, hm⟩ := hxm
    have hMO := mks_ok hf7 hms
    have hTab := (hTab.mono e1).gw k7 g11
    have hBk := g11.book k7 (hBk.mono e1)
    have hk := (hk.mono (tups_of e1)).mono (g11.tups k7)
    have hU0 := (hU0.mono (tups_of e1)).mono (g11.tups k7)
    have G11 := (G10.trans (Gw.of_same G10.2 e1)).trans g11
    clear v1 v2 v3 v4 v5 v6 e1 e2 e3 e4 e5 h1 h2 h3 h4 h5 hl L1 hx k7 g11 G10 hms
    have hGX : GTy (arOf rows) X := by rw [har]; exact hGk
    obtain ⟨hGu, hdu⟩ := near_good (by decide : bd 2 ≤ 40) hB1
    have hGU : GTy (arOf rows) U0 := by rw [har]; exact hGu
    have hml : ∀ n, n ∈ ms → (n : Int) < 10 ^ 60 := fun n hn => lt60 (hMO.lt n hn)
    have hm1k : ms.length ≤ 1000 := Nat.le_trans hMO.len (by decide)
    -- the text of the type
    refine ⟨_, rfl, _, rfl, _, rfl, rfl, rfl, bv, k, rows, X, m, ms, rfl, hBk, hk, hGX, hm, hml, hm1k, hMO.asc, hz, fun H12 g12 => ?_⟩
    have hTab := hTab.mono g12
    have hBk := hBk.mono g12
    have hk := hk.mono (tups_of g12)
    have hU0 := hU0.mono (tups_of g12)
    have hm := tups_of g12 _ _ hm
    have G12 := G11.trans (Gw.of_same G11.2 g12)
    clear G11 g12
    refine ⟨_, rfl, _, rfl, _, rfl, d, m, k, rows, X, ms, rfl, hTab, hk, hGX, hdk, hm, hz, fun H13 g13 => ?_⟩
    have hTab := hTab.mono g13
    have hBk := hBk.mono g13
    have hk := hk.mono (tups_of g13)
    have hU0 := hU0.mono (tups_of g13)
    have hm := tups_of g13 _ _ hm
    have G13 := G12.trans (Gw.of_same G12.2 g13)
    clear G12 g13
    refine ⟨rfl, _, rfl, ?_⟩
    rw [decide_eq_true rfl]
    refine iteF ?_
    -- unlike types, unlike texts
    refine ⟨_, rfl, _, rfl, _, rfl, rfl, rfl, bv, k, rows, X, m, ms, rfl, hBk, hk, hGX, hm, hml, hm1k, hMO.asc, hz, fun H14 g14 => ?_⟩
    have hTab := hTab.mono g14
    have hBk := hBk.mono g14
    have hk := hk.mono (tups_of g14)
    have hU0 := hU0.mono (tups_of g14)
    have hm := tups_of g14 _ _ hm
    have G14 := G13.trans (Gw.of_same G13.2 g14)
    clear G13 g14
    refine ⟨_, rfl, _, rfl, _, rfl, rfl, rfl, bv, u, rows, U0, m, ms, rfl, hBk, hU0, hGU, hm, hml, hm1k, hMO.asc, hz, fun H15 g15 => ?_⟩
    have hTab := hTab.mono g15
    have hBk := hBk.mono g15
    have hk := hk.mono (tups_of g15)
    have hU0 := hU0.mono (tups_of g15)
    have hm := tups_of g15 _ _ hm
    have G15 := G14.trans (Gw.of_same G14.2 g15)
    clear G14 g15
    have hlfX := hGk.ok.leafy
    have hlfU := hGu.ok.leafy
    have key : decide (V.str (X.tx (nmR rows) ms 0) = V.str (U0.tx (nmR rows) ms 0)) = X.pd.eqv U0.pd := by
      rw [Bool.eq_iff_iff, decide_eq_true_iff, pd_eqv X U0 hlfX hlfU]
      constructor
      · intro e
        injection e with e
        rw [hnm] at e
        exact tx_inj nms9 (gd_of X hGk) (gd_of U0 hGu) e
      · intro e
        rw [e]
    refine ⟨rfl, _, rfl, _, rfl, X.pd, U0.pd, pd_dp X k hk, pd_dp U0 u hU0, pd_shaped (by omega), pd_shaped (by omega), rfl, _, rfl, ?_⟩
    rw [key, decide_eq_true rfl]
    refine iteF ?_
    clear key hU0
    -- the scheme
    refine ⟨rfl, _, rfl, _, rfl, _, rfl, m, rfl, ⟨_, hm⟩, fun Dl hDl => ?_⟩
    refine lc_tup (K := K) (a := m) (xs := natV ms) (fun i H3 => Same H15 H3 ∧ H3 Dl = some (.lst (natV ((ms.take i).filter fun n => decide (n ∈ X.ord))))) ⟨same_upd hDl _, upd_same⟩ (fun i H3 _ z => tups_of z.1 _ _ hm) ?_ ?_
    · rintro i x H3 hx ⟨g3, h3⟩
      obtain ⟨n, hn, rfl⟩ := natV_at hx
      refine ⟨rfl, _, rfl, _, rfl, X, k, rfl, hk.mono (tups_of g3), hzk, Nat.le_trans hzk (by decide), hlfX, fun H4 p4 g4 hp4 => ?_⟩
      refine ⟨p4, natV X.ord, rfl, .inl (SqL.of hp4), rfl, flat_nat _, _, rfl, ?_⟩
      rw [inV_nat]
      have h4 := g4 _ _ h3
      by_cases hin : n ∈ X.ord
      · rw [decide_eq_true hin]
        refine iteT ⟨_, rfl, _, h4, ?_, same_set (g3.trans g4) hDl _, ?_⟩
        · rw [natV_len]
          refine small1000 (Nat.le_trans (List.length_filter_le _ _) ?_)
          rw [List.length_take]
          omega
        · rw [upd_same, take_snoc hn, List.filter_append, List.filter_cons_of_pos (by simpa using hin), List.filter_nil, natV_app]
          rfl
      · rw [decide_eq_false hin]
        refine iteF ⟨g3.trans g4, ?_⟩
        rw [take_snoc hn, List.filter_append, List.filter_cons_of_neg (by simpa using hin), List.filter_nil, List.append_nil]
        exact h4
    rintro H16 ⟨g16, h16⟩
    rw [natV_len, List.take_length] at h16
    refine ⟨Dl, _, rfl, .inl ⟨SqL.of h16, fun mp hmp => ⟨rfl, rfl, ?_⟩⟩⟩
    have w16 := same_upd hmp (.tup (natV (ms.filter fun n => decide (n ∈ X.ord))))
    have u16 := g16.trans w16
    refine ⟨bv, k, mp, rows, X, _, rfl, hBk.mono u16, hk.mono (tups_of u16), hGX.ok, Nat.le_trans hzk (by decide), sq_new, fun n hn => hml n (List.mem_filter.mp hn).1, Nat.le_trans (List.length_filter_le _ _) hm1k, hMO.asc.filter _, fun H17 mk x17 g17 hS17 => ?_⟩
    have u17 := u16.trans g17
    have hTab := hTab.mono u17
    have hBk := hBk.mono u17
    have hk := hk.mono (tups_of u17)
    have G17 := G15.trans (Gw.of_same G15.2 u17)
    clear G15 u17 u16 w16 g16 g17 h16 hm hDl hmp
    have hGR : GTy (arOf rows) X.ren := ren_good hGX.ok hGX.2
    have hdR : X.ren.dep = X.dep := dep_put _ X hlfX
    have hlfR := hGR.ok.leafy
    have hS17' := hS17
    obtain ⟨sp, sdx, am2, va, st, so, rfl, hsp, hsm, hst⟩ := hS17
    refine ⟨_, rfl, sp, sdx, _, rfl, hsp, sf_no _ _ _ _ (by decide +kernel) (by decide +kernel) (by decide +kernel) (by decide +kernel), _, rfl, _, bv, rows, X.ren, mk, rfl, hS17', hBk, hGR, hz, fun H18 g18 => ?_⟩
    have hTab := hTab.mono g18
    have hBk := hBk.mono g18
    have hk := hk.mono (tups_of g18)
    have hsp := g18 _ _ hsp
    have hsm := tups_of g18 _ _ hsm
    have hst := hst.mono (tups_of g18)
    have G18 := G17.trans (Gw.of_same G17.2 g18)
    clear G17 g18 hS17'
    refine ⟨_, rfl, _, rfl, sp, D, sdx, _, _, rfl, hsp, S.cl, S.nB, sf_body _ _ _ _, _, rfl, sp, D, sdx, _, _, rfl, hsp, S.cl, S.nM, sf_marks _ _ _ _, d, am2, va, rows, X.ren, mk, rfl, hTab, hst, hGR, by omega, hsm, hz, fun H19 g19 => ?_⟩
    have hTab := hTab.mono g19
    have hBk := hBk.mono g19
    have hk := hk.mono (tups_of g19)
    have hsp := g19 _ _ hsp
    have hst := hst.mono (tups_of g19)
    have G19 := G18.trans (Gw.of_same G18.2 g19)
    clear G18 g19 hsm
    refine ⟨rfl, _, rfl, ?_⟩
    rw [decide_eq_true rfl]
    refine iteF ?_
    refine ⟨_, rfl, sp, D, sdx, _, _, rfl, hsp, S.cl, S.nB, sf_body _ _ _ _, _, rfl, z1, fun tq htq => ?_⟩
    have w := same_upd htq (.tup [k])
    refine ⟨tq, k, X, rfl, sq_new, hk.mono (tups_of w), hdk, hzk, hlfX, fun H20 po xo g20 hpo hxo => ?_⟩
    have u20 := w.trans g20
    refine ⟨po, _, _, _, rfl, rfl, hpo, atI_nat (j := 0) rfl, X.ren.pd, X.ren.pd, pd_dp _ _ (hst.mono (tups_of u20)), pd_dp _ _ hxo, pd_shaped (by omega), pd_shaped (by omega), _, rfl, ?_⟩
    rw [(pd_eqv X.ren X.ren hlfR hlfR).mpr rfl]
    refine iteF ?_
    exact ⟨_, _, _, _, _, _, _, rfl, G19.trans (Gw.of_same G19.2 u20), hTab.mono u20, hBk.mono u20⟩
  · rintro σ H5 ⟨s4, s5, s6, s7, s8, s9, s10, rfl, G5, _, _⟩
    exact q H5 G5
end
end Lq
namespace Lq
open PySem L2
theorem GTy.mk {ar : List Nat} {l : Lab} {ts : List Ty} (h : LocOk ar l ts.length) (hn : ∀ n, l.num = some n → n < 1000) (hs : ∀ t ∈ ts, GTy ar t) (hz : (Ty.node l ts).sz ≤ 300) : GTy ar (.node l ts) := by
  refine ⟨fun t ht => ?_, hz⟩
  rw [pre_eq] at ht
  rcases List.mem_cons.mp ht with e | ht
  · rw [e]
    exact ⟨h, hn⟩
  · obtain ⟨u, h1, h2⟩ := mem_pres_inv ht
    exact (hs u h1).1 t h2
theorem one_mem {α : Type} {p : α → Prop} {a : α} (h : p a) : ∀ t ∈ [a], p t := fun t ht => by rw [List.mem_singleton.mp ht]; exact h
theorem two_mem {α : Type} {p : α → Prop} {a b : α} (h : p a) (h' : p b) : ∀ t ∈ [a, b], p t := fun t ht => by
  rcases List.mem_cons.mp ht with rfl | ht
  · exact h
  · rw [List.mem_singleton.mp ht]
    exact h'
theorem no_mem {α : Type} {p : α → Prop} : ∀ t ∈ ([] : List α), p t := fun t ht => nomatch ht
def ar1 : List Nat := arOf firstRows
theorem g_var {n : Nat} (h : n < 1000) : GTy ar1 (tv n) := .mk ⟨rfl, lt60 (Nat.le_of_lt h)⟩ (fun m e => by cases e; exact h) no_mem (by rw [Ty.sz, szs_nil]; decide)
theorem g_int : GTy ar1 (tmd 1 []) := .mk ⟨by decide, by decide, rfl⟩ (fun m e => nomatch e) no_mem (by rw [Ty.sz, szs_nil]; decide)
def pairT : Ty := ttup [tv 0, tmd 1 []]
theorem g_pair : GTy ar1 pairT := .mk (show (2 : Nat) ≠ 1 by decide) (fun m e => nomatch e) (two_mem (g_var (by decide)) g_int) (by decide +kernel)
theorem g_unit : GTy ar1 (ttup []) := .mk (show (0 : Nat) ≠ 1 by decide) (fun m e => nomatch e) no_mem (by decide +kernel)
def someTs : List Ty := [tmd 5 [pairT], tfn pairT pairT, tfn (tfn pairT pairT) (ttup []), ttup [pairT, tv 27]]
theorem g_fn : GTy ar1 (tfn pairT pairT) := .mk rfl (fun m e => nomatch e) (two_mem g_pair g_pair) (by decide +kernel)
theorem g_some : ∀ t ∈ someTs, GTy ar1 t := fun t ht => by
  simp only [someTs, List.mem_cons, List.not_mem_nil, or_false] at ht
  rcases ht with rfl | rfl | rfl | rfl
  · exact .mk ⟨by decide, by decide, rfl⟩ (fun m e => nomatch e) (one_mem g_pair) (by decide +kernel)
  · exact g_fn
  · exact .mk rfl (fun m e => nomatch e) (two_mem g_fn g_unit) (by decide +kernel)
  · exact .mk (show (2 : Nat) ≠ 1 by decide) (fun m e => nomatch e) (two_mem g_pair (g_var (by decide))) (by decide +kernel)
def lastT : Ty := tmd 6 [tmd 5 [ttup []]]
theorem g_last : GTy ar1 lastT := .mk ⟨by decide, by decide, rfl⟩ (fun m e => nomatch e) (one_mem (.mk ⟨by decide, by decide, rfl⟩ (fun m e => nomatch e) (one_mem g_unit) (by decide +kernel))) (by decide +kernel)
def dueS : List Str := ["('a * int) list", "'a * int -> 'a * int", "('a * int -> 'a * int) -> unit", "('a * int) * ''b1"]
theorem due_told : someTs.map (fun t => t.tx (nmR firstRows) [27] 0) = dueS := by decide +kernel
theorem last_told : lastT.tx (nmR firstRows) [] 0 = "unit list ref" := by decide +kernel
theorem due_shaped : SeqAt.shaped (.list (dueS.map PyData.str)) = true := by decide +kernel
theorem due_eqv : PyData.eqv (.list (dueS.map PyData.str)) (.list (dueS.map PyData.str)) = true := by decide +kernel
theorem first_short : ∀ row ∈ firstRows, row.z.length ≤ 10 := by decide +kernel
section
variable {P : Program} {w : World} {K : PySem.W.Frag} {mg : Str → Option Value} {base : Heap} {C D : Addr}
abbrev s_law : Stmt := top 73
theorem sc_law : FnScope ["_law_script", "_law_spot", "_law_book", "_law_pair", "_law_some", "_law_told", "_law_kt", "_law_due"] ["_law_script"] (defScope s_law) := ⟨rfl, rfl, rfl, by decide +kernel, rfl, by decide +kernel, by decide +kernel⟩
def spLaw (K : PySem.W.Frag) : Sp := fun vs H Q _ => ∃ (a : Addr) (ns : List Int), vs = [.ref a] ∧ SqL K H a (ns.map V.int) ∧ ns.length ≤ 63 ∧ ∀ H', Q (.bl true) H'
theorem ok_law {a0 am f_init e : Addr} {fd_init ed : FuncData} {rs0 : List V} (F : Fun K "law" "law" s_law e ed) (B : Bi mg) (T : Bk K mg C) (R : Fr K mg a0 rs0) (M_Book : Mk K C f_init) (ham : ∀ H, SqT K H am [])
    (G_init : FnOk P w K mg base CX0 1 f_init fd_init ["self"] (spInit K C a0)) (b_init : Binds K fd_init ["self"] [])
    (D__law_hat : Has P w K mg base "_law_hat" ["_law_script", "_law_spot"] 1 (spHat K)) (D__law_right : Has P w K mg base "_law_right" ["_law_hat_here"] 43 spRight) (DT : HasT P w K mg base 8 am (spTT K C)) : FnOk P w K mg base CX0 44 e ed ["_law_script"] (spLaw K) := by
  refine F.ok sc_law (fun vs H Q E h => ?_) (fun cdv A outer s H vs Q E hr h => ?_)
  · obtain ⟨a, ns, rfl, _⟩ := h
    rfl
  obtain ⟨a, ns, rfl, hS, h63, q⟩ := h
  obtain ⟨f__law_hat, fd__law_hat, G__law_hat, b__law_hat, k__law_hat, m__law_hat⟩ := D__law_hat
  obtain ⟨f__law_right, fd__law_right, G__law_right, b__law_right, k__law_right, m__law_right⟩ := D__law_right
  obtain ⟨f_type_text, fd_type_text, G_type_text, ⟨ds, hds_type_text, b_type_text⟩, kb_type_text, k_type_text, m_type_text⟩ := DT
  refine ⟨_, (pss_cons (ps_for PassesOwn.never rfl (pi_range1 (by rfl) B.range (pa_cons (pe_callB (call_max2 rfl) (by rfl) B.max (by decide +kernel) (pa_cons pe_int (pa_cons (pe_callB (call_min2 rfl) (by rfl) B.min (by decide +kernel) (pa_cons pe_int (pa_cons (pe_callB (lenS K) (by rfl) B.len (by decide +kernel) (pa_cons (pv 0) pa_nil)) pa_nil))) pa_nil))) pa_nil)) (pg_name (i := 1) sc_law.nd rfl (Or.inl rfl)) (pss_one (ps_if (pt_not (pt_val (pe_call G__law_right (hr.mono (by decide)) rfl m__law_right k__law_right b__law_right .nil pass0 (pa_cons (pe_call G__law_hat (hr.mono (by decide)) rfl m__law_hat k__law_hat b__law_hat .nil pass0 (pa_cons (pv 0) (pa_cons (pv 1) pa_nil))) pa_nil)))) (pss_one (ps_ret pe_bl)) pss_nil)))
  (pss_cons (ps_asg (pe_tup (pa_cons (pe_make0 M_Book G_init (hr.mono (by decide)) rfl T.mgC b_init .nil pass0) (pa_cons (pe_tup (pa_cons pe_str (pa_cons (pe_tup (pa_cons (pe_tup (pa_cons pe_str (pa_cons pe_int pa_nil))) (pa_cons (pe_tup (pa_cons pe_str (pa_cons pe_int (pa_cons (pe_tup pa_nil) pa_nil)))) pa_nil))) pa_nil))) pa_nil))) (pg_tup rfl (pgs_cons (pg_name (i := 2) sc_law.nd rfl (Or.inr rfl)) (pgs_cons (pg_name (i := 3) sc_law.nd rfl (Or.inl rfl)) pgs_nil))))
  (pss_cons (ps_set (i := 4) sc_law.nd rfl (Or.inl rfl) (pe_lst (pa_cons (pe_tup (pa_cons pe_str (pa_cons pe_int (pa_cons (pe_tup (pa_cons (pv 3) pa_nil)) pa_nil)))) (pa_cons (pe_tup (pa_cons pe_str (pa_cons (pv 3) (pa_cons (pv 3) pa_nil)))) (pa_cons (pe_tup (pa_cons pe_str (pa_cons (pe_tup (pa_cons pe_str (pa_cons (pv 3) (pa_cons (pv 3) pa_nil)))) (pa_cons (pe_tup (pa_cons pe_str (pa_cons (pe_tup pa_nil) pa_nil))) pa_nil)))) (pa_cons (pe_tup (pa_cons pe_str (pa_cons (pe_tup (pa_cons (pv 3) (pa_cons (pe_tup (pa_cons pe_str (pa_cons pe_int pa_nil))) pa_nil))) pa_nil))) pa_nil))))))
  (pss_cons (ps_setLc (i := 5) (own := [("_law_kt", 6)]) (g := gName 6) (tt := tYes) (by rfl) sc_law.nd rfl rfl (sw_true rfl rfl rfl (by decide +kernel)) (pi_list (pv 4)) (blkOk_by (N := ["_law_script", "_law_spot", "_law_book", "_law_pair", "_law_some", "_law_told", "_law_kt", "_law_due"]) (sc := defScope s_law) (by decide +kernel)) (fun _ _ _ _ _ => (pg_name (i := 6) sc_law.nd rfl (Or.inl rfl))) (fun _ _ _ _ _ => pts_nil) (fun _ _ _ _ _ => (pe_callN G_type_text (hr.mono (by decide)) (by rfl) m_type_text k_type_text kb_type_text pass0 (pa_cons (pv 2) (pa_cons (pv 6) pa_nil)) (pk_cons (pe_tup (pa_cons pe_int pa_nil)) pk_nil))))
  (pss_cons (ps_set (i := 7) sc_law.nd rfl (Or.inl rfl) (pe_lst (pa_cons pe_str (pa_cons pe_str (pa_cons pe_str (pa_cons pe_str pa_nil))))))
  (pss_one (ps_ret (pe_and (pe_cmpR (op_eqD hr.units) (pv 5) (pv 7) (nomark _)) (pe_one (pe_cmpR op_eq (pe_call G_type_text (hr.mono (by decide)) rfl m_type_text k_type_text b_type_text hds_type_text pass0 (pa_cons (pv 2) (pa_cons (pe_tup (pa_cons pe_str (pa_cons pe_int (pa_cons (pe_tup (pa_cons (pe_tup (pa_cons pe_str (pa_cons pe_int (pa_cons (pe_tup (pa_cons (pe_tup (pa_cons pe_str (pa_cons (pe_tup pa_nil) pa_nil))) pa_nil)) pa_nil)))) pa_nil)) pa_nil)))) pa_nil))) pe_str (nomark _))))))))))), ?_⟩
  refine ⟨_, rfl, a, _, rfl, .inl hS, _, _, rfl, _, _, rfl, _, rfl, ?_, ?_, ?_⟩
  · split <;> split <;> omega
  · rw [List.length_map]
    split <;> split <;> omega
  refine for_range (lo := 0) (fun i σ H3 => ∃ s1 s2 s3 s4 s5 s6 s7, σ = [some (.ref a), s1, s2, s3, s4, s5, s6, s7] ∧ Same H H3) ⟨_, _, _, _, _, _, _, rfl, Same.refl _⟩ ?_ ?_
  · rintro i σ H3 hi ⟨s1, s2, s3, s4, s5, s6, s7, rfl, g3⟩
    have hi63 : i < 1000 := by
      refine Nat.lt_of_lt_of_le hi ?_
      rw [List.length_map]
      split <;> split <;> omega
    refine ⟨_, rfl, _, rfl, a, ns, i, congrArg (fun z => [V.ref a, V.int z]) (Int.zero_add (i : Int)), g3.seq hS, hi63, fun H4 h g4 hn hat => ?_⟩
    refine ⟨h, rfl, hat, fun H5 g5 => ⟨_, rfl, iteF ⟨_, _, _, _, _, _, _, rfl, g3.trans fun b o e => g5.1 b o (fun z => ?_) (g4 b o e)⟩⟩⟩
    rw [z, hn] at e
    cases e
  rintro σ H3 ⟨s1, s2, s3, s4, s5, s6, s7, rfl, _⟩
  refine fun x dx hx hdx hne => ⟨H3, x, dx, rfl, same_set (same_upd hdx _) hx _, hx, upd_same, fun H4 qa g4 hb hq => ⟨rfl, ?_⟩⟩
  have hBk : BookH K C H4 firstRows (.ref x) := ⟨x, dx, a0, qa, rs0, rfl, hb, R.sq _, R.all _, hq⟩
  refine ⟨z2, fun t1 h1 => ⟨z0, fun t2 h2 => ⟨z3, fun t3 h3 => ⟨z2, fun t4 h4 => ⟨z2, fun t5 h5 => ⟨z2, fun t6 h6 => ?_⟩⟩⟩⟩⟩⟩
  have w1 := same_upd h1 (.tup [.str "var", .int 0])
  have w2 := same_upd h2 (.tup [])
  have w3 := same_upd h3 (.tup [.str "made", .int 1, .ref t2])
  have w4 := same_upd h4 (.tup [.ref t1, .ref t3])
  have w5 := same_upd h5 (.tup [.str "tuple", .ref t4])
  have w6 := same_upd h6 (.tup [.ref x, .ref t5])
  have u5 := w5.trans w6
  have u4 := w4.trans u5
  have u3 := w3.trans u4
  have u2 := w2.trans u3
  have hP : TyH K _ pairT (.ref t5) := TyH.tup (tups_of w6 _ _ sq_new) (tups_of u5 _ _ sq_new) (.cons (TyH.var (n := 0) (tups_of u2 _ _ sq_new)) (.cons (TyH.made (s := 1) (tups_of u4 _ _ sq_new) (tups_of u3 _ _ sq_new) .nil) .nil))
  have hBk := hBk.mono (w1.trans u2)
  refine ⟨t6, _, rfl, sq_new, rfl, _, _, rfl, _, _, rfl, rfl, ?_⟩
  generalize upd _ t6 (.tup [.ref x, .ref t5]) = H5 at hP hBk
  clear w1 w2 w3 w4 w5 w6 u5 u4 u3 u2 h1 h2 h3 h4 h5 h6 hb hq g4 hx hdx
  refine ⟨_, rfl, z1, fun a1 h1 => ⟨z3, fun a2 h2 => ⟨_, rfl, _, rfl, z3, fun a3 h3 => ⟨_, rfl, _, rfl, z3, fun a4 h4 => ⟨z0, fun a5 h5 => ⟨z2, fun a6 h6 => ⟨z3, fun a7 h7 => ⟨_, rfl, z2, fun a8 h8 => ⟨z2, fun a9 h9 => ⟨z2, fun a10 h10 => ⟨z4, fun l hl => ?_⟩⟩⟩⟩⟩⟩⟩⟩⟩⟩⟩
  have w1 := same_upd h1 (.tup [.ref t5])
  have w2 := same_upd h2 (.tup [.str "made", .int 5, .ref a1])
  have w3 := same_upd h3 (.tup [.str "fn", .ref t5, .ref t5])
  have w4 := same_upd h4 (.tup [.str "fn", .ref t5, .ref t5])
  have w5 := same_upd h5 (.tup [])
  have w6 := same_upd h6 (.tup [.str "tuple", .ref a5])
  have w7 := same_upd h7 (.tup [.str "fn", .ref a4, .ref a6])
  have w8 := same_upd h8 (.tup [.str "var", .int 27])
  have w9 := same_upd h9 (.tup [.ref t5, .ref a8])
  have w10 := same_upd h10 (.tup [.str "tuple", .ref a9])
  have w11 := same_upd hl (.lst [.ref a2, .ref a3, .ref a7, .ref a10])
  have u10 := w10.trans w11
  have u9 := w9.trans u10
  have u8 := w8.trans u9
  have u7 := w7.trans u8
  have u6 := w6.trans u7
  have u5 := w5.trans u6
  have u4 := w4.trans u5
  have u3 := w3.trans u4
  have u2 := w2.trans u3
  have u1 := w1.trans u2
  have hP := hP.mono (tups_of u1)
  have hBk := hBk.mono u1
  have hS4 : TysH K _ someTs [.ref a2, .ref a3, .ref a7, .ref a10] := .cons (TyH.made (s := 5) (tups_of u3 _ _ sq_new) (tups_of u2 _ _ sq_new) (.cons hP .nil))
    (.cons (TyH.fn (tups_of u4 _ _ sq_new) hP hP) (.cons (TyH.fn (tups_of u8 _ _ sq_new) (TyH.fn (tups_of u5 _ _ sq_new) hP hP) (TyH.tup (tups_of u7 _ _ sq_new) (tups_of u6 _ _ sq_new) .nil))
    (.cons (TyH.tup (tups_of w11 _ _ sq_new) (tups_of u10 _ _ sq_new) (.cons hP (.cons (TyH.var (n := 27) (tups_of u9 _ _ sq_new)) .nil))) .nil)))
  generalize hH6 : upd _ l (.lst [.ref a2, .ref a3, .ref a7, .ref a10]) = H6 at hP hBk hS4 ⊢
  have hl6 : H6 l = some (HO.lst [.ref a2, .ref a3, .ref a7, .ref a10]) := by rw [← hH6]; exact upd_same
  clear w1 w2 w3 w4 w5 w6 w7 w8 w9 w10 w11 u10 u9 u8 u7 u6 u5 u4 u3 u2 u1 h1 h2 h3 h4 h5 h6 h7 h8 h9 h10 hl hP hH6
  refine ⟨_, rfl, l, rfl, ⟨_, SqL.of hl6⟩, fun Dl hDl => ?_⟩
  refine lc_list (K := K) (a := l) (xs := [.ref a2, .ref a3, .ref a7, .ref a10]) (fun i H7 => Same H6 H7 ∧ H7 Dl = some (.lst (((someTs.take i).map fun t => t.tx (nmR firstRows) [27] 0).map V.str))) ⟨same_upd hDl _, upd_same⟩ (fun i H7 _ z => SqL.of (z.1 _ _ hl6)) ?_ ?_
  · rintro i y H7 hy ⟨g7, h7⟩
    obtain ⟨t, hti, ht⟩ := hS4.get hy
    have hil := lt_of_get hti
    have hil : i < 4 := hil
    refine ⟨rfl, _, rfl, _, rfl, z1, fun tm htm => ⟨rfl, rfl, ?_⟩⟩
    have w := same_upd htm (.tup (natV [27]))
    have g8 := g7.trans w
    refine ⟨.ref x, y, firstRows, t, tm, [27], rfl, hBk.mono g8, ht.mono (tups_of g8), g_some t (List.mem_of_getElem? hti), sq_new, by decide +kernel, by decide, .cons (fun _ h => (nomatch h)) .nil, first_short, fun H9 g9 => ?_⟩
    refine ⟨_, (w.trans g9) _ _ h7, ?_, same_set (g8.trans g9) hDl _, ?_⟩
    · rw [List.length_map, List.length_map, List.length_take]
      exact small1000 (by omega)
    · rw [upd_same, take_snoc hti, List.map_append, List.map_append]
      rfl
  rintro H7 ⟨g7, h7⟩
  have h7 : H7 Dl = some (.lst (((someTs.take 4).map fun t => t.tx (nmR firstRows) [27] 0).map V.str)) := h7
  rw [show someTs.take 4 = someTs from rfl, due_told] at h7
  refine ⟨z4, fun l2 hl2 => ?_⟩
  have w8 := same_upd hl2 (.lst (dueS.map V.str))
  have dAll : ∀ (Hx : Hp) (ss : List Str), DpAll K Hx (ss.map V.str) (ss.map PyData.str) := fun Hx ss => by
    induction ss with
    | nil => exact .nil
    | cons s r ih => exact .cons (.str s) ih
  refine ⟨_, rfl, _, rfl, .list (dueS.map PyData.str), .list (dueS.map PyData.str), .lst (SqL.of (w8 _ _ h7)) (dAll _ dueS), .lst (SqL.of upd_same) (dAll _ dueS), due_shaped, due_shaped, _, rfl, ?_⟩
  rw [due_eqv]
  refine iteT ?_
  have hBk := hBk.mono (g7.trans w8)
  refine ⟨_, rfl, z0, fun b1 h1 => ⟨z2, fun b2 h2 => ⟨z1, fun b3 h3 => ⟨z3, fun b4 h4 => ⟨z1, fun b5 h5 => ⟨z3, fun b6 h6 => ?_⟩⟩⟩⟩⟩⟩
  have w1 := same_upd h1 (.tup [])
  have w2 := same_upd h2 (.tup [.str "tuple", .ref b1])
  have w3 := same_upd h3 (.tup [.ref b2])
  have w4 := same_upd h4 (.tup [.str "made", .int 5, .ref b3])
  have w5 := same_upd h5 (.tup [.ref b4])
  have w6 := same_upd h6 (.tup [.str "made", .int 6, .ref b5])
  have u5 := w5.trans w6
  have u4 := w4.trans u5
  have u3 := w3.trans u4
  have u2 := w2.trans u3
  have hT : TyH K _ lastT (.ref b6) := TyH.made (s := 6) sq_new (tups_of w6 _ _ sq_new) (.cons (TyH.made (s := 5) (tups_of u5 _ _ sq_new) (tups_of u4 _ _ sq_new) (.cons (TyH.tup (tups_of u3 _ _ sq_new) (tups_of u2 _ _ sq_new) .nil) .nil)) .nil)
  refine ⟨.ref x, _, firstRows, lastT, am, [], rfl, hBk.mono (w1.trans u2), hT, g_last, ham _, fun n h => (nomatch h), Nat.zero_le _, .nil, first_short, fun H9 g9 => ?_⟩
  rw [last_told]
  refine ⟨rfl, ?_⟩
  rw [decide_eq_true rfl]
  exact q _
end
end Lq
namespace Lq
open PySem L2
section
variable {P : Program} {w : World} {K : PySem.W.Frag} {mg : Str → Option Value} {base : Heap} {C D : Addr}
/-! ### all together -/
theorem law_all {a0 am am2 ak f_init f_sinit e : Addr} {fd_init fd_sinit ed : FuncData} {rs0 kw : List V} (F : Fun K "law" "law" s_law e ed) (F_init : Fun K "__init__" "Book.__init__" s_Book___init__ f_init fd_init) (b_init : Binds K fd_init ["self"] []) (F_sinit : Fun K "__init__" "Scheme.__init__" s_Scheme___init__ f_sinit fd_sinit) (b_sinit : Binds K fd_sinit ["self", "book", "marks", "body"] [])
    (A_is_integer : At K mg "is_integer" s_is_integer ["value"])
    (A_is_whole : At K mg "is_whole" s_is_whole ["value"])
    (A_is_place : At K mg "is_place" s_is_place ["value"])
    (A_is_ascending : At K mg "is_ascending" s_is_ascending ["value"])
    (A__is_word : At K mg "_is_word" s__is_word ["value"])
    (A_is_low : At K mg "is_low" s_is_low ["value"])
    (A_is_high : At K mg "is_high" s_is_high ["value"])
    (A_children : At K mg "children" sChildren ["T"])
    (A_with_children : At K mg "with_children" s_with_children ["T", "parts"])
    (A__parts_of : At K mg "_parts_of" s__parts_of ["value"])
    (A__made_in : At K mg "_made_in" s__made_in ["value"])
    (A_is_shape : At K mg "is_shape" s_is_shape ["value", "arities"])
    (A_nodes_of : At K mg "nodes_of" s_nodes_of ["T"])
    (A_outline : At K mg "outline" s_outline ["T"])
    (A_variables_in : At K mg "variables_in" s_variables_in ["T"])
    (A_replaced : At K mg "replaced" s_replaced ["T", "images"])
    (A_numbered : At K mg "numbered" s_numbered ["variables"])
    (A_is_arity : At K mg "is_arity" s_is_arity ["value"])
    (A_is_carried : At K mg "is_carried" s_is_carried ["value", "arity", "arities"])
    (A__is_outline : At K mg "_is_outline" s__is_outline ["value"])
    (A_are_constructors : At K mg "are_constructors" s_are_constructors ["value", "arity", "arities"])
    (A_check_book : At K mg "check_book" s_check_book ["book"])
    (A_is_type : At K mg "is_type" s_is_type ["book", "value"])
    (A_check_type : At K mg "check_type" s_check_type ["book", "T"])
    (A_check_marked : At K mg "check_marked" s_check_marked ["marked"])
    (A__variable_text : At K mg "_variable_text" s__variable_text ["number", "marked"])
    (A__parted : At K mg "_parted" s__parted ["types", "separator", "row"])
    (A__items_of : At K mg "_items_of" s__items_of ["book", "T", "row", "marked"])
    (A__made_items : At K mg "_made_items" s__made_items ["printed", "types"])
    (A_text_with : At K mg "text_with" s_text_with ["book", "T", "marked"])
    (A__law_hat : At K mg "_law_hat" s__law_hat ["_law_script", "_law_spot"])
    (A__law_lift : At K mg "_law_lift" s__law_lift ["_law_hat_here", "_law_total"])
    (A__law_choice : At K mg "_law_choice" s__law_choice ["_law_hat_here", "_law_items"])
    (A__law_rows : At K mg "_law_rows" s__law_rows ["_law_hat_here"])
    (A__law_table : At K mg "_law_table" s__law_table ["_law_rows_here"])
    (A__law_type : At K mg "_law_type" s__law_type ["_law_hat_here", "_law_count", "_law_deep"])
    (A__law_inner : At K mg "_law_inner" s__law_inner ["_law_kt"])
    (A__law_vars : At K mg "_law_vars" s__law_vars ["_law_kt"])
    (A__law_put : At K mg "_law_put" s__law_put ["_law_kt", "_law_types"])
    (A__law_numbered : At K mg "_law_numbered" s__law_numbered ["_law_types"])
    (A__law_letter : At K mg "_law_letter" s__law_letter ["_law_number", "_law_marked_in"])
    (A__law_closed : At K mg "_law_closed" s__law_closed ["_law_table_here", "_law_kt", "_law_marked_in"])
    (A__law_text : At K mg "_law_text" s__law_text ["_law_table_here", "_law_kt", "_law_marked_in"])
    (A__law_right : At K mg "_law_right" s__law_right ["_law_hat_here"])
    (M__row : AtM K C "_row" "Book._row" s_Book__row ["self", "stamp"])
    (M_with_stamps : AtM K C "with_stamps" "Book.with_stamps" s_Book_with_stamps ["self", "rows"])
    (M__extended : AtM K C "_extended" "Book._extended" s_Book__extended ["self", "rows"])
    (M_printed : AtM K C "printed" "Book.printed" s_Book_printed ["self", "stamp"])
    (M__check_body : AtM K D "_check_body" "Scheme._check_body" s_Scheme__check_body ["self", "book"])
    (M_text : AtM K D "text" "Scheme.text" s_Scheme_text ["self", "book"])
    (A_type_text : AtD K mg "type_text" s_type_text [("marked", .ref am)]) (A_of : AtC K D "of" "Scheme.of" s_Scheme_of [("marked", .ref am2)]) (B : Bi mg) (B2 : Bi2 mg) (Cr_ : Cr mg) (S_ : Sk K mg D) (T_Scheme : mg "Scheme" = some (.ref D)) (M_Scheme : Mk K D f_sinit) (Cc : Ct K mg) (T : Bk K mg C) (W : Kw K mg ak kw) (kwo : KwOk kw) (R : Fr K mg a0 rs0) (M_Book : Mk K C f_init) (ham : ∀ H, SqT K H am []) : FnOk P w K mg base CX0 44 e ed ["_law_script"] (spLaw K) := by
  have d_int := ok_is_integer (P := P) (w := w) (base := base) A_is_integer B Cc
  have d_whole := ok_is_whole A_is_whole d_int
  have d_place := ok_is_place A_is_place B d_whole
  have d_asc := ok_is_ascending A_is_ascending B d_place
  have d_word := ok_is_word (P := P) (w := w) (base := base) A__is_word B Cc
  have d_low := ok_is_low A_is_low B Cc W d_word
  have d_high := ok_is_high A_is_high B Cc d_word
  have d_children := ok_children (P := P) (w := w) (base := base) A_children
  have d_with := ok_with (P := P) (w := w) (base := base) A_with_children
  have d_parts := ok_parts_of A__parts_of B d_int d_whole
  have d_made := ok_made_in A__made_in B Cc d_parts
  have d_shape := ok_is_shape A_is_shape B d_made
  have d_nodes := ok_nodes_of A_nodes_of B d_children
  have d_outl := ok_outline A_outline B d_nodes d_children
  have d_vars := ok_variables_in A_variables_in B d_nodes
  have d_varsO := ok_variables_o A_variables_in B d_nodes
  have d_repl := ok_replaced A_replaced B d_children d_with
  have d_numb := ok_numbered (P := P) (w := w) (base := base) A_numbered B
  have d_arity := ok_is_arity A_is_arity B Cc d_int
  have d_carried := ok_is_carried A_is_carried B d_shape d_vars
  have d_outline := ok_is_outline A__is_outline B d_low d_arity d_asc
  have d_cons := ok_are_constructors A_are_constructors B d_high d_carried
  have d_row := ok_row M__row B T d_int
  have d_printed := ok_printed M_printed B T d_row
  have d_cb := ok_check_book (P := P) (w := w) (base := base) A_check_book B T
  have d_it := ok_is_type A_is_type B T d_cb d_shape
  have d_ct := ok_check_type A_check_type d_it
  have d_cm := ok_check_marked A_check_marked d_asc
  have d_vt := ok_variable_text (P := P) (w := w) (base := base) A__variable_text B Cc
  have d_parted := ok_parted (P := P) (w := w) (base := base) A__parted
  have d_mi := ok_made_items A__made_items B Cr_ d_parted
  have d_items := ok_items_of A__items_of B Cr_ T d_vt d_parted d_mi d_printed
  have d_tw := ok_text_with A_text_with B Cr_ d_items
  have d_tt := ok_type_text A_type_text d_ct d_cm d_tw
  have g_init := ok_init (P := P) (w := w) (base := base) F_init B T R
  have d_ext := ok_extended M__extended B T R M_Book g_init b_init
  have d_st := ok_with_stamps M_with_stamps B T d_outline d_cons d_ext
  have g_sinit := ok_sinit F_sinit B S_ d_cb d_asc d_it d_varsO d_outl
  have d_of := ok_of A_of B M_Scheme g_sinit b_sinit d_ct d_cm d_varsO d_numb d_repl
  have d_cbody := ok_check_body M__check_body S_ d_cb d_it
  have d_stext := ok_stext M_text S_ d_tw d_cbody
  have d_hat := ok_hat (P := P) (w := w) (base := base) A__law_hat B
  have d_lift := ok_lift (P := P) (w := w) (base := base) A__law_lift B
  have d_choice := ok_choice A__law_choice B d_lift
  have d_rows := ok_rows A__law_rows B d_choice
  have d_table := ok_table (P := P) (w := w) (base := base) A__law_table B
  have d_t4 := ok_type A__law_type B d_lift d_choice 4
  have d_t3 := ok_type A__law_type B d_lift d_choice 3
  have d_inner := ok_inner (P := P) (w := w) (base := base) A__law_inner
  have d_lvars := ok_lvars A__law_vars B d_inner 40
  have d_lput := ok_lput A__law_put B B2 d_inner 4
  have d_lnum := ok_lnum A__law_numbered B B2 d_lvars d_lput
  have d_letter := ok_letter (P := P) (w := w) (base := base) A__law_letter B
  have d_ltext := ok_ltext A__law_text B A__law_closed d_letter 4
  have d_right := ok_right A__law_right B B2 T S_ T_Scheme R kwo M_Book g_init b_init d_st d_rows d_table d_t4 d_t3 d_choice d_lput d_ltext d_lvars d_lnum d_tt d_of d_stext
  exact ok_law F B T R M_Book ham g_init b_init d_hat d_right d_tt
end
/-! ### what the top has left -/
theorem at_mk {K : PySem.W.Frag} {h : Heap} {mg : Str → Option Value} {x : Str} {st : Stmt} {ps : List Str} {f : Addr} {od an : Option Addr} {sl : Array (Option Value)} {oc kV dc pm cd ct : Value} (X : K.In h) (G : h.Ns mainGlobals mg)
    (a : PySem.W.nsIn K mainGlobals x = some (some (.ref f))) (l : K.lookup f = some ⟨oc, od, .func (PySem.W.fnOf x x (defArgs st) (defBody st) (defScope st) .none kV dc pm an cd ct), sl⟩) (c : PySem.W.codeIn K cd x = true) (k : PySem.W.keepIn K (.ref f) = true)
    (b : ∀ (kV doc pm : Value) (an : Option Addr) (cdv ct : Value) (us : List Value), us.length = ps.length → bindArgs (PySem.W.fnOf x x (defArgs st) (defBody st) (defScope st) .none kV doc pm an cdv ct) ⟨us, []⟩ = pure (ps.zip us)) : At K mg x st ps :=
  ⟨f, _, fun_mk (st := st) l c k, PySem.W.mg_of X G a, (fun_mk (st := st) l c k).binds b⟩
theorem atm_mk {K : PySem.W.Frag} {x q : Str} {st : Stmt} {ps : List Str} {C f : Addr} {od an : Option Addr} {sl : Array (Option Value)} {oc kV dc pm cd ct : Value}
    (a : PySem.W.findIn K (.ref C) x = some (some (.ref f))) (i : PySem.W.isFn K (.ref f) = true) (l : K.lookup f = some ⟨oc, od, .func (PySem.W.fnOf x q (defArgs st) (defBody st) (defScope st) .none kV dc pm an cd ct), sl⟩) (c : PySem.W.codeIn K cd q = true) (k : PySem.W.keepIn K (.ref f) = true)
    (b : ∀ (kV doc pm : Value) (an : Option Addr) (cdv ct : Value) (us : List Value), us.length = ps.length → bindArgs (PySem.W.fnOf x q (defArgs st) (defBody st) (defScope st) .none kV doc pm an cdv ct) ⟨us, []⟩ = pure (ps.zip us)) : AtM K C x q st ps :=
  ⟨f, _, fun_mk (st := st) l c k, ⟨a, i, k⟩, (fun_mk (st := st) l c k).binds b⟩
theorem atd_mk {K : PySem.W.Frag} {h : Heap} {mg : Str → Option Value} {x y : Str} {st : Stmt} {f D am : Addr} {od an : Option Addr} {sl : Array (Option Value)} {oc dc pm cd ct : Value} (X : K.In h) (G : h.Ns mainGlobals mg)
    (a : PySem.W.nsIn K mainGlobals x = some (some (.ref f))) (l : K.lookup f = some ⟨oc, od, .func (PySem.W.fnOf x x (defArgs st) (defBody st) (defScope st) .none (.ref D) dc pm an cd ct), sl⟩) (c : PySem.W.codeIn K cd x = true) (k : PySem.W.keepIn K (.ref f) = true)
    (n : PySem.W.nsIn K D y = some (some (.ref am))) : AtD K mg x st [(y, .ref am)] :=
  ⟨f, _, ⟨⟨oc, od, .none, .ref D, dc, pm, an, cd, ct, sl, rfl, l, c, .inl ⟨rfl, rfl⟩, .inr ⟨D, rfl, fun q hq => by
    rw [List.mem_singleton.mp hq]
    exact ⟨_, n, rfl⟩⟩⟩, k⟩, PySem.W.mg_of X G a⟩
theorem atc_mk {K : PySem.W.Frag} {x q y : Str} {st : Stmt} {D p g E am : Addr} {rest : List Value} {od an : Option Addr} {sl : Array (Option Value)} {oc dc pm cd ct : Value} (rd : PySem.W.readsIn K D (.type "type") = true) (ga : PySem.W.specialIn K (.ref D) "__getattribute__" = some (some (.builtin "type.__getattribute__")))
    (a : PySem.W.findCls K (.ref D) (.type "type") x = some (.get (.builtin "classmethod.__get__") (.ref p) .none (.ref D))) (rc : PySem.W.recIn K p "classmethod" = some (.ref g :: rest)) (fi : PySem.W.fnIn K g = true)
    (l : K.lookup g = some ⟨oc, od, .func (PySem.W.fnOf x q (defArgs st) (defBody st) (defScope st) .none (.ref E) dc pm an cd ct), sl⟩) (c : PySem.W.codeIn K cd q = true) (k : PySem.W.keepIn K (.ref g) = true)
    (n : PySem.W.nsIn K E y = some (some (.ref am))) : AtC K D x q st [(y, .ref am)] :=
  ⟨.type "type", p, g, _, ⟨rd, ga⟩, ⟨a, ⟨rest, rc⟩, fi⟩, ⟨⟨oc, od, .none, .ref E, dc, pm, an, cd, ct, sl, rfl, l, c, .inl ⟨rfl, rfl⟩, .inr ⟨E, rfl, fun q hq => by
    rw [List.mem_singleton.mp hq]
    exact ⟨_, n, rfl⟩⟩⟩, k⟩⟩
/-- a tuple that the top has made -/
theorem tup_mk {K : PySem.W.Frag} {a : Addr} {od : Option Addr} {its : Array Value} {n : Nat} {sl : Array (Option Value)} {xs : List V} (l : K.lookup a = some ⟨.type "tuple", od, .seq its n, sl⟩) (hv : Vals xs its.toList) (hs : its.size ≤ sizeLine) : ∀ H, SqT K H a xs := fun H => .inr ⟨_, its, n, l, rfl, rfl, hs, hv⟩
theorem kit_self {K : PySem.W.Frag} {C : Addr} : PySem.W.kitOne K (.ref C) (.ref C) = some true := if_pos (by simp)
def kwds : List V := [.str "and", .str "andalso", .str "as", .str "case", .str "datatype", .str "div", .str "do", .str "else", .str "end", .str "eqtype", .str "exception", .str "fn", .str "functor", .str "handle", .str "if", .str "in", .str "include", .str "let", .str "mod", .str "of", .str "open", .str "orelse", .str "print", .str "raise", .str "read", .str "rec", .str "ref", .str "sig", .str "signature", .str "struct", .str "structure", .str "text", .str "then", .str "type", .str "unit", .str "val", .str "when", .str "where", .str "while"]
theorem kw_ok : KwOk kwds := ⟨by decide +kernel, by decide +kernel, by decide +kernel⟩
theorem kw_flat : kwds.all flatV = true := by decide +kernel
theorem walk {l : PySem.W.OpenLaw} {q : Program} {loose : List Str} {XP : (Str → Option Value) → Heap → Prop} {YP : World → Heap → Prop} {d : DefRec} {K : Params → PySem.W.Frag} (hn : l.most = some 63) (hdf : d.params.defaults = [])
    (hY : ∀ (w : World) (h : Heap), YP w h → (K w.params).In h)
    (F : ∀ (w : World) (mg : Str → Option Value) (fa : Addr) (h : Heap), (K w.params).In h → h.Ns mainGlobals mg → mg d.name = some (.ref fa) →
      ∃ fd : FuncData, (∀ (s : Shared) (u : Value), BindsTo s fd ⟨[u], []⟩ [("_law_script", u)]) ∧ ∀ base : Heap, (K w.params).In base → base.Ns mainGlobals mg → FnOk l.prog w (K w.params) mg base CX0 44 fa fd ["_law_script"] (spLaw (K w.params))) :
    PySem.W.WalkO q loose XP YP l.row.toRowW d [] (fun f vs => PySem.call f vs) :=
  L2.walk_of (n := 63) (k := 44) (x := "_law_script") (CX := fun _ => CX0) (sp := fun w => spLaw (K w.params)) hn (by decide) hdf ⟨rfl, by decide, by decide⟩ hY F
    (fun _ _ a ns hl _ hS => ⟨a, ns, rfl, hS, hl, fun _ => rfl⟩) fun _ _ _ _ _ z => z
end Lq
namespace Lq
open PySem L2
theorem cr_mk {K : PySem.W.Frag} {h : Heap} {mg : Str → Option Value} {t1 t2 t3 : Tok} (X : K.In h) (G : h.Ns mainGlobals mg) (b1 : PySem.W.nsIn K mainGlobals "FN_ROW" = some (some (.int 0 t1))) (b2 : PySem.W.nsIn K mainGlobals "TUPLE_ROW" = some (some (.int 1 t2))) (b3 : PySem.W.nsIn K mainGlobals "NAME_ROW" = some (some (.int 2 t3))) : Cr mg :=
  ⟨⟨t1, PySem.W.mg_of X G b1⟩, ⟨t2, PySem.W.mg_of X G b2⟩, ⟨t3, PySem.W.mg_of X G b3⟩⟩
theorem ct_mk {K : PySem.W.Frag} {h : Heap} {mg : Str → Option Value} {t1 t2 t3 t4 t5 t6 : Tok} (X : K.In h) (G : h.Ns mainGlobals mg) (b : PySem.W.nsIn K mainGlobals "BEYOND" = some (some (.int 1000000000000000000000000000000000000000000000000000000000000 t1))) (s : PySem.W.nsIn K mainGlobals "MAX_SIZE" = some (some (.int 300 t2)))
    (a : PySem.W.nsIn K mainGlobals "MAX_ARITY" = some (some (.int 4 t3))) (n : PySem.W.nsIn K mainGlobals "LONGEST_NAME" = some (some (.int 8 t4))) (lo : PySem.W.nsIn K mainGlobals "LOW_LETTERS" = some (some (.str "abcdefghijklmnopqrstuvwxyz" t5)))
    (hi : PySem.W.nsIn K mainGlobals "HIGH_LETTERS" = some (some (.str "ABCDEFGHIJKLMNOPQRSTUVWXYZ" t6))) : Ct K mg :=
  ⟨⟨t1, by rw [show ((10 : Int) ^ 60) = 1000000000000000000000000000000000000000000000000000000000000 by decide +kernel]; exact PySem.W.mg_of X G b⟩, ⟨t2, PySem.W.mg_of X G s⟩, ⟨t3, PySem.W.mg_of X G a⟩, ⟨t4, PySem.W.mg_of X G n⟩, ⟨t5, PySem.W.mg_of X G lo⟩, ⟨t6, PySem.W.mg_of X G hi⟩⟩
theorem fr_mk {K : PySem.W.Frag} {h : Heap} {mg : Str → Option Value} {a0 p1 p2 p3 p4 p5 p6 e1 e2 e3 e5 e6 c3 c5 : Addr} {d0 d1 d2 d3 d4 d5 d6 dm1 dm2 dm3 dm5 dm6 : Option Addr} {n0 n1 n2 n3 n4 n5 n6 nm1 nm2 nm3 nm5 nm6 : Nat} {s0 s1 s2 s3 s4 s5 s6 sm1 sm2 sm3 sm5 sm6 : Array (Option Value)} {t1 u1 t2 u2 t3 u3 t4 u4 t5 u5 x5 t6 u6 : Tok} (X : K.In h) (G : h.Ns mainGlobals mg)
    (a : PySem.W.nsIn K mainGlobals "FIRST_ROWS" = some (some (.ref a0)))
    (l0 : K.lookup a0 = some ⟨.type "tuple", d0, .seq #[.ref p1, .ref p2, .ref p3, .ref p4, .ref p5, .ref p6] n0, s0⟩)
    (l1 : K.lookup p1 = some ⟨.type "tuple", d1, .seq #[.str "int" t1, .int 0 u1, .ref e1, .none] n1, s1⟩)
    (m1 : K.lookup e1 = some ⟨.type "tuple", dm1, .seq #[] nm1, sm1⟩)
    (l2 : K.lookup p2 = some ⟨.type "tuple", d2, .seq #[.str "string" t2, .int 0 u2, .ref e2, .none] n2, s2⟩)
    (m2 : K.lookup e2 = some ⟨.type "tuple", dm2, .seq #[] nm2, sm2⟩)
    (l3 : K.lookup p3 = some ⟨.type "tuple", d3, .seq #[.str "bool" t3, .int 0 u3, .ref e3, .ref c3] n3, s3⟩)
    (m3 : K.lookup e3 = some ⟨.type "tuple", dm3, .seq #[] nm3, sm3⟩)
    (l4 : K.lookup p4 = some ⟨.type "tuple", d4, .seq #[.str "exn" t4, .int 0 u4, .none, .none] n4, s4⟩)
    (l5 : K.lookup p5 = some ⟨.type "tuple", d5, .seq #[.str "list" t5, .int 1 u5, .ref e5, .ref c5] n5, s5⟩)
    (m5 : K.lookup e5 = some ⟨.type "tuple", dm5, .seq #[.int 0 x5] nm5, sm5⟩)
    (l6 : K.lookup p6 = some ⟨.type "tuple", d6, .seq #[.str "ref" t6, .int 1 u6, .ref e6, .none] n6, s6⟩)
    (m6 : K.lookup e6 = some ⟨.type "tuple", dm6, .seq #[] nm6, sm6⟩) : Fr K mg a0 [.ref p1, .ref p2, .ref p3, .ref p4, .ref p5, .ref p6] :=
  ⟨PySem.W.mg_of X G a, tup_mk (xs := [.ref p1, .ref p2, .ref p3, .ref p4, .ref p5, .ref p6]) l0 (.cons rfl (.cons rfl (.cons rfl (.cons rfl (.cons rfl (.cons rfl .nil)))))) (by show 6 ≤ sizeLine; decide), fun H => ⟨_, _, rfl, ⟨p1, .str "int", .ref e1, .non, rfl, tup_mk (xs := [.str "int", .int 0, .ref e1, .non]) l1 (.cons ⟨_, rfl⟩ (.cons ⟨_, rfl⟩ (.cons rfl (.cons rfl .nil)))) (by show 4 ≤ sizeLine; decide) H, ⟨e1, rfl, tup_mk (xs := []) m1 (.nil) (by show 0 ≤ sizeLine; decide) H⟩, rfl⟩,
    _, _, rfl, ⟨p2, .str "string", .ref e2, .non, rfl, tup_mk (xs := [.str "string", .int 0, .ref e2, .non]) l2 (.cons ⟨_, rfl⟩ (.cons ⟨_, rfl⟩ (.cons rfl (.cons rfl .nil)))) (by show 4 ≤ sizeLine; decide) H, ⟨e2, rfl, tup_mk (xs := []) m2 (.nil) (by show 0 ≤ sizeLine; decide) H⟩, rfl⟩,
    _, _, rfl, ⟨p3, .str "bool", .ref e3, .ref c3, rfl, tup_mk (xs := [.str "bool", .int 0, .ref e3, .ref c3]) l3 (.cons ⟨_, rfl⟩ (.cons ⟨_, rfl⟩ (.cons rfl (.cons rfl .nil)))) (by show 4 ≤ sizeLine; decide) H, ⟨e3, rfl, tup_mk (xs := []) m3 (.nil) (by show 0 ≤ sizeLine; decide) H⟩, rfl⟩,
    _, _, rfl, ⟨p4, .str "exn", .non, .non, rfl, tup_mk (xs := [.str "exn", .int 0, .non, .non]) l4 (.cons ⟨_, rfl⟩ (.cons ⟨_, rfl⟩ (.cons rfl (.cons rfl .nil)))) (by show 4 ≤ sizeLine; decide) H, rfl, rfl⟩,
    _, _, rfl, ⟨p5, .str "list", .ref e5, .ref c5, rfl, tup_mk (xs := [.str "list", .int 1, .ref e5, .ref c5]) l5 (.cons ⟨_, rfl⟩ (.cons ⟨_, rfl⟩ (.cons rfl (.cons rfl .nil)))) (by show 4 ≤ sizeLine; decide) H, ⟨e5, rfl, tup_mk (xs := [.int 0]) m5 (.cons ⟨_, rfl⟩ .nil) (by show 1 ≤ sizeLine; decide) H⟩, rfl⟩,
    _, _, rfl, ⟨p6, .str "ref", .ref e6, .non, rfl, tup_mk (xs := [.str "ref", .int 1, .ref e6, .non]) l6 (.cons ⟨_, rfl⟩ (.cons ⟨_, rfl⟩ (.cons rfl (.cons rfl .nil)))) (by show 4 ≤ sizeLine; decide) H, ⟨e6, rfl, tup_mk (xs := []) m6 (.nil) (by show 0 ≤ sizeLine; decide) H⟩, rfl⟩, rfl⟩⟩
theorem fin {l : PySem.W.OpenLaw} {w : World} {K : PySem.W.Frag} {h : Heap} {mg : Str → Option Value} {fa C D a0 am am2 ak fL fI fS : Addr} {rs0 : List V} {odL anL odI anI odS anS odM : Option Addr} {slL slI slS slM : Array (Option Value)} {ocL kVL dcL pmL cdL ctL ocI kVI dcI pmI cdI ctI ocS kVS dcS pmS cdS ctS : Value} {nM : Nat}
    (X : K.In h) (G : h.Ns mainGlobals mg) (hfa : mg "law" = some (.ref fa))
    (aL : PySem.W.nsIn K mainGlobals "law" = some (some (.ref fL))) (lL : K.lookup fL = some ⟨ocL, odL, .func (PySem.W.fnOf "law" "law" (defArgs s_law) (defBody s_law) (defScope s_law) .none kVL dcL pmL anL cdL ctL), slL⟩) (cL : PySem.W.codeIn K cdL "law" = true) (kL : PySem.W.keepIn K (.ref fL) = true)
    (aC : PySem.W.nsIn K mainGlobals "Book" = some (some (.ref C)))
    (aI : PySem.W.findIn K (.ref C) "__init__" = some (some (.ref fI))) (iI : PySem.W.isFn K (.ref fI) = true) (lI : K.lookup fI = some ⟨ocI, odI, .func (PySem.W.fnOf "__init__" "Book.__init__" (defArgs s_Book___init__) (defBody s_Book___init__) (defScope s_Book___init__) .none kVI dcI pmI anI cdI ctI), slI⟩) (cI : PySem.W.codeIn K cdI "Book.__init__" = true) (kI : PySem.W.keepIn K (.ref fI) = true)
    (mk : PySem.W.makesIn K C = true) (kC : PySem.W.keepIn K (.ref C) = true)
    (aD : PySem.W.nsIn K mainGlobals "Scheme" = some (some (.ref D)))
    (aS : PySem.W.findIn K (.ref D) "__init__" = some (some (.ref fS))) (iS : PySem.W.isFn K (.ref fS) = true) (lS : K.lookup fS = some ⟨ocS, odS, .func (PySem.W.fnOf "__init__" "Scheme.__init__" (defArgs s_Scheme___init__) (defBody s_Scheme___init__) (defScope s_Scheme___init__) .none kVS dcS pmS anS cdS ctS), slS⟩) (cS : PySem.W.codeIn K cdS "Scheme.__init__" = true) (kS : PySem.W.keepIn K (.ref fS) = true)
    (mkS : PySem.W.makesIn K D = true) (kD : PySem.W.keepIn K (.ref D) = true)
    (A_type_text : AtD K mg "type_text" s_type_text [("marked", .ref am)]) (A_of : AtC K D "of" "Scheme.of" s_Scheme_of [("marked", .ref am2)]) (lM : K.lookup am = some ⟨.type "tuple", odM, .seq #[] nM, slM⟩)
    (A_is_integer : At K mg "is_integer" s_is_integer ["value"])
    (A_is_whole : At K mg "is_whole" s_is_whole ["value"])
    (A_is_place : At K mg "is_place" s_is_place ["value"])
    (A_is_ascending : At K mg "is_ascending" s_is_ascending ["value"])
    (A__is_word : At K mg "_is_word" s__is_word ["value"])
    (A_is_low : At K mg "is_low" s_is_low ["value"])
    (A_is_high : At K mg "is_high" s_is_high ["value"])
    (A_children : At K mg "children" sChildren ["T"])
    (A_with_children : At K mg "with_children" s_with_children ["T", "parts"])
    (A__parts_of : At K mg "_parts_of" s__parts_of ["value"])
    (A__made_in : At K mg "_made_in" s__made_in ["value"])
    (A_is_shape : At K mg "is_shape" s_is_shape ["value", "arities"])
    (A_nodes_of : At K mg "nodes_of" s_nodes_of ["T"])
    (A_outline : At K mg "outline" s_outline ["T"])
    (A_variables_in : At K mg "variables_in" s_variables_in ["T"])
    (A_replaced : At K mg "replaced" s_replaced ["T", "images"])
    (A_numbered : At K mg "numbered" s_numbered ["variables"])
    (A_is_arity : At K mg "is_arity" s_is_arity ["value"])
    (A_is_carried : At K mg "is_carried" s_is_carried ["value", "arity", "arities"])
    (A__is_outline : At K mg "_is_outline" s__is_outline ["value"])
    (A_are_constructors : At K mg "are_constructors" s_are_constructors ["value", "arity", "arities"])
    (A_check_book : At K mg "check_book" s_check_book ["book"])
    (A_is_type : At K mg "is_type" s_is_type ["book", "value"])
    (A_check_type : At K mg "check_type" s_check_type ["book", "T"])
    (A_check_marked : At K mg "check_marked" s_check_marked ["marked"])
    (A__variable_text : At K mg "_variable_text" s__variable_text ["number", "marked"])
    (A__parted : At K mg "_parted" s__parted ["types", "separator", "row"])
    (A__items_of : At K mg "_items_of" s__items_of ["book", "T", "row", "marked"])
    (A__made_items : At K mg "_made_items" s__made_items ["printed", "types"])
    (A_text_with : At K mg "text_with" s_text_with ["book", "T", "marked"])
    (A__law_hat : At K mg "_law_hat" s__law_hat ["_law_script", "_law_spot"])
    (A__law_lift : At K mg "_law_lift" s__law_lift ["_law_hat_here", "_law_total"])
    (A__law_choice : At K mg "_law_choice" s__law_choice ["_law_hat_here", "_law_items"])
    (A__law_rows : At K mg "_law_rows" s__law_rows ["_law_hat_here"])
    (A__law_table : At K mg "_law_table" s__law_table ["_law_rows_here"])
    (A__law_type : At K mg "_law_type" s__law_type ["_law_hat_here", "_law_count", "_law_deep"])
    (A__law_inner : At K mg "_law_inner" s__law_inner ["_law_kt"])
    (A__law_vars : At K mg "_law_vars" s__law_vars ["_law_kt"])
    (A__law_put : At K mg "_law_put" s__law_put ["_law_kt", "_law_types"])
    (A__law_numbered : At K mg "_law_numbered" s__law_numbered ["_law_types"])
    (A__law_letter : At K mg "_law_letter" s__law_letter ["_law_number", "_law_marked_in"])
    (A__law_closed : At K mg "_law_closed" s__law_closed ["_law_table_here", "_law_kt", "_law_marked_in"])
    (A__law_text : At K mg "_law_text" s__law_text ["_law_table_here", "_law_kt", "_law_marked_in"])
    (A__law_right : At K mg "_law_right" s__law_right ["_law_hat_here"])
    (M__row : AtM K C "_row" "Book._row" s_Book__row ["self", "stamp"])
    (M_with_stamps : AtM K C "with_stamps" "Book.with_stamps" s_Book_with_stamps ["self", "rows"])
    (M__extended : AtM K C "_extended" "Book._extended" s_Book__extended ["self", "rows"])
    (M_printed : AtM K C "printed" "Book.printed" s_Book_printed ["self", "stamp"])
    (M__check_body : AtM K D "_check_body" "Scheme._check_body" s_Scheme__check_body ["self", "book"])
    (M_text : AtM K D "text" "Scheme.text" s_Scheme_text ["self", "book"])
    (B : Bi mg) (B2 : Bi2 mg) (Cr_ : Cr mg) (S_ : Sk K mg D) (Cc : Ct K mg) (T : Bk K mg C) (W : Kw K mg ak kwds) (R : Fr K mg a0 rs0) :
    ∃ fd : FuncData, (∀ (s : Shared) (v : Value), BindsTo s fd ⟨[v], []⟩ [("_law_script", v)]) ∧ ∀ base : Heap, K.In base → base.Ns mainGlobals mg → FnOk l.prog w K mg base CX0 44 fa fd ["_law_script"] (spLaw K) := by
  have e := hfa.symm.trans (PySem.W.mg_of X G aL)
  cases e
  have FI := fun_mk (st := s_Book___init__) lI cI kI
  have bI := FI.binds (ps := ["self"]) fun _ _ _ _ _ _ us hl => match us, hl with | [_], _ => rfl
  have FS := fun_mk (st := s_Scheme___init__) lS cS kS
  have bS := FS.binds (ps := ["self", "book", "marks", "body"]) fun _ _ _ _ _ _ us hl => match us, hl with | [_, _, _, _], _ => rfl
  refine ⟨PySem.W.fnOf "law" "law" (defArgs s_law) (defBody s_law) (defScope s_law) .none kVL dcL pmL anL cdL ctL, fun s v => .of_eq rfl, fun base _ _ => ?_⟩
  exact law_all (fun_mk (st := s_law) lL cL kL) FI bI FS bS A_is_integer A_is_whole A_is_place A_is_ascending A__is_word A_is_low A_is_high A_children A_with_children A__parts_of A__made_in A_is_shape A_nodes_of A_outline A_variables_in A_replaced A_numbered A_is_arity A_is_carried A__is_outline A_are_constructors A_check_book A_is_type A_check_type A_check_marked A__variable_text A__parted A__items_of A__made_items A_text_with A__law_hat A__law_lift A__law_choice A__law_rows A__law_table A__law_type A__law_inner A__law_vars A__law_put A__law_numbered A__law_letter A__law_closed A__law_text A__law_right M__row M_with_stamps M__extended M_printed M__check_body M_text A_type_text A_of B B2 Cr_ S_ (PySem.W.mg_of X G aD) ⟨mkS, aS, iS, kD⟩ Cc T W kw_ok R ⟨mk, aI, iI, kC⟩ (tup_mk (xs := []) lM .nil (by show 0 ≤ sizeLine; decide))
end Lq
open PySem PySem.W PyProof.Rows
set_option maxRecDepth 100000 in
set_option maxHeartbeats 0 in
theorem PySem.Challenge.cw_letquay_k11_whole_texts_of_types_holds : PySem.Challenge.rw_letquay_k11_whole_texts_of_types.Holds := by
  w_on; o_law; k_head; (case hw => w_witness2)
  k_fill
  refine Lq.walk (l := PySem.Challenge.rw_letquay_k11_whole_texts_of_types) rfl rfl (fun w h Y => PySem.W.kIn_of Y) ?F
  case F =>
    intro w mg fa h KX G hmg
    refine' Lq.fin KX G hmg ?aL ?lL ?cL ?kL ?aC ?aI ?iI ?lI ?cI ?kI ?mk ?kC ?aD ?aS ?iS ?lS ?cS ?kS ?mkS ?kD ?A_type_text ?A_of ?lM ?A_is_integer ?A_is_whole ?A_is_place ?A_is_ascending ?A__is_word ?A_is_low ?A_is_high ?A_children ?A_with_children ?A__parts_of ?A__made_in ?A_is_shape ?A_nodes_of ?A_outline ?A_variables_in ?A_replaced ?A_numbered ?A_is_arity ?A_is_carried ?A__is_outline ?A_are_constructors ?A_check_book ?A_is_type ?A_check_type ?A_check_marked ?A__variable_text ?A__parted ?A__items_of ?A__made_items ?A_text_with ?A__law_hat ?A__law_lift ?A__law_choice ?A__law_rows ?A__law_table ?A__law_type ?A__law_inner ?A__law_vars ?A__law_put ?A__law_numbered ?A__law_letter ?A__law_closed ?A__law_text ?A__law_right ?M__row ?M_with_stamps ?M__extended ?M_printed ?M__check_body ?M_text ?B ?B2 ?Cr_ ?S_ ?Cc ?T ?W ?R
    (case aL => k_is)
    (case lL => k_is)
    (case cL => k_is)
    (case kL => k_is)
    (case aC => k_is)
    (case aI => k_is)
    (case iI => k_is)
    (case lI => k_is)
    (case cI => k_is)
    (case kI => k_is)
    (case mk => k_is)
    (case kC => k_is)
    (case aD => k_is)
    (case aS => k_is)
    (case iS => k_is)
    (case lS => k_is)
    (case cS => k_is)
    (case kS => k_is)
    (case mkS => k_is)
    (case kD => k_is)
    (case A_of => refine' Lq.atc_mk ?rd ?ga ?a ?rc ?fi ?l ?c ?k ?n; (case rd => k_is); (case ga => k_is); (case a => k_is); (case rc => k_is); (case fi => k_is); (case l => k_is); (case c => k_is); (case k => k_is); (case n => k_is))
    (case A_type_text => refine' Lq.atd_mk KX G ?a ?l ?c ?k ?n; (case a => k_is); (case l => k_is); (case c => k_is); (case k => k_is); (case n => k_is))
    (case lM => k_is)
    (case A_is_integer => refine' Lq.at_mk KX G ?a ?l ?c ?k ?b; (case a => k_is); (case l => k_is); (case c => k_is); (case k => k_is); (case b => exact fun _ _ _ _ _ _ us hl => match us, hl with | [_], _ => rfl))
    (case A_is_whole => refine' Lq.at_mk KX G ?a ?l ?c ?k ?b; (case a => k_is); (case l => k_is); (case c => k_is); (case k => k_is); (case b => exact fun _ _ _ _ _ _ us hl => match us, hl with | [_], _ => rfl))
    (case A_is_place => refine' Lq.at_mk KX G ?a ?l ?c ?k ?b; (case a => k_is); (case l => k_is); (case c => k_is); (case k => k_is); (case b => exact fun _ _ _ _ _ _ us hl => match us, hl with | [_], _ => rfl))
    (case A_is_ascending => refine' Lq.at_mk KX G ?a ?l ?c ?k ?b; (case a => k_is); (case l => k_is); (case c => k_is); (case k => k_is); (case b => exact fun _ _ _ _ _ _ us hl => match us, hl with | [_], _ => rfl))
    (case A__is_word => refine' Lq.at_mk KX G ?a ?l ?c ?k ?b; (case a => k_is); (case l => k_is); (case c => k_is); (case k => k_is); (case b => exact fun _ _ _ _ _ _ us hl => match us, hl with | [_], _ => rfl))
    (case A_is_low => refine' Lq.at_mk KX G ?a ?l ?c ?k ?b; (case a => k_is); (case l => k_is); (case c => k_is); (case k => k_is); (case b => exact fun _ _ _ _ _ _ us hl => match us, hl with | [_], _ => rfl))
    (case A_is_high => refine' Lq.at_mk KX G ?a ?l ?c ?k ?b; (case a => k_is); (case l => k_is); (case c => k_is); (case k => k_is); (case b => exact fun _ _ _ _ _ _ us hl => match us, hl with | [_], _ => rfl))
    (case A_children => refine' Lq.at_mk KX G ?a ?l ?c ?k ?b; (case a => k_is); (case l => k_is); (case c => k_is); (case k => k_is); (case b => exact fun _ _ _ _ _ _ us hl => match us, hl with | [_], _ => rfl))
    (case A_with_children => refine' Lq.at_mk KX G ?a ?l ?c ?k ?b; (case a => k_is); (case l => k_is); (case c => k_is); (case k => k_is); (case b => exact fun _ _ _ _ _ _ us hl => match us, hl with | [_, _], _ => rfl))
    (case A__parts_of => refine' Lq.at_mk KX G ?a ?l ?c ?k ?b; (case a => k_is); (case l => k_is); (case c => k_is); (case k => k_is); (case b => exact fun _ _ _ _ _ _ us hl => match us, hl with | [_], _ => rfl))
    (case A__made_in => refine' Lq.at_mk KX G ?a ?l ?c ?k ?b; (case a => k_is); (case l => k_is); (case c => k_is); (case k => k_is); (case b => exact fun _ _ _ _ _ _ us hl => match us, hl with | [_], _ => rfl))
    (case A_is_shape => refine' Lq.at_mk KX G ?a ?l ?c ?k ?b; (case a => k_is); (case l => k_is); (case c => k_is); (case k => k_is); (case b => exact fun _ _ _ _ _ _ us hl => match us, hl with | [_, _], _ => rfl))
    (case A_nodes_of => refine' Lq.at_mk KX G ?a ?l ?c ?k ?b; (case a => k_is); (case l => k_is); (case c => k_is); (case k => k_is); (case b => exact fun _ _ _ _ _ _ us hl => match us, hl with | [_], _ => rfl))
    (case A_outline => refine' Lq.at_mk KX G ?a ?l ?c ?k ?b; (case a => k_is); (case l => k_is); (case c => k_is); (case k => k_is); (case b => exact fun _ _ _ _ _ _ us hl => match us, hl with | [_], _ => rfl))
    (case A_variables_in => refine' Lq.at_mk KX G ?a ?l ?c ?k ?b; (case a => k_is); (case l => k_is); (case c => k_is); (case k => k_is); (case b => exact fun _ _ _ _ _ _ us hl => match us, hl with | [_], _ => rfl))
    (case A_replaced => refine' Lq.at_mk KX G ?a ?l ?c ?k ?b; (case a => k_is); (case l => k_is); (case c => k_is); (case k => k_is); (case b => exact fun _ _ _ _ _ _ us hl => match us, hl with | [_, _], _ => rfl))
    (case A_numbered => refine' Lq.at_mk KX G ?a ?l ?c ?k ?b; (case a => k_is); (case l => k_is); (case c => k_is); (case k => k_is); (case b => exact fun _ _ _ _ _ _ us hl => match us, hl with | [_], _ => rfl))
    (case A_is_arity => refine' Lq.at_mk KX G ?a ?l ?c ?k ?b; (case a => k_is); (case l => k_is); (case c => k_is); (case k => k_is); (case b => exact fun _ _ _ _ _ _ us hl => match us, hl with | [_], _ => rfl))
    (case A_is_carried => refine' Lq.at_mk KX G ?a ?l ?c ?k ?b; (case a => k_is); (case l => k_is); (case c => k_is); (case k => k_is); (case b => exact fun _ _ _ _ _ _ us hl => match us, hl with | [_, _, _], _ => rfl))
    (case A__is_outline => refine' Lq.at_mk KX G ?a ?l ?c ?k ?b; (case a => k_is); (case l => k_is); (case c => k_is); (case k => k_is); (case b => exact fun _ _ _ _ _ _ us hl => match us, hl with | [_], _ => rfl))
    (case A_are_constructors => refine' Lq.at_mk KX G ?a ?l ?c ?k ?b; (case a => k_is); (case l => k_is); (case c => k_is); (case k => k_is); (case b => exact fun _ _ _ _ _ _ us hl => match us, hl with | [_, _, _], _ => rfl))
    (case A_check_book => refine' Lq.at_mk KX G ?a ?l ?c ?k ?b; (case a => k_is); (case l => k_is); (case c => k_is); (case k => k_is); (case b => exact fun _ _ _ _ _ _ us hl => match us, hl with | [_], _ => rfl))
    (case A_is_type => refine' Lq.at_mk KX G ?a ?l ?c ?k ?b; (case a => k_is); (case l => k_is); (case c => k_is); (case k => k_is); (case b => exact fun _ _ _ _ _ _ us hl => match us, hl with | [_, _], _ => rfl))
    (case A_check_type => refine' Lq.at_mk KX G ?a ?l ?c ?k ?b; (case a => k_is); (case l => k_is); (case c => k_is); (case k => k_is); (case b => exact fun _ _ _ _ _ _ us hl => match us, hl with | [_, _], _ => rfl))
    (case A_check_marked => refine' Lq.at_mk KX G ?a ?l ?c ?k ?b; (case a => k_is); (case l => k_is); (case c => k_is); (case k => k_is); (case b => exact fun _ _ _ _ _ _ us hl => match us, hl with | [_], _ => rfl))
    (case A__variable_text => refine' Lq.at_mk KX G ?a ?l ?c ?k ?b; (case a => k_is); (case l => k_is); (case c => k_is); (case k => k_is); (case b => exact fun _ _ _ _ _ _ us hl => match us, hl with | [_, _], _ => rfl))
    (case A__parted => refine' Lq.at_mk KX G ?a ?l ?c ?k ?b; (case a => k_is); (case l => k_is); (case c => k_is); (case k => k_is); (case b => exact fun _ _ _ _ _ _ us hl => match us, hl with | [_, _, _], _ => rfl))
    (case A__items_of => refine' Lq.at_mk KX G ?a ?l ?c ?k ?b; (case a => k_is); (case l => k_is); (case c => k_is); (case k => k_is); (case b => exact fun _ _ _ _ _ _ us hl => match us, hl with | [_, _, _, _], _ => rfl))
    (case A__made_items => refine' Lq.at_mk KX G ?a ?l ?c ?k ?b; (case a => k_is); (case l => k_is); (case c => k_is); (case k => k_is); (case b => exact fun _ _ _ _ _ _ us hl => match us, hl with | [_, _], _ => rfl))
    (case A_text_with => refine' Lq.at_mk KX G ?a ?l ?c ?k ?b; (case a => k_is); (case l => k_is); (case c => k_is); (case k => k_is); (case b => exact fun _ _ _ _ _ _ us hl => match us, hl with | [_, _, _], _ => rfl))
    (case A__law_hat => refine' Lq.at_mk KX G ?a ?l ?c ?k ?b; (case a => k_is); (case l => k_is); (case c => k_is); (case k => k_is); (case b => exact fun _ _ _ _ _ _ us hl => match us, hl with | [_, _], _ => rfl))
    (case A__law_lift => refine' Lq.at_mk KX G ?a ?l ?c ?k ?b; (case a => k_is); (case l => k_is); (case c => k_is); (case k => k_is); (case b => exact fun _ _ _ _ _ _ us hl => match us, hl with | [_, _], _ => rfl))
    (case A__law_choice => refine' Lq.at_mk KX G ?a ?l ?c ?k ?b; (case a => k_is); (case l => k_is); (case c => k_is); (case k => k_is); (case b => exact fun _ _ _ _ _ _ us hl => match us, hl with | [_, _], _ => rfl))
    (case A__law_rows => refine' Lq.at_mk KX G ?a ?l ?c ?k ?b; (case a => k_is); (case l => k_is); (case c => k_is); (case k => k_is); (case b => exact fun _ _ _ _ _ _ us hl => match us, hl with | [_], _ => rfl))
    (case A__law_table => refine' Lq.at_mk KX G ?a ?l ?c ?k ?b; (case a => k_is); (case l => k_is); (case c => k_is); (case k => k_is); (case b => exact fun _ _ _ _ _ _ us hl => match us, hl with | [_], _ => rfl))
    (case A__law_type => refine' Lq.at_mk KX G ?a ?l ?c ?k ?b; (case a => k_is); (case l => k_is); (case c => k_is); (case k => k_is); (case b => exact fun _ _ _ _ _ _ us hl => match us, hl with | [_, _, _], _ => rfl))
    (case A__law_inner => refine' Lq.at_mk KX G ?a ?l ?c ?k ?b; (case a => k_is); (case l => k_is); (case c => k_is); (case k => k_is); (case b => exact fun _ _ _ _ _ _ us hl => match us, hl with | [_], _ => rfl))
    (case A__law_vars => refine' Lq.at_mk KX G ?a ?l ?c ?k ?b; (case a => k_is); (case l => k_is); (case c => k_is); (case k => k_is); (case b => exact fun _ _ _ _ _ _ us hl => match us, hl with | [_], _ => rfl))
    (case A__law_put => refine' Lq.at_mk KX G ?a ?l ?c ?k ?b; (case a => k_is); (case l => k_is); (case c => k_is); (case k => k_is); (case b => exact fun _ _ _ _ _ _ us hl => match us, hl with | [_, _], _ => rfl))
    (case A__law_numbered => refine' Lq.at_mk KX G ?a ?l ?c ?k ?b; (case a => k_is); (case l => k_is); (case c => k_is); (case k => k_is); (case b => exact fun _ _ _ _ _ _ us hl => match us, hl with | [_], _ => rfl))
    (case A__law_letter => refine' Lq.at_mk KX G ?a ?l ?c ?k ?b; (case a => k_is); (case l => k_is); (case c => k_is); (case k => k_is); (case b => exact fun _ _ _ _ _ _ us hl => match us, hl with | [_, _], _ => rfl))
    (case A__law_closed => refine' Lq.at_mk KX G ?a ?l ?c ?k ?b; (case a => k_is); (case l => k_is); (case c => k_is); (case k => k_is); (case b => exact fun _ _ _ _ _ _ us hl => match us, hl with | [_, _, _], _ => rfl))
    (case A__law_text => refine' Lq.at_mk KX G ?a ?l ?c ?k ?b; (case a => k_is); (case l => k_is); (case c => k_is); (case k => k_is); (case b => exact fun _ _ _ _ _ _ us hl => match us, hl with | [_, _, _], _ => rfl))
    (case A__law_right => refine' Lq.at_mk KX G ?a ?l ?c ?k ?b; (case a => k_is); (case l => k_is); (case c => k_is); (case k => k_is); (case b => exact fun _ _ _ _ _ _ us hl => match us, hl with | [_], _ => rfl))
    (case M__row => refine' Lq.atm_mk ?a ?i ?l ?c ?k ?b; (case a => k_is); (case i => k_is); (case l => k_is); (case c => k_is); (case k => k_is); (case b => exact fun _ _ _ _ _ _ us hl => match us, hl with | [_, _], _ => rfl))
    (case M_with_stamps => refine' Lq.atm_mk ?a ?i ?l ?c ?k ?b; (case a => k_is); (case i => k_is); (case l => k_is); (case c => k_is); (case k => k_is); (case b => exact fun _ _ _ _ _ _ us hl => match us, hl with | [_, _], _ => rfl))
    (case M__extended => refine' Lq.atm_mk ?a ?i ?l ?c ?k ?b; (case a => k_is); (case i => k_is); (case l => k_is); (case c => k_is); (case k => k_is); (case b => exact fun _ _ _ _ _ _ us hl => match us, hl with | [_, _], _ => rfl))
    (case M_printed => refine' Lq.atm_mk ?a ?i ?l ?c ?k ?b; (case a => k_is); (case i => k_is); (case l => k_is); (case c => k_is); (case k => k_is); (case b => exact fun _ _ _ _ _ _ us hl => match us, hl with | [_, _], _ => rfl))
    (case M__check_body => refine' Lq.atm_mk ?a ?i ?l ?c ?k ?b; (case a => k_is); (case i => k_is); (case l => k_is); (case c => k_is); (case k => k_is); (case b => exact fun _ _ _ _ _ _ us hl => match us, hl with | [_, _], _ => rfl))
    (case M_text => refine' Lq.atm_mk ?a ?i ?l ?c ?k ?b; (case a => k_is); (case i => k_is); (case l => k_is); (case c => k_is); (case k => k_is); (case b => exact fun _ _ _ _ _ _ us hl => match us, hl with | [_, _], _ => rfl))
    (case B2 => refine' ⟨mg_none_of KX G ?_⟩; k_is)
    (case Cr_ => refine' Lq.cr_mk KX G ?b1 ?b2 ?b3; (case b1 => k_is); (case b2 => k_is); (case b3 => k_is))
    (case S_ => refine' ⟨⟨?_, ?_, ?_, ?_⟩, ?_, ?_, ?_, ?_⟩ <;> first | k_is | (unfold L2.NoAttr; k_is))
    (case B => refine' ⟨mg_none_of KX G ?_, mg_none_of KX G ?_, mg_none_of KX G ?_, mg_none_of KX G ?_, mg_none_of KX G ?_, mg_none_of KX G ?_, mg_none_of KX G ?_, mg_none_of KX G ?_, mg_none_of KX G ?_, mg_none_of KX G ?_, mg_none_of KX G ?_, mg_none_of KX G ?_, mg_none_of KX G ?_, mg_none_of KX G ?_, mg_none_of KX G ?_, mg_none_of KX G ?_, mg_none_of KX G ?_⟩ <;> k_is)
    (case Cc => refine' Lq.ct_mk KX G ?b ?s ?a ?n ?lo ?hi; (case b => k_is); (case s => k_is); (case a => k_is); (case n => k_is); (case lo => k_is); (case hi => k_is))
    (case T => refine' ⟨⟨?_, ?_, ?_, ?_⟩, ?_, ?_, mg_of KX G ?_, ?_, ?_, ?_, ?_, Lq.kit_self⟩ <;> first | k_is | (unfold L2.NoAttr; k_is))
    (case W => refine' ⟨mg_of KX G ?a, Lq.tup_mk ?l ?v ?s, Lq.kw_flat⟩; (case a => k_is); (case l => k_is); (case v => exact (.cons ⟨_, rfl⟩ (.cons ⟨_, rfl⟩ (.cons ⟨_, rfl⟩ (.cons ⟨_, rfl⟩ (.cons ⟨_, rfl⟩ (.cons ⟨_, rfl⟩ (.cons ⟨_, rfl⟩ (.cons ⟨_, rfl⟩ (.cons ⟨_, rfl⟩ (.cons ⟨_, rfl⟩ (.cons ⟨_, rfl⟩ (.cons ⟨_, rfl⟩ (.cons ⟨_, rfl⟩ (.cons ⟨_, rfl⟩ (.cons ⟨_, rfl⟩ (.cons ⟨_, rfl⟩ (.cons ⟨_, rfl⟩ (.cons ⟨_, rfl⟩ (.cons ⟨_, rfl⟩ (.cons ⟨_, rfl⟩ (.cons ⟨_, rfl⟩ (.cons ⟨_, rfl⟩ (.cons ⟨_, rfl⟩ (.cons ⟨_, rfl⟩ (.cons ⟨_, rfl⟩ (.cons ⟨_, rfl⟩ (.cons ⟨_, rfl⟩ (.cons ⟨_, rfl⟩ (.cons ⟨_, rfl⟩ (.cons ⟨_, rfl⟩ (.cons ⟨_, rfl⟩ (.cons ⟨_, rfl⟩ (.cons ⟨_, rfl⟩ (.cons ⟨_, rfl⟩ (.cons ⟨_, rfl⟩ (.cons ⟨_, rfl⟩ (.cons ⟨_, rfl⟩ (.cons ⟨_, rfl⟩ (.cons ⟨_, rfl⟩ .nil)))))))))))))))))))))))))))))))))))))))); (case s => decide))
    (case R => refine' Lq.fr_mk KX G ?a ?l0 ?l1 ?m1 ?l2 ?m2 ?l3 ?m3 ?l4 ?l5 ?m5 ?l6 ?m6; (case a => k_is); (case l0 => k_is); (case l1 => k_is); (case m1 => k_is); (case l2 => k_is); (case m2 => k_is); (case l3 => k_is); (case m3 => k_is); (case l4 => k_is); (case l5 => k_is); (case m5 => k_is); (case l6 => k_is); (case m6 => k_is))
#print axioms PySem.Challenge.cw_letquay_k11_whole_texts_of_types_holds

