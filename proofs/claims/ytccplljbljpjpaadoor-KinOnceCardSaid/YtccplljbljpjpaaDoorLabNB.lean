/-
  Labels: texts, terms, Right, Has, All.
-/
import Derived.Test.YtccplljbljpjpaaDoorME
import Derived.Test.YtccplljbljpjpaaDoorMG
import Derived.Test.YtccplljbljpjpaaDoorLabNA
import Derived.Test.YtccplljbljpjpaaDoorMB
import Derived.Maps.OwnSet
import Derived.StringKeys
namespace Go.Proofs.YtccplljbljpjpaaDoor
namespace Lb
open Go.RowKit
set_option linter.unusedSimpArgs false
set_option linter.unusedVariables false

/-- Both are numbers, and the one is more than the other, or less. -/
def excB (a b : ByteArray) (op : Int) : Bool := decide ((numV a).2 = 0) && decide ((numV b).2 = 0) && (if op = 6 then decide ((numV a).1 < (numV b).1) else decide ((numV b).1 < (numV a).1))
structure Trm where
  key : ByteArray
  op : Int
  va : Option Addr
  vk : Nat
  vals : List ByteArray
def trcs (t : Trm) : List Value := [.string t.key, .int .i64 t.op, .slice t.va t.vals.length t.vk]
theorem trcs_len (t : Trm) : (trcs t).length = 3 := rfl
abbrev TrmL := RowsAt trcs 3
/-- The values of a term lie in memory. -/
def TrmAt (w : World) (t : Trm) : Prop := TxtL w t.va t.vals ∧ t.vals.length ≤ maxLen
theorem TrmAt.mono {w w' : World} {t : Trm} (h : TrmAt w t) (hb : Below w.heap.size w w') : TrmAt w' t := ⟨h.1.mono hb, h.2⟩

/-- Whether labels meet a term. -/
def meetP (l : List Lab) (t : Trm) : Bool :=
  if t.op = 2 then !(getB l t.key && t.vals.any (strB (getV l t.key)))
  else if t.op = 1 then (getB l t.key && t.vals.any (strB (getV l t.key)))
  else if t.op = 4 then !getB l t.key
  else if t.op = 3 then getB l t.key
  else if t.op = 6 ∨ t.op = 5 then getB l t.key && decide (t.vals.length = 1) && excB (getV l t.key) (t.vals[0]?.getD emp) t.op
  else false
theorem getV_size {l : List Lab} {key : ByteArray} (h : ∀ x ∈ l, x.val.size ≤ 1000000000) : (getV l key).size ≤ 1000000000 := by
  unfold getV
  split
  next x hx => exact h x (List.mem_of_find?_eq_some hx)
  next => exact (by decide : emp.size ≤ 1000000000)
theorem op_cases (op : Int) : (op = 2 ∧ (op == 2) = true) ∨ (op = 1 ∧ (op == 2) = false ∧ (op == 1) = true) ∨ (op = 4 ∧ (op == 2) = false ∧ (op == 1) = false ∧ (op == 4) = true) ∨ (op = 3 ∧ (op == 2) = false ∧ (op == 1) = false ∧ (op == 4) = false ∧ (op == 3) = true) ∨
    (op = 6 ∧ (op == 2) = false ∧ (op == 1) = false ∧ (op == 4) = false ∧ (op == 3) = false ∧ (op == 6) = true) ∨ (op = 5 ∧ (op == 2) = false ∧ (op == 1) = false ∧ (op == 4) = false ∧ (op == 3) = false ∧ (op == 6) = false ∧ (op == 5) = true) ∨
    ((op ≠ 2 ∧ op ≠ 1 ∧ op ≠ 4 ∧ op ≠ 3 ∧ op ≠ 6 ∧ op ≠ 5) ∧ (op == 2) = false ∧ (op == 1) = false ∧ (op == 4) = false ∧ (op == 3) = false ∧ (op == 6) = false ∧ (op == 5) = false) := by
  simp only [beq_iff_eq, beq_eq_false_iff_ne]
  omega
set_option maxRecDepth 100000 in
set_option maxHeartbeats 8000000 in
theorem labright_any (c : Option Addr) (kc : Nat) (l : List Lab) (w : World) (hF : LabL w c l) (hm : l.length ≤ maxLen) (hs : ∀ x ∈ l, x.key.size ≤ 1000000000) :
    Calls Tryd.prog 27 #[.slice c l.length kc] w fun e w' => e = .returned (.bool (labsB l)) ∧ Below w.heap.size w w' := by
  have HF := Lib.hid hF
  have Hs := Lib.hid hs
  clear hF hs
  by_cases h16 : 16 < l.length
  · have hr : labsB l = false := by unfold labsB; rw [decide_eq_false (by omega)]; rfl
    rw [hr]
    clear hr
    unfold maxLen at hm
    go_enter Tryd.func27, Tryd.ntmps27
    go_wp2
    go_ret
    exact ⟨rfl, by (repeat' (first | with_reducible exact Below.refl _ _ | with_reducible assumption | with_reducible refine Below.drew ?_ | with_reducible refine below_drewN' ?_ _ | with_reducible refine Below.alloc ?_ ?_ _ | with_reducible refine Below.setCell ?_ ?_ _ | with_reducible refine below_step (by assumption) ?_ ?_ | omega | (simp; done) | (simp; omega)))⟩
  · obtain ⟨n, hln⟩ : ∃ n, l.length = n := ⟨_, rfl⟩
    rw [hln] at hm h16 ⊢
    have Hln := Lib.hid hln
    clear hln hm
    have hmm := @run_makeMap Tryd.prog
    go_enter Tryd.func27, Tryd.ntmps27
    go_wp2
    go_loopw [14] (fun i wr => ∃ k : Nat, k ≤ n ∧ i = .int .i64 k ∧ labsTo l k = true ∧ wr.ownsMap Tryd.prog 9 (unitElem (H := Unit)) w.heap.size k (seenS l k) ∧ Below w.heap.size w wr) (fun i _ => n - (intOf i).toNat)
    case atStart => exact ⟨0, by omega, rfl, rfl, World.ownsMap_made _ _ _ _, by (repeat' (first | with_reducible exact Below.refl _ _ | with_reducible assumption | with_reducible refine Below.drew ?_ | with_reducible refine below_drewN' ?_ _ | with_reducible refine Below.alloc ?_ ?_ _ | with_reducible refine Below.setCell ?_ ?_ _ | with_reducible refine below_step (by assumption) ?_ ?_ | omega | (simp; done) | (simp; omega)))⟩
    case round =>
      obtain ⟨k, hk, rfl, hE, hown, hB⟩ := hrel
      obtain ⟨hcB, hfB⟩ := bcell hB
      have hbz := hB.size
      have HE := Lib.hid hE
      have HB := Lib.hid hB
      have HM := Lib.hid hown
      clear hE hown
      by_cases hlt : k < n
      · obtain ⟨x, hx⟩ := mem_at (l := l) (k := k) (by rw [Hln.out]; exact hlt)
        obtain ⟨b, off, rfl, hb, hc⟩ := HF.out (by rw [Hln.out]; omega)
        have hbw : b < wr.heap.size := by omega
        obtain ⟨c0, c1⟩ := lab_cells (hc k x hx)
        have Hx := Lib.hid hx
        have hsx := Hs.out x (List.mem_of_getElem? hx)
        have Hkey := Lib.hid (Go.WideMaps.keyOf_string_mk (P := Tryd.prog) (k := 9) Tryd.underlying9 (s := x.key) (by unfold maxLen; omega))
        have Hhas := Lib.hid (has_seen l k x.key)
        clear hx
        have q0 : wr.heap.size < wr.heap.size + 1 + 1 := by omega
        have q1 : wr.heap.size < wr.heap.size + 2 := by omega
        have q2 : wr.heap.size + 1 < wr.heap.size + 2 := by omega
        have q3 : b < wr.heap.size + 1 + 1 := by omega
        have q4 : b < wr.heap.size + 2 := by omega
        have q5 : b < wr.heap.size + 1 := by omega
        have q6 : b ≤ wr.heap.size := by omega
        cases ht : (l.take k).any (fun y => strB y.key x.key)
        · rcases k with _ | j
          · rw [Nat.zero_mul, Nat.add_zero] at c0 c1
            have Hok := Lib.hid (okL_zero Hx.out)
            have Ht := Lib.hid ht
            clear ht hc
            cases k1 : wordB x.key
            · have Hs := Lib.hid (labs_bad (lt_at Hx.out) (by rw [Hok.out, k1]; rfl))
              have K1 := Lib.hid k1
              clear k1
              go_wp2_with (at_lookup; refine wpList_lookup_own_unit _ rfl _ _ 55 rfl 9 56 law_str Tryd.underlying55 (zero_unit _) w.heap.size (0) _ rfl (HM.out.alloc _) _ _ rfl Hkey.out ?_; rw [Hhas.out, Ht.out])
              have hcH := held_cell
              refine region_rel (by kernel_rfl) (by kernel_rfl) ?_
              repeat
                ((with_reducible refine relStep (fun K hK => ?_))
                 (have HK := Lib.hid hK)
                 clear hK
                 (first
                   | (apply relInl
                      · intro r n hf
                        have Hf := Lib.hid hf
                        clear hf
                        unfold relAt
                        go_simp
                        (first | (refine relUpon_val ?_ (Below.refl _ _); exact rfl) | exact rfl | (refine relUpon_enter ?_; fail))
                      (simp only [Act.put, List.setIfInBounds_toArray, List.set_cons_zero, List.set_cons_succ])
                      (with_reducible refine HK.out _ _ ?_)
                      clear HK K)
                   | (fail)))
              refine relNil ?_
              intro r5 n5 hx5
              clear hcH
              (try simp only [List.nil_append, List.cons_append, List.mem_cons, List.not_mem_nil, or_false, forall_eq_or_imp, forall_eq, false_implies, implies_true] at hx5)
              obtain ⟨w5, hb5⟩ := n5
              (try dsimp only)
              obtain ⟨hc5, hf5⟩ := bcell hb5
              have hz5 := hb5.size
              (try simp at hz5)
              have HB5 := Lib.hid (show Below wr.heap.size wr w5 by (repeat' (first | with_reducible exact Below.refl _ _ | with_reducible assumption | with_reducible refine Below.drew ?_ | with_reducible refine below_drewN' ?_ _ | with_reducible refine Below.alloc ?_ ?_ _ | with_reducible refine Below.setCell ?_ ?_ _ | with_reducible refine below_step (by assumption) ?_ ?_ | omega | (simp; done) | (simp; omega))))
              have z5_0 : wr.heap.size < w5.heap.size := (by omega); have y5_0 : wr.heap.size ≤ w5.heap.size := (by omega); have z5_1 : wr.heap.size + 1 < w5.heap.size := (by omega); have y5_1 : wr.heap.size + 1 ≤ w5.heap.size := (by omega)
              go_wp2_with (go_at_call 24; (with_reducible refine (word_any x.key _).mono ?_); rw [K1.out]; rintro e w6 ⟨rfl, hb6⟩; obtain ⟨hc6, hf6⟩ := bcell hb6; have hz6 := hb6.size; have z6_0 : wr.heap.size < w6.heap.size := (by omega); have y6_0 : wr.heap.size ≤ w6.heap.size := (by omega); have z6_1 : wr.heap.size + 1 < w6.heap.size := (by omega); have y6_1 : wr.heap.size + 1 ≤ w6.heap.size := (by omega); have HB6 := Lib.hid (HB5.out.trans (hb6.mono HB5.out.size)))
              go_ret
              exact ⟨by rw [Hs.out]; rfl, HB.out.trans (HB6.out.mono HB.out.size)⟩
            · cases k2 : weB x.val
              · have Hs := Lib.hid (labs_bad (lt_at Hx.out) (by rw [Hok.out, k1, k2]; rfl))
                have K1 := Lib.hid k1
                have K2 := Lib.hid k2
                clear k1 k2
                go_wp2_with (at_lookup; refine wpList_lookup_own_unit _ rfl _ _ 55 rfl 9 56 law_str Tryd.underlying55 (zero_unit _) w.heap.size (0) _ rfl (HM.out.alloc _) _ _ rfl Hkey.out ?_; rw [Hhas.out, Ht.out])
                have hcH := held_cell
                refine region_rel (by kernel_rfl) (by kernel_rfl) ?_
                repeat
                  ((with_reducible refine relStep (fun K hK => ?_))
                   (have HK := Lib.hid hK)
                   clear hK
                   (first
                     | (apply relInl
                        · intro r n hf
                          have Hf := Lib.hid hf
                          clear hf
                          unfold relAt
                          go_simp
                          (first | (refine relUpon_val ?_ (Below.refl _ _); exact rfl) | exact rfl | (refine relUpon_enter ?_; fail))
                        (simp only [Act.put, List.setIfInBounds_toArray, List.set_cons_zero, List.set_cons_succ])
                        (with_reducible refine HK.out _ _ ?_)
                        clear HK K)
                     | (fail)))
                refine relNil ?_
                intro r5 n5 hx5
                clear hcH
                (try simp only [List.nil_append, List.cons_append, List.mem_cons, List.not_mem_nil, or_false, forall_eq_or_imp, forall_eq, false_implies, implies_true] at hx5)
                obtain ⟨w5, hb5⟩ := n5
                (try dsimp only)
                obtain ⟨hc5, hf5⟩ := bcell hb5
                have hz5 := hb5.size
                (try simp at hz5)
                have HB5 := Lib.hid (show Below wr.heap.size wr w5 by (repeat' (first | with_reducible exact Below.refl _ _ | with_reducible assumption | with_reducible refine Below.drew ?_ | with_reducible refine below_drewN' ?_ _ | with_reducible refine Below.alloc ?_ ?_ _ | with_reducible refine Below.setCell ?_ ?_ _ | with_reducible refine below_step (by assumption) ?_ ?_ | omega | (simp; done) | (simp; omega))))
                have z5_0 : wr.heap.size < w5.heap.size := (by omega); have y5_0 : wr.heap.size ≤ w5.heap.size := (by omega); have z5_1 : wr.heap.size + 1 < w5.heap.size := (by omega); have y5_1 : wr.heap.size + 1 ≤ w5.heap.size := (by omega)
                go_wp2_with (first | (go_at_call 24; (with_reducible refine (word_any x.key _).mono ?_); rw [K1.out]; rintro e w6 ⟨rfl, hb6⟩; obtain ⟨hc6, hf6⟩ := bcell hb6; have hz6 := hb6.size; have z6_0 : wr.heap.size < w6.heap.size := (by omega); have y6_0 : wr.heap.size ≤ w6.heap.size := (by omega); have z6_1 : wr.heap.size + 1 < w6.heap.size := (by omega); have y6_1 : wr.heap.size + 1 ≤ w6.heap.size := (by omega); have HB6 := Lib.hid (HB5.out.trans (hb6.mono HB5.out.size))) | (go_at_call 49; (with_reducible refine (lwordorempty_any x.val _).mono ?_); rw [K2.out]; rintro e w7 ⟨rfl, hb7⟩; obtain ⟨hc7, hf7⟩ := bcell hb7; have hz7 := hb7.size; have z7_0 : wr.heap.size < w7.heap.size := (by omega); have y7_0 : wr.heap.size ≤ w7.heap.size := (by omega); have z7_1 : wr.heap.size + 1 < w7.heap.size := (by omega); have y7_1 : wr.heap.size + 1 ≤ w7.heap.size := (by omega); have HB7 := Lib.hid (HB6.out.trans (hb7.mono HB6.out.size)); have HM7 := Lib.hid (map_kept HM.out HB7.out)))
                go_ret
                exact ⟨by rw [Hs.out]; rfl, HB.out.trans (HB7.out.mono HB.out.size)⟩
              · have Hs := Lib.hid (show labsTo l (0 + 1) = true by rw [labsTo_succ, HE.out, Hok.out, k1, k2]; rfl)
                have Hsn := Lib.hid (seen_succ Hx.out)
                have K1 := Lib.hid k1
                have K2 := Lib.hid k2
                clear k1 k2
                go_wp2_with (at_lookup; refine wpList_lookup_own_unit _ rfl _ _ 55 rfl 9 56 law_str Tryd.underlying55 (zero_unit _) w.heap.size (0) _ rfl (HM.out.alloc _) _ _ rfl Hkey.out ?_; rw [Hhas.out, Ht.out])
                have hcH := held_cell
                refine region_rel (by kernel_rfl) (by kernel_rfl) ?_
                repeat
                  ((with_reducible refine relStep (fun K hK => ?_))
                   (have HK := Lib.hid hK)
                   clear hK
                   (first
                     | (apply relInl
                        · intro r n hf
                          have Hf := Lib.hid hf
                          clear hf
                          unfold relAt
                          go_simp
                          (first | (refine relUpon_val ?_ (Below.refl _ _); exact rfl) | exact rfl | (refine relUpon_enter ?_; fail))
                        (simp only [Act.put, List.setIfInBounds_toArray, List.set_cons_zero, List.set_cons_succ])
                        (with_reducible refine HK.out _ _ ?_)
                        clear HK K)
                     | (fail)))
                refine relNil ?_
                intro r5 n5 hx5
                clear hcH
                (try simp only [List.nil_append, List.cons_append, List.mem_cons, List.not_mem_nil, or_false, forall_eq_or_imp, forall_eq, false_implies, implies_true] at hx5)
                obtain ⟨w5, hb5⟩ := n5
                (try dsimp only)
                obtain ⟨hc5, hf5⟩ := bcell hb5
                have hz5 := hb5.size
                (try simp at hz5)
                have HB5 := Lib.hid (show Below wr.heap.size wr w5 by (repeat' (first | with_reducible exact Below.refl _ _ | with_reducible assumption | with_reducible refine Below.drew ?_ | with_reducible refine below_drewN' ?_ _ | with_reducible refine Below.alloc ?_ ?_ _ | with_reducible refine Below.setCell ?_ ?_ _ | with_reducible refine below_step (by assumption) ?_ ?_ | omega | (simp; done) | (simp; omega))))
                have z5_0 : wr.heap.size < w5.heap.size := (by omega); have y5_0 : wr.heap.size ≤ w5.heap.size := (by omega); have z5_1 : wr.heap.size + 1 < w5.heap.size := (by omega); have y5_1 : wr.heap.size + 1 ≤ w5.heap.size := (by omega)
                go_wp2_with (first | (go_at_call 24; (with_reducible refine (word_any x.key _).mono ?_); rw [K1.out]; rintro e w6 ⟨rfl, hb6⟩; obtain ⟨hc6, hf6⟩ := bcell hb6; have hz6 := hb6.size; have z6_0 : wr.heap.size < w6.heap.size := (by omega); have y6_0 : wr.heap.size ≤ w6.heap.size := (by omega); have z6_1 : wr.heap.size + 1 < w6.heap.size := (by omega); have y6_1 : wr.heap.size + 1 ≤ w6.heap.size := (by omega); have HB6 := Lib.hid (HB5.out.trans (hb6.mono HB5.out.size))) | (go_at_call 49; (with_reducible refine (lwordorempty_any x.val _).mono ?_); rw [K2.out]; rintro e w7 ⟨rfl, hb7⟩; obtain ⟨hc7, hf7⟩ := bcell hb7; have hz7 := hb7.size; have z7_0 : wr.heap.size < w7.heap.size := (by omega); have y7_0 : wr.heap.size ≤ w7.heap.size := (by omega); have z7_1 : wr.heap.size + 1 < w7.heap.size := (by omega); have y7_1 : wr.heap.size + 1 ≤ w7.heap.size := (by omega); have HB7 := Lib.hid (HB6.out.trans (hb7.mono HB6.out.size)); have HM7 := Lib.hid (map_kept HM.out HB7.out)) | (at_mapUpdate; refine wpList_mapUpdate_own _ rfl _ _ _ 55 rfl 9 56 law_str Tryd.underlying55 (unitElem (H := Unit)) w.heap.size (0) _ rfl HM7.out (by unfold maxLen; omega) _ _ _ rfl rfl Hkey.out _ [] unitElem_mk ?_; intro w8 hown8 hgrow8; rw [← Hsn.out] at hown8; have HM8 := Lib.hid hown8; have HB8 := Lib.hid ((HB.out.trans (HB7.out.mono HB.out.size)).grown hgrow8 (Nat.le_trans HB.out.size HB7.out.size) (fun j hj => by cases hj; exact Nat.le_refl _)); clear hown8 hgrow8))
                go_roundw
                case rel => exact ⟨0 + 1, by omega, by go_num, Hs.out, HM8.out, HB8.out⟩
                case measure => simp [intOf]; omega
          · obtain ⟨y, hy⟩ := mem_at (l := l) (k := j) (by rw [Hln.out]; omega)
            obtain ⟨d0, d1⟩ := lab_cells (hc j y hy)
            have hyx : strB y.key x.key = false := by
              have h := ht
              rw [take_at hy, List.any_append] at h
              simpa using (Bool.or_eq_false_iff.1 h).2
            have Hy := Lib.hid hy
            have hjn : j < n := by omega
            have f1 := wrap_in (x := (j : Int)) (by omega) (by omega)
            have f2 := wrap_in (x := (j : Int) + 1 - 1) (by omega) (by omega)
            have f3 : (j : Int) + 1 - 1 = (j : Int) := by omega
            cases hl : lessB x.key y.key
            · have hyl : lessB y.key x.key = true := by
                cases h : lessB y.key x.key with
                | true => rfl
                | false =>
                  have e := less_tri h hl
                  unfold strB at hyx
                  rw [decide_eq_true e] at hyx
                  cases hyx
              have Hok := Lib.hid (show okL l (j + 1) = (wordB x.key && weB x.val) by rw [okL_succ Hx.out Hy.out, hyl, Bool.and_true])
              have hbl : Op.bytesLess x.key.toList y.key.toList = false := (less_eq _ _).symm.trans hl
              have Ht := Lib.hid ht
              clear ht hc hy hyx hl hyl
              cases k1 : wordB x.key
              · have Hs := Lib.hid (labs_bad (lt_at Hx.out) (by rw [Hok.out, k1]; rfl))
                have K1 := Lib.hid k1
                clear k1
                go_wp2_with (at_lookup; refine wpList_lookup_own_unit _ rfl _ _ 55 rfl 9 56 law_str Tryd.underlying55 (zero_unit _) w.heap.size (j + 1) _ rfl (HM.out.alloc _) _ _ rfl Hkey.out ?_; rw [Hhas.out, Ht.out])
                have hcH := held_cell
                refine region_rel (by kernel_rfl) (by kernel_rfl) ?_
                repeat
                  ((with_reducible refine relStep (fun K hK => ?_))
                   (have HK := Lib.hid hK)
                   clear hK
                   (first
                     | (apply relInl
                        · intro r n hf
                          have Hf := Lib.hid hf
                          clear hf
                          unfold relAt
                          go_simp
                          (first | (refine relUpon_val ?_ (Below.refl _ _); exact rfl) | exact rfl | (refine relUpon_enter ?_; fail))
                        (simp only [Act.put, List.setIfInBounds_toArray, List.set_cons_zero, List.set_cons_succ])
                        (with_reducible refine HK.out _ _ ?_)
                        clear HK K)
                     | (fail)))
                refine relNil ?_
                intro r5 n5 hx5
                clear hcH
                (try simp only [List.nil_append, List.cons_append, List.mem_cons, List.not_mem_nil, or_false, forall_eq_or_imp, forall_eq, false_implies, implies_true] at hx5)
                obtain ⟨w5, hb5⟩ := n5
                (try dsimp only)
                obtain ⟨hc5, hf5⟩ := bcell hb5
                have hz5 := hb5.size
                (try simp at hz5)
                have HB5 := Lib.hid (show Below wr.heap.size wr w5 by (repeat' (first | with_reducible exact Below.refl _ _ | with_reducible assumption | with_reducible refine Below.drew ?_ | with_reducible refine below_drewN' ?_ _ | with_reducible refine Below.alloc ?_ ?_ _ | with_reducible refine Below.setCell ?_ ?_ _ | with_reducible refine below_step (by assumption) ?_ ?_ | omega | (simp; done) | (simp; omega))))
                have z5_0 : wr.heap.size < w5.heap.size := (by omega); have y5_0 : wr.heap.size ≤ w5.heap.size := (by omega); have z5_1 : wr.heap.size + 1 < w5.heap.size := (by omega); have y5_1 : wr.heap.size + 1 ≤ w5.heap.size := (by omega)
                go_wp2_with (go_at_call 24; (with_reducible refine (word_any x.key _).mono ?_); rw [K1.out]; rintro e w6 ⟨rfl, hb6⟩; obtain ⟨hc6, hf6⟩ := bcell hb6; have hz6 := hb6.size; have z6_0 : wr.heap.size < w6.heap.size := (by omega); have y6_0 : wr.heap.size ≤ w6.heap.size := (by omega); have z6_1 : wr.heap.size + 1 < w6.heap.size := (by omega); have y6_1 : wr.heap.size + 1 ≤ w6.heap.size := (by omega); have HB6 := Lib.hid (HB5.out.trans (hb6.mono HB5.out.size)))
                go_ret
                exact ⟨by rw [Hs.out]; rfl, HB.out.trans (HB6.out.mono HB.out.size)⟩
              · cases k2 : weB x.val
                · have Hs := Lib.hid (labs_bad (lt_at Hx.out) (by rw [Hok.out, k1, k2]; rfl))
                  have K1 := Lib.hid k1
                  have K2 := Lib.hid k2
                  clear k1 k2
                  go_wp2_with (at_lookup; refine wpList_lookup_own_unit _ rfl _ _ 55 rfl 9 56 law_str Tryd.underlying55 (zero_unit _) w.heap.size (j + 1) _ rfl (HM.out.alloc _) _ _ rfl Hkey.out ?_; rw [Hhas.out, Ht.out])
                  have hcH := held_cell
                  refine region_rel (by kernel_rfl) (by kernel_rfl) ?_
                  repeat
                    ((with_reducible refine relStep (fun K hK => ?_))
                     (have HK := Lib.hid hK)
                     clear hK
                     (first
                       | (apply relInl
                          · intro r n hf
                            have Hf := Lib.hid hf
                            clear hf
                            unfold relAt
                            go_simp
                            (first | (refine relUpon_val ?_ (Below.refl _ _); exact rfl) | exact rfl | (refine relUpon_enter ?_; fail))
                          (simp only [Act.put, List.setIfInBounds_toArray, List.set_cons_zero, List.set_cons_succ])
                          (with_reducible refine HK.out _ _ ?_)
                          clear HK K)
                       | (fail)))
                  refine relNil ?_
                  intro r5 n5 hx5
                  clear hcH
                  (try simp only [List.nil_append, List.cons_append, List.mem_cons, List.not_mem_nil, or_false, forall_eq_or_imp, forall_eq, false_implies, implies_true] at hx5)
                  obtain ⟨w5, hb5⟩ := n5
                  (try dsimp only)
                  obtain ⟨hc5, hf5⟩ := bcell hb5
                  have hz5 := hb5.size
                  (try simp at hz5)
                  have HB5 := Lib.hid (show Below wr.heap.size wr w5 by (repeat' (first | with_reducible exact Below.refl _ _ | with_reducible assumption | with_reducible refine Below.drew ?_ | with_reducible refine below_drewN' ?_ _ | with_reducible refine Below.alloc ?_ ?_ _ | with_reducible refine Below.setCell ?_ ?_ _ | with_reducible refine below_step (by assumption) ?_ ?_ | omega | (simp; done) | (simp; omega))))
                  have z5_0 : wr.heap.size < w5.heap.size := (by omega); have y5_0 : wr.heap.size ≤ w5.heap.size := (by omega); have z5_1 : wr.heap.size + 1 < w5.heap.size := (by omega); have y5_1 : wr.heap.size + 1 ≤ w5.heap.size := (by omega)
                  go_wp2_with (first | (go_at_call 24; (with_reducible refine (word_any x.key _).mono ?_); rw [K1.out]; rintro e w6 ⟨rfl, hb6⟩; obtain ⟨hc6, hf6⟩ := bcell hb6; have hz6 := hb6.size; have z6_0 : wr.heap.size < w6.heap.size := (by omega); have y6_0 : wr.heap.size ≤ w6.heap.size := (by omega); have z6_1 : wr.heap.size + 1 < w6.heap.size := (by omega); have y6_1 : wr.heap.size + 1 ≤ w6.heap.size := (by omega); have HB6 := Lib.hid (HB5.out.trans (hb6.mono HB5.out.size))) | (go_at_call 49; (with_reducible refine (lwordorempty_any x.val _).mono ?_); rw [K2.out]; rintro e w7 ⟨rfl, hb7⟩; obtain ⟨hc7, hf7⟩ := bcell hb7; have hz7 := hb7.size; have z7_0 : wr.heap.size < w7.heap.size := (by omega); have y7_0 : wr.heap.size ≤ w7.heap.size := (by omega); have z7_1 : wr.heap.size + 1 < w7.heap.size := (by omega); have y7_1 : wr.heap.size + 1 ≤ w7.heap.size := (by omega); have HB7 := Lib.hid (HB6.out.trans (hb7.mono HB6.out.size)); have HM7 := Lib.hid (map_kept HM.out HB7.out)))
                  go_ret
                  exact ⟨by rw [Hs.out]; rfl, HB.out.trans (HB7.out.mono HB.out.size)⟩
                · have Hs := Lib.hid (show labsTo l (j + 1 + 1) = true by rw [labsTo_succ, HE.out, Hok.out, k1, k2]; rfl)
                  have Hsn := Lib.hid (seen_succ Hx.out)
                  have K1 := Lib.hid k1
                  have K2 := Lib.hid k2
                  clear k1 k2
                  go_wp2_with (at_lookup; refine wpList_lookup_own_unit _ rfl _ _ 55 rfl 9 56 law_str Tryd.underlying55 (zero_unit _) w.heap.size (j + 1) _ rfl (HM.out.alloc _) _ _ rfl Hkey.out ?_; rw [Hhas.out, Ht.out])
                  have hcH := held_cell
                  refine region_rel (by kernel_rfl) (by kernel_rfl) ?_
                  repeat
                    ((with_reducible refine relStep (fun K hK => ?_))
                     (have HK := Lib.hid hK)
                     clear hK
                     (first
                       | (apply relInl
                          · intro r n hf
                            have Hf := Lib.hid hf
                            clear hf
                            unfold relAt
                            go_simp
                            (first | (refine relUpon_val ?_ (Below.refl _ _); exact rfl) | exact rfl | (refine relUpon_enter ?_; fail))
                          (simp only [Act.put, List.setIfInBounds_toArray, List.set_cons_zero, List.set_cons_succ])
                          (with_reducible refine HK.out _ _ ?_)
                          clear HK K)
                       | (fail)))
                  refine relNil ?_
                  intro r5 n5 hx5
                  clear hcH
                  (try simp only [List.nil_append, List.cons_append, List.mem_cons, List.not_mem_nil, or_false, forall_eq_or_imp, forall_eq, false_implies, implies_true] at hx5)
                  obtain ⟨w5, hb5⟩ := n5
                  (try dsimp only)
                  obtain ⟨hc5, hf5⟩ := bcell hb5
                  have hz5 := hb5.size
                  (try simp at hz5)
                  have HB5 := Lib.hid (show Below wr.heap.size wr w5 by (repeat' (first | with_reducible exact Below.refl _ _ | with_reducible assumption | with_reducible refine Below.drew ?_ | with_reducible refine below_drewN' ?_ _ | with_reducible refine Below.alloc ?_ ?_ _ | with_reducible refine Below.setCell ?_ ?_ _ | with_reducible refine below_step (by assumption) ?_ ?_ | omega | (simp; done) | (simp; omega))))
                  have z5_0 : wr.heap.size < w5.heap.size := (by omega); have y5_0 : wr.heap.size ≤ w5.heap.size := (by omega); have z5_1 : wr.heap.size + 1 < w5.heap.size := (by omega); have y5_1 : wr.heap.size + 1 ≤ w5.heap.size := (by omega)
                  go_wp2_with (first | (go_at_call 24; (with_reducible refine (word_any x.key _).mono ?_); rw [K1.out]; rintro e w6 ⟨rfl, hb6⟩; obtain ⟨hc6, hf6⟩ := bcell hb6; have hz6 := hb6.size; have z6_0 : wr.heap.size < w6.heap.size := (by omega); have y6_0 : wr.heap.size ≤ w6.heap.size := (by omega); have z6_1 : wr.heap.size + 1 < w6.heap.size := (by omega); have y6_1 : wr.heap.size + 1 ≤ w6.heap.size := (by omega); have HB6 := Lib.hid (HB5.out.trans (hb6.mono HB5.out.size))) | (go_at_call 49; (with_reducible refine (lwordorempty_any x.val _).mono ?_); rw [K2.out]; rintro e w7 ⟨rfl, hb7⟩; obtain ⟨hc7, hf7⟩ := bcell hb7; have hz7 := hb7.size; have z7_0 : wr.heap.size < w7.heap.size := (by omega); have y7_0 : wr.heap.size ≤ w7.heap.size := (by omega); have z7_1 : wr.heap.size + 1 < w7.heap.size := (by omega); have y7_1 : wr.heap.size + 1 ≤ w7.heap.size := (by omega); have HB7 := Lib.hid (HB6.out.trans (hb7.mono HB6.out.size)); have HM7 := Lib.hid (map_kept HM.out HB7.out)) | (at_mapUpdate; refine wpList_mapUpdate_own _ rfl _ _ _ 55 rfl 9 56 law_str Tryd.underlying55 (unitElem (H := Unit)) w.heap.size (j + 1) _ rfl HM7.out (by unfold maxLen; omega) _ _ _ rfl rfl Hkey.out _ [] unitElem_mk ?_; intro w8 hown8 hgrow8; rw [← Hsn.out] at hown8; have HM8 := Lib.hid hown8; have HB8 := Lib.hid ((HB.out.trans (HB7.out.mono HB.out.size)).grown hgrow8 (Nat.le_trans HB.out.size HB7.out.size) (fun j hj => by cases hj; exact Nat.le_refl _)); clear hown8 hgrow8))
                  go_roundw
                  case rel => exact ⟨j + 1 + 1, by omega, by go_num, Hs.out, HM8.out, HB8.out⟩
                  case measure => simp [intOf]; omega
            · have Hbad := Lib.hid (labs_bad (lt_at Hx.out) (show okL l (j + 1) = false by rw [okL_succ Hx.out Hy.out, less_asymm hl, Bool.and_false]))
              have hbl : Op.bytesLess x.key.toList y.key.toList = true := (less_eq _ _).symm.trans hl
              have Ht := Lib.hid ht
              clear ht hc hy hyx hl
              go_wp2_with (at_lookup; refine wpList_lookup_own_unit _ rfl _ _ 55 rfl 9 56 law_str Tryd.underlying55 (zero_unit _) w.heap.size (j + 1) _ rfl (HM.out.alloc _) _ _ rfl Hkey.out ?_; rw [Hhas.out, Ht.out])
              have hcH := held_cell
              refine region_rel (by kernel_rfl) (by kernel_rfl) ?_
              repeat
                ((with_reducible refine relStep (fun K hK => ?_))
                 (have HK := Lib.hid hK)
                 clear hK
                 (first
                   | (apply relInl
                      · intro r n hf
                        have Hf := Lib.hid hf
                        clear hf
                        unfold relAt
                        go_simp
                        (first | (refine relUpon_val ?_ (Below.refl _ _); exact rfl) | exact rfl | (refine relUpon_enter ?_; fail))
                      (simp only [Act.put, List.setIfInBounds_toArray, List.set_cons_zero, List.set_cons_succ])
                      (with_reducible refine HK.out _ _ ?_)
                      clear HK K)
                   | (fail)))
              refine relNil ?_
              intro r5 n5 hx5
              clear hcH
              (try simp only [List.nil_append, List.cons_append, List.mem_cons, List.not_mem_nil, or_false, forall_eq_or_imp, forall_eq, false_implies, implies_true] at hx5)
              obtain ⟨w5, hb5⟩ := n5
              (try dsimp only)
              obtain ⟨hc5, hf5⟩ := bcell hb5
              have hz5 := hb5.size
              (try simp at hz5)
              go_wp2
              go_ret
              exact ⟨by rw [Hbad.out]; rfl, by (repeat' (first | with_reducible exact Below.refl _ _ | with_reducible assumption | with_reducible refine Below.drew ?_ | with_reducible refine below_drewN' ?_ _ | with_reducible refine Below.alloc ?_ ?_ _ | with_reducible refine Below.setCell ?_ ?_ _ | with_reducible refine below_step (by assumption) ?_ ?_ | omega | (simp; done) | (simp; omega)))⟩
        · have Hbad := Lib.hid (labs_bad (lt_at Hx.out) (twice_bad HE.out Hx.out ht))
          have Ht := Lib.hid ht
          clear ht
          go_wp2_with (at_lookup; refine wpList_lookup_own_unit _ rfl _ _ 55 rfl 9 56 law_str Tryd.underlying55 (zero_unit _) w.heap.size (k) _ rfl (HM.out.alloc _) _ _ rfl Hkey.out ?_; rw [Hhas.out, Ht.out])
          have hcH := held_cell
          refine region_rel (by kernel_rfl) (by kernel_rfl) ?_
          repeat
            ((with_reducible refine relStep (fun K hK => ?_))
             (have HK := Lib.hid hK)
             clear hK
             (first
               | (apply relInl
                  · intro r n hf
                    have Hf := Lib.hid hf
                    clear hf
                    unfold relAt
                    go_simp
                    (first | (refine relUpon_val ?_ (Below.refl _ _); exact rfl) | exact rfl | (refine relUpon_enter ?_; fail))
                  (simp only [Act.put, List.setIfInBounds_toArray, List.set_cons_zero, List.set_cons_succ])
                  (with_reducible refine HK.out _ _ ?_)
                  clear HK K)
               | (fail)))
          refine relNil ?_
          intro r5 n5 hx5
          clear hcH
          (try simp only [List.nil_append, List.cons_append, List.mem_cons, List.not_mem_nil, or_false, forall_eq_or_imp, forall_eq, false_implies, implies_true] at hx5)
          obtain ⟨w5, hb5⟩ := n5
          (try dsimp only)
          obtain ⟨hc5, hf5⟩ := bcell hb5
          have hz5 := hb5.size
          (try simp at hz5)
          go_wp2
          go_ret
          exact ⟨by rw [Hbad.out]; rfl, by (repeat' (first | with_reducible exact Below.refl _ _ | with_reducible assumption | with_reducible refine Below.drew ?_ | with_reducible refine below_drewN' ?_ _ | with_reducible refine Below.alloc ?_ ?_ _ | with_reducible refine Below.setCell ?_ ?_ _ | with_reducible refine below_step (by assumption) ?_ ?_ | omega | (simp; done) | (simp; omega)))⟩
      · obtain rfl : k = n := by omega
        have Hend := Lib.hid (labs_end Hln.out (by omega) HE.out)
        go_wp2
        go_ret
        exact ⟨by rw [Hend.out]; rfl, by (repeat' (first | with_reducible exact Below.refl _ _ | with_reducible assumption | with_reducible refine Below.drew ?_ | with_reducible refine below_drewN' ?_ _ | with_reducible refine Below.alloc ?_ ?_ _ | with_reducible refine Below.setCell ?_ ?_ _ | with_reducible refine below_step (by assumption) ?_ ?_ | omega | (simp; done) | (simp; omega)))⟩
set_option maxRecDepth 100000 in
theorem isnoatom_any (s : ByteArray) (w : World) :
    Calls Tryd.prog 58 #[.string s] w fun e w' => e = .returned (.bool (!weB s)) ∧ Below w.heap.size w w' := by
  obtain ⟨b, hb⟩ : ∃ b, weB s = b := ⟨_, rfl⟩
  have Hb := Lib.hid hb
  rw [hb]
  clear hb
  go_enter Tryd.func58, Tryd.ntmps58
  go_wp2_with (go_at_call 49; (with_reducible refine (lwordorempty_any s _).mono ?_); rw [Hb.out]; rintro e w1 ⟨rfl, hb1⟩; have hz1 := hb1.size)
  go_ret
  exact ⟨by first | rfl | simp, by (repeat' (first | with_reducible exact Below.refl _ _ | with_reducible assumption | with_reducible refine Below.drew ?_ | with_reducible refine below_drewN' ?_ _ | with_reducible refine Below.alloc ?_ ?_ _ | with_reducible refine Below.setCell ?_ ?_ _ | with_reducible refine below_step (by assumption) ?_ ?_ | omega | (simp; done) | (simp; omega)))⟩
set_option maxRecDepth 100000 in
theorem isnumber_any (s : ByteArray) (hs : s.size ≤ 1000000000) (w : World) :
    Calls Tryd.prog 59 #[.string s] w fun e w' => e = .returned (.bool (decide ((numV s).2 = 0))) ∧ Below w.heap.size w w' := by
  have A := fun V => number_any s hs V
  obtain ⟨⟨x, e⟩, hx⟩ : ∃ d, numV s = d := ⟨_, rfl⟩
  rw [hx] at A ⊢
  dsimp only at A ⊢
  have HA := Lib.hid A
  clear A hx
  by_cases h : e = 0
  · have g : (e == 0) = true := by simpa using h
    rw [decide_eq_true h]
    clear h
    go_enter Tryd.func59, Tryd.ntmps59
    go_wp2_with (go_at_call 66; (with_reducible refine (HA.out _).mono ?_); rintro e w1 ⟨rfl, hb1⟩; have hz1 := hb1.size)
    go_ret
    exact ⟨by first | rfl | simp, by (repeat' (first | with_reducible exact Below.refl _ _ | with_reducible assumption | with_reducible refine Below.drew ?_ | with_reducible refine below_drewN' ?_ _ | with_reducible refine Below.alloc ?_ ?_ _ | with_reducible refine Below.setCell ?_ ?_ _ | with_reducible refine below_step (by assumption) ?_ ?_ | omega | (simp; done) | (simp; omega)))⟩
  · have g : (e == 0) = false := by simpa using h
    rw [decide_eq_false h]
    clear h
    go_enter Tryd.func59, Tryd.ntmps59
    go_wp2_with (go_at_call 66; (with_reducible refine (HA.out _).mono ?_); rintro e w1 ⟨rfl, hb1⟩; have hz1 := hb1.size)
    go_ret
    exact ⟨by first | rfl | simp, by (repeat' (first | with_reducible exact Below.refl _ _ | with_reducible assumption | with_reducible refine Below.drew ?_ | with_reducible refine below_drewN' ?_ _ | with_reducible refine Below.alloc ?_ ?_ _ | with_reducible refine Below.setCell ?_ ?_ _ | with_reducible refine below_step (by assumption) ?_ ?_ | omega | (simp; done) | (simp; omega)))⟩

set_option maxRecDepth 100000 in
set_option maxHeartbeats 4000000 in
theorem indexf_any (c : Option Addr) (kc : Nat) (l : List ByteArray) (w : World) (hF : TxtL w c l) (hm : l.length ≤ 1000000) :
    Calls Tryd.prog 65 #[.slice c l.length kc, .func (.func 58) #[] #[]] w fun e w' => e = .returned (.int .i64 (idxI (fun s => !weB s) l)) ∧ Below w.heap.size w w' := by
  have HF := Lib.hid hF
  clear hF
  obtain ⟨n, hln⟩ : ∃ n, l.length = n := ⟨_, rfl⟩
  rw [hln] at hm ⊢
  have Hln := Lib.hid hln
  clear hln
  go_enter Tryd.func65, Tryd.ntmps65
  go_wp2
  go_loopw [8] (fun i wr => ∃ k : Nat, k ≤ n ∧ i = .int .i64 k ∧ (l.take k).any (fun s => !weB s) = false ∧ Below w.heap.size w wr) (fun i _ => n - (intOf i).toNat)
  case atStart => exact ⟨0, by omega, rfl, rfl, by (repeat' (first | with_reducible exact Below.refl _ _ | with_reducible assumption | with_reducible refine Below.drew ?_ | with_reducible refine below_drewN' ?_ _ | with_reducible refine Below.alloc ?_ ?_ _ | with_reducible refine Below.setCell ?_ ?_ _ | with_reducible refine below_step (by assumption) ?_ ?_ | omega | (simp; done) | (simp; omega)))⟩
  case round =>
    obtain ⟨k, hk, rfl, hE, hB⟩ := hrel
    obtain ⟨hcB, hfB⟩ := bcell hB
    have hbz := hB.size
    have HE := Lib.hid hE
    have HB := Lib.hid hB
    clear hE
    by_cases hlt : k < n
    · obtain ⟨x, hx⟩ := mem_at (l := l) (k := k) (by rw [Hln.out]; exact hlt)
      obtain ⟨b, off, rfl, hb, hc⟩ := HF.out (by rw [Hln.out]; omega)
      have hbw : b < wr.heap.size := by omega
      have c0 := txt_cell (hc k x hx)
      rw [Nat.mul_one] at c0
      have Hx := Lib.hid hx
      clear hc hx
      have A := fun V => isnoatom_any x V
      cases hv : weB x
      · have Hs := Lib.hid (idx_at (p := fun s => !weB s) Hx.out HE.out (by rw [hv]; rfl))
        rw [hv] at A
        have HA := Lib.hid A
        clear hv A
        go_wp2_with (go_at_call 58; (with_reducible refine (HA.out _).mono ?_); rintro e w1 ⟨rfl, hb1⟩; have hz1 := hb1.size)
        go_ret
        exact ⟨by rw [Hs.out]; rfl, by (repeat' (first | with_reducible exact Below.refl _ _ | with_reducible assumption | with_reducible refine Below.drew ?_ | with_reducible refine below_drewN' ?_ _ | with_reducible refine Below.alloc ?_ ?_ _ | with_reducible refine Below.setCell ?_ ?_ _ | with_reducible refine below_step (by assumption) ?_ ?_ | omega | (simp; done) | (simp; omega)))⟩
      · have Hs := Lib.hid (any_take1 (P := fun s => !weB s) Hx.out (by rw [hv]; rfl) HE.out)
        rw [hv] at A
        have HA := Lib.hid A
        clear hv A
        go_wp2_with (go_at_call 58; (with_reducible refine (HA.out _).mono ?_); rintro e w1 ⟨rfl, hb1⟩; have hz1 := hb1.size)
        go_roundw
        case rel => exact ⟨k + 1, by omega, by go_num, Hs.out, by (repeat' (first | with_reducible exact Below.refl _ _ | with_reducible assumption | with_reducible refine Below.drew ?_ | with_reducible refine below_drewN' ?_ _ | with_reducible refine Below.alloc ?_ ?_ _ | with_reducible refine Below.setCell ?_ ?_ _ | with_reducible refine below_step (by assumption) ?_ ?_ | omega | (simp; done) | (simp; omega)))⟩
        case measure => simp [intOf]; omega
    · obtain rfl : k = n := by omega
      have Hs := Lib.hid (idx_no (p := fun s => !weB s) Hln.out HE.out)
      go_wp2
      go_ret
      exact ⟨by rw [Hs.out]; rfl, by (repeat' (first | with_reducible exact Below.refl _ _ | with_reducible assumption | with_reducible refine Below.drew ?_ | with_reducible refine below_drewN' ?_ _ | with_reducible refine Below.alloc ?_ ?_ _ | with_reducible refine Below.setCell ?_ ?_ _ | with_reducible refine below_step (by assumption) ?_ ?_ | omega | (simp; done) | (simp; omega)))⟩
set_option maxRecDepth 100000 in
theorem containsf_any (c : Option Addr) (kc : Nat) (l : List ByteArray) (w : World) (hF : TxtL w c l) (hm : l.length ≤ 1000000) :
    Calls Tryd.prog 57 #[.slice c l.length kc, .func (.func 58) #[] #[]] w fun e w' => e = .returned (.bool (l.any fun s => !weB s)) ∧ Below w.heap.size w w' := by
  rw [← idx_geq]
  have A := fun V (h : TxtL V c l) => indexf_any c kc l V h hm
  obtain ⟨i, hi⟩ : ∃ i, idxI (fun s => !weB s) l = i := ⟨_, rfl⟩
  rw [hi]
  simp only [hi] at A
  clear hi
  have HA := Lib.hid A
  clear A
  go_enter Tryd.func57, Tryd.ntmps57
  go_wp2_with (go_at_call 65; (with_reducible refine (HA.out _ (hF.mono (by (repeat' (first | with_reducible exact Below.refl _ _ | with_reducible assumption | with_reducible refine Below.drew ?_ | with_reducible refine below_drewN' ?_ _ | with_reducible refine Below.alloc ?_ ?_ _ | with_reducible refine Below.setCell ?_ ?_ _ | with_reducible refine below_step (by assumption) ?_ ?_ | omega | (simp; done) | (simp; omega)))))).mono ?_); rintro e w1 ⟨rfl, hb1⟩; have hz1 := hb1.size; (try simp at hz1))
  go_ret
  exact ⟨by first | rfl | simp, by (repeat' (first | with_reducible exact Below.refl _ _ | with_reducible assumption | with_reducible refine Below.drew ?_ | with_reducible refine below_drewN' ?_ _ | with_reducible refine Below.alloc ?_ ?_ _ | with_reducible refine Below.setCell ?_ ?_ _ | with_reducible refine below_step (by assumption) ?_ ?_ | omega | (simp; done) | (simp; omega)))⟩

/-- Whether a term is right. -/
def rtrm (t : Trm) : Bool := wordB t.key && (if t.op = 1 ∨ t.op = 2 then decide (1 ≤ t.vals.length) && (decide (t.vals.length ≤ 16) && t.vals.all weB)
  else if t.op = 3 ∨ t.op = 4 then decide (t.vals.length = 0)
  else if t.op = 5 ∨ t.op = 6 then decide (t.vals.length = 1) && decide ((numV (t.vals[0]?.getD emp)).2 = 0) else false)
theorem all_any (l : List ByteArray) : l.all weB = !(l.any fun s => !weB s) := by rw [List.not_any_eq_all_not]; simp

set_option maxRecDepth 100000 in
set_option maxHeartbeats 8000000 in
theorem rightterm_any (t : Trm) (w : World) (hT : TrmAt w t) (hn : t.vals.length ≤ 1000000) (hs : ∀ v ∈ t.vals, v.size ≤ 1000000000) :
    Calls Tryd.prog 50 #[.agg #[.string t.key, .int .i64 t.op, .slice t.va t.vals.length t.vk]] w fun e w' => e = .returned (.bool (rtrm t)) ∧ Below w.heap.size w w' := by
  obtain ⟨key, op, va, vk, vals⟩ := t
  obtain ⟨hT, -⟩ := hT
  dsimp only at hT hn hs ⊢
  unfold rtrm
  dsimp only
  rw [all_any]
  have C := fun V (h : TxtL V va vals) => containsf_any va vk vals V h hn
  obtain ⟨ci, hci⟩ : ∃ g, (vals.any fun s => !weB s) = g := ⟨_, rfl⟩
  rw [hci] at C ⊢
  have HC := Lib.hid C
  have HT := Lib.hid hT
  clear hT hci C
  cases k1 : wordB key
  · have K1 := Lib.hid k1
    clear k1
    rw [Bool.false_and]
    go_enter Tryd.func50, Tryd.ntmps50
    go_wp2_with (go_at_call 24; (with_reducible refine (word_any key _).mono ?_); rw [K1.out]; rintro e w1 ⟨rfl, hb1⟩; obtain ⟨hc1, hf1⟩ := bcell hb1; have hz1 := hb1.size; (try simp at hz1); have z1_0 : w.heap.size < w1.heap.size := (by omega); have y1_0 : w.heap.size ≤ w1.heap.size := (by omega); have HB1 := Lib.hid (show Below w.heap.size w w1 by (repeat' (first | with_reducible exact Below.refl _ _ | with_reducible assumption | with_reducible refine Below.drew ?_ | with_reducible refine below_drewN' ?_ _ | with_reducible refine Below.alloc ?_ ?_ _ | with_reducible refine Below.setCell ?_ ?_ _ | with_reducible refine below_step (by assumption) ?_ ?_ | omega | (simp; done) | (simp; omega)))))
    go_ret
    exact ⟨rfl, by (repeat' (first | with_reducible exact Below.refl _ _ | with_reducible assumption | with_reducible refine Below.drew ?_ | with_reducible refine below_drewN' ?_ _ | with_reducible refine Below.alloc ?_ ?_ _ | with_reducible refine Below.setCell ?_ ?_ _ | with_reducible refine below_step (by assumption) ?_ ?_ | omega | (simp; done) | (simp; omega)))⟩
  · have K1 := Lib.hid k1
    clear k1
    rw [Bool.true_and]
    rcases op_cases op with ⟨e0, h⟩ | ⟨e0, h1, h⟩ | ⟨e0, h1, h2, h⟩ | ⟨e0, h1, h2, h3, h⟩ | ⟨e0, h1, h2, h3, h4, h⟩ | ⟨e0, h1, h2, h3, h4, h5, h⟩ | ⟨e0, h1, h2, h3, h4, h5, h⟩
    · subst e0
      rw [if_pos (by decide)]
      by_cases g1 : 1 ≤ vals.length
      · by_cases g16 : vals.length ≤ 16
        · have hh1 : decide (1 ≤ (vals.length : Int)) = true := decide_eq_true (by omega)
          have hh2 : decide ((vals.length : Int) ≤ 16) = true := decide_eq_true (by omega)
          rw [decide_eq_true g1, decide_eq_true g16]
          clear g1 g16
          go_enter Tryd.func50, Tryd.ntmps50
          go_wp2_with (first | (go_at_call 24; (with_reducible refine (word_any key _).mono ?_); rw [K1.out]; rintro e w1 ⟨rfl, hb1⟩; obtain ⟨hc1, hf1⟩ := bcell hb1; have hz1 := hb1.size; (try simp at hz1); have z1_0 : w.heap.size < w1.heap.size := (by omega); have y1_0 : w.heap.size ≤ w1.heap.size := (by omega); have HB1 := Lib.hid (show Below w.heap.size w w1 by (repeat' (first | with_reducible exact Below.refl _ _ | with_reducible assumption | with_reducible refine Below.drew ?_ | with_reducible refine below_drewN' ?_ _ | with_reducible refine Below.alloc ?_ ?_ _ | with_reducible refine Below.setCell ?_ ?_ _ | with_reducible refine below_step (by assumption) ?_ ?_ | omega | (simp; done) | (simp; omega))))) | (go_at_call 57; (with_reducible refine (HC.out _ (HT.out.mono HB1.out)).mono ?_); rintro e w2 ⟨rfl, hb2⟩; have hz2 := hb2.size))
          go_ret
          exact ⟨by simp, by (repeat' (first | with_reducible exact Below.refl _ _ | with_reducible assumption | with_reducible refine Below.drew ?_ | with_reducible refine below_drewN' ?_ _ | with_reducible refine Below.alloc ?_ ?_ _ | with_reducible refine Below.setCell ?_ ?_ _ | with_reducible refine below_step (by assumption) ?_ ?_ | omega | (simp; done) | (simp; omega)))⟩
        · have hh1 : decide (1 ≤ (vals.length : Int)) = true := decide_eq_true (by omega)
          have hh2 : decide ((vals.length : Int) ≤ 16) = false := decide_eq_false (by omega)
          rw [decide_eq_true g1, decide_eq_false g16]
          clear g1 g16
          go_enter Tryd.func50, Tryd.ntmps50
          go_wp2_with (first | (go_at_call 24; (with_reducible refine (word_any key _).mono ?_); rw [K1.out]; rintro e w1 ⟨rfl, hb1⟩; obtain ⟨hc1, hf1⟩ := bcell hb1; have hz1 := hb1.size; (try simp at hz1); have z1_0 : w.heap.size < w1.heap.size := (by omega); have y1_0 : w.heap.size ≤ w1.heap.size := (by omega); have HB1 := Lib.hid (show Below w.heap.size w w1 by (repeat' (first | with_reducible exact Below.refl _ _ | with_reducible assumption | with_reducible refine Below.drew ?_ | with_reducible refine below_drewN' ?_ _ | with_reducible refine Below.alloc ?_ ?_ _ | with_reducible refine Below.setCell ?_ ?_ _ | with_reducible refine below_step (by assumption) ?_ ?_ | omega | (simp; done) | (simp; omega))))) | (go_at_call 57; (with_reducible refine (HC.out _ (HT.out.mono HB1.out)).mono ?_); rintro e w2 ⟨rfl, hb2⟩; have hz2 := hb2.size))
          go_ret
          exact ⟨by simp, by (repeat' (first | with_reducible exact Below.refl _ _ | with_reducible assumption | with_reducible refine Below.drew ?_ | with_reducible refine below_drewN' ?_ _ | with_reducible refine Below.alloc ?_ ?_ _ | with_reducible refine Below.setCell ?_ ?_ _ | with_reducible refine below_step (by assumption) ?_ ?_ | omega | (simp; done) | (simp; omega)))⟩
      · have hh1 : decide (1 ≤ (vals.length : Int)) = false := decide_eq_false (by omega)
        rw [decide_eq_false g1]
        clear g1
        go_enter Tryd.func50, Tryd.ntmps50
        go_wp2_with (first | (go_at_call 24; (with_reducible refine (word_any key _).mono ?_); rw [K1.out]; rintro e w1 ⟨rfl, hb1⟩; obtain ⟨hc1, hf1⟩ := bcell hb1; have hz1 := hb1.size; (try simp at hz1); have z1_0 : w.heap.size < w1.heap.size := (by omega); have y1_0 : w.heap.size ≤ w1.heap.size := (by omega); have HB1 := Lib.hid (show Below w.heap.size w w1 by (repeat' (first | with_reducible exact Below.refl _ _ | with_reducible assumption | with_reducible refine Below.drew ?_ | with_reducible refine below_drewN' ?_ _ | with_reducible refine Below.alloc ?_ ?_ _ | with_reducible refine Below.setCell ?_ ?_ _ | with_reducible refine below_step (by assumption) ?_ ?_ | omega | (simp; done) | (simp; omega))))) | (go_at_call 57; (with_reducible refine (HC.out _ (HT.out.mono HB1.out)).mono ?_); rintro e w2 ⟨rfl, hb2⟩; have hz2 := hb2.size))
        go_ret
        exact ⟨by simp, by (repeat' (first | with_reducible exact Below.refl _ _ | with_reducible assumption | with_reducible refine Below.drew ?_ | with_reducible refine below_drewN' ?_ _ | with_reducible refine Below.alloc ?_ ?_ _ | with_reducible refine Below.setCell ?_ ?_ _ | with_reducible refine below_step (by assumption) ?_ ?_ | omega | (simp; done) | (simp; omega)))⟩
    · subst e0
      rw [if_pos (by decide)]
      by_cases g1 : 1 ≤ vals.length
      · by_cases g16 : vals.length ≤ 16
        · have hh1 : decide (1 ≤ (vals.length : Int)) = true := decide_eq_true (by omega)
          have hh2 : decide ((vals.length : Int) ≤ 16) = true := decide_eq_true (by omega)
          rw [decide_eq_true g1, decide_eq_true g16]
          clear g1 g16
          go_enter Tryd.func50, Tryd.ntmps50
          go_wp2_with (first | (go_at_call 24; (with_reducible refine (word_any key _).mono ?_); rw [K1.out]; rintro e w1 ⟨rfl, hb1⟩; obtain ⟨hc1, hf1⟩ := bcell hb1; have hz1 := hb1.size; (try simp at hz1); have z1_0 : w.heap.size < w1.heap.size := (by omega); have y1_0 : w.heap.size ≤ w1.heap.size := (by omega); have HB1 := Lib.hid (show Below w.heap.size w w1 by (repeat' (first | with_reducible exact Below.refl _ _ | with_reducible assumption | with_reducible refine Below.drew ?_ | with_reducible refine below_drewN' ?_ _ | with_reducible refine Below.alloc ?_ ?_ _ | with_reducible refine Below.setCell ?_ ?_ _ | with_reducible refine below_step (by assumption) ?_ ?_ | omega | (simp; done) | (simp; omega))))) | (go_at_call 57; (with_reducible refine (HC.out _ (HT.out.mono HB1.out)).mono ?_); rintro e w2 ⟨rfl, hb2⟩; have hz2 := hb2.size))
          go_ret
          exact ⟨by simp, by (repeat' (first | with_reducible exact Below.refl _ _ | with_reducible assumption | with_reducible refine Below.drew ?_ | with_reducible refine below_drewN' ?_ _ | with_reducible refine Below.alloc ?_ ?_ _ | with_reducible refine Below.setCell ?_ ?_ _ | with_reducible refine below_step (by assumption) ?_ ?_ | omega | (simp; done) | (simp; omega)))⟩
        · have hh1 : decide (1 ≤ (vals.length : Int)) = true := decide_eq_true (by omega)
          have hh2 : decide ((vals.length : Int) ≤ 16) = false := decide_eq_false (by omega)
          rw [decide_eq_true g1, decide_eq_false g16]
          clear g1 g16
          go_enter Tryd.func50, Tryd.ntmps50
          go_wp2_with (first | (go_at_call 24; (with_reducible refine (word_any key _).mono ?_); rw [K1.out]; rintro e w1 ⟨rfl, hb1⟩; obtain ⟨hc1, hf1⟩ := bcell hb1; have hz1 := hb1.size; (try simp at hz1); have z1_0 : w.heap.size < w1.heap.size := (by omega); have y1_0 : w.heap.size ≤ w1.heap.size := (by omega); have HB1 := Lib.hid (show Below w.heap.size w w1 by (repeat' (first | with_reducible exact Below.refl _ _ | with_reducible assumption | with_reducible refine Below.drew ?_ | with_reducible refine below_drewN' ?_ _ | with_reducible refine Below.alloc ?_ ?_ _ | with_reducible refine Below.setCell ?_ ?_ _ | with_reducible refine below_step (by assumption) ?_ ?_ | omega | (simp; done) | (simp; omega))))) | (go_at_call 57; (with_reducible refine (HC.out _ (HT.out.mono HB1.out)).mono ?_); rintro e w2 ⟨rfl, hb2⟩; have hz2 := hb2.size))
          go_ret
          exact ⟨by simp, by (repeat' (first | with_reducible exact Below.refl _ _ | with_reducible assumption | with_reducible refine Below.drew ?_ | with_reducible refine below_drewN' ?_ _ | with_reducible refine Below.alloc ?_ ?_ _ | with_reducible refine Below.setCell ?_ ?_ _ | with_reducible refine below_step (by assumption) ?_ ?_ | omega | (simp; done) | (simp; omega)))⟩
      · have hh1 : decide (1 ≤ (vals.length : Int)) = false := decide_eq_false (by omega)
        rw [decide_eq_false g1]
        clear g1
        go_enter Tryd.func50, Tryd.ntmps50
        go_wp2_with (first | (go_at_call 24; (with_reducible refine (word_any key _).mono ?_); rw [K1.out]; rintro e w1 ⟨rfl, hb1⟩; obtain ⟨hc1, hf1⟩ := bcell hb1; have hz1 := hb1.size; (try simp at hz1); have z1_0 : w.heap.size < w1.heap.size := (by omega); have y1_0 : w.heap.size ≤ w1.heap.size := (by omega); have HB1 := Lib.hid (show Below w.heap.size w w1 by (repeat' (first | with_reducible exact Below.refl _ _ | with_reducible assumption | with_reducible refine Below.drew ?_ | with_reducible refine below_drewN' ?_ _ | with_reducible refine Below.alloc ?_ ?_ _ | with_reducible refine Below.setCell ?_ ?_ _ | with_reducible refine below_step (by assumption) ?_ ?_ | omega | (simp; done) | (simp; omega))))) | (go_at_call 57; (with_reducible refine (HC.out _ (HT.out.mono HB1.out)).mono ?_); rintro e w2 ⟨rfl, hb2⟩; have hz2 := hb2.size))
        go_ret
        exact ⟨by simp, by (repeat' (first | with_reducible exact Below.refl _ _ | with_reducible assumption | with_reducible refine Below.drew ?_ | with_reducible refine below_drewN' ?_ _ | with_reducible refine Below.alloc ?_ ?_ _ | with_reducible refine Below.setCell ?_ ?_ _ | with_reducible refine below_step (by assumption) ?_ ?_ | omega | (simp; done) | (simp; omega)))⟩
    · subst e0
      rw [if_neg (by decide), if_pos (by decide)]
      by_cases g0 : vals.length = 0
      · have hh1 : ((vals.length : Int) == 0) = true := by rw [g0]; rfl
        rw [decide_eq_true g0]
        clear g0
        go_enter Tryd.func50, Tryd.ntmps50
        go_wp2_with (first | (go_at_call 24; (with_reducible refine (word_any key _).mono ?_); rw [K1.out]; rintro e w1 ⟨rfl, hb1⟩; obtain ⟨hc1, hf1⟩ := bcell hb1; have hz1 := hb1.size; (try simp at hz1); have z1_0 : w.heap.size < w1.heap.size := (by omega); have y1_0 : w.heap.size ≤ w1.heap.size := (by omega); have HB1 := Lib.hid (show Below w.heap.size w w1 by (repeat' (first | with_reducible exact Below.refl _ _ | with_reducible assumption | with_reducible refine Below.drew ?_ | with_reducible refine below_drewN' ?_ _ | with_reducible refine Below.alloc ?_ ?_ _ | with_reducible refine Below.setCell ?_ ?_ _ | with_reducible refine below_step (by assumption) ?_ ?_ | omega | (simp; done) | (simp; omega))))) | (go_at_call 57; (with_reducible refine (HC.out _ (HT.out.mono HB1.out)).mono ?_); rintro e w2 ⟨rfl, hb2⟩; have hz2 := hb2.size))
        go_ret
        exact ⟨by simp, by (repeat' (first | with_reducible exact Below.refl _ _ | with_reducible assumption | with_reducible refine Below.drew ?_ | with_reducible refine below_drewN' ?_ _ | with_reducible refine Below.alloc ?_ ?_ _ | with_reducible refine Below.setCell ?_ ?_ _ | with_reducible refine below_step (by assumption) ?_ ?_ | omega | (simp; done) | (simp; omega)))⟩
      · have hh1 : ((vals.length : Int) == 0) = false := by rw [beq_eq_false_iff_ne]; omega
        rw [decide_eq_false g0]
        clear g0
        go_enter Tryd.func50, Tryd.ntmps50
        go_wp2_with (first | (go_at_call 24; (with_reducible refine (word_any key _).mono ?_); rw [K1.out]; rintro e w1 ⟨rfl, hb1⟩; obtain ⟨hc1, hf1⟩ := bcell hb1; have hz1 := hb1.size; (try simp at hz1); have z1_0 : w.heap.size < w1.heap.size := (by omega); have y1_0 : w.heap.size ≤ w1.heap.size := (by omega); have HB1 := Lib.hid (show Below w.heap.size w w1 by (repeat' (first | with_reducible exact Below.refl _ _ | with_reducible assumption | with_reducible refine Below.drew ?_ | with_reducible refine below_drewN' ?_ _ | with_reducible refine Below.alloc ?_ ?_ _ | with_reducible refine Below.setCell ?_ ?_ _ | with_reducible refine below_step (by assumption) ?_ ?_ | omega | (simp; done) | (simp; omega))))) | (go_at_call 57; (with_reducible refine (HC.out _ (HT.out.mono HB1.out)).mono ?_); rintro e w2 ⟨rfl, hb2⟩; have hz2 := hb2.size))
        go_ret
        exact ⟨by simp, by (repeat' (first | with_reducible exact Below.refl _ _ | with_reducible assumption | with_reducible refine Below.drew ?_ | with_reducible refine below_drewN' ?_ _ | with_reducible refine Below.alloc ?_ ?_ _ | with_reducible refine Below.setCell ?_ ?_ _ | with_reducible refine below_step (by assumption) ?_ ?_ | omega | (simp; done) | (simp; omega)))⟩
    · subst e0
      rw [if_neg (by decide), if_pos (by decide)]
      by_cases g0 : vals.length = 0
      · have hh1 : ((vals.length : Int) == 0) = true := by rw [g0]; rfl
        rw [decide_eq_true g0]
        clear g0
        go_enter Tryd.func50, Tryd.ntmps50
        go_wp2_with (first | (go_at_call 24; (with_reducible refine (word_any key _).mono ?_); rw [K1.out]; rintro e w1 ⟨rfl, hb1⟩; obtain ⟨hc1, hf1⟩ := bcell hb1; have hz1 := hb1.size; (try simp at hz1); have z1_0 : w.heap.size < w1.heap.size := (by omega); have y1_0 : w.heap.size ≤ w1.heap.size := (by omega); have HB1 := Lib.hid (show Below w.heap.size w w1 by (repeat' (first | with_reducible exact Below.refl _ _ | with_reducible assumption | with_reducible refine Below.drew ?_ | with_reducible refine below_drewN' ?_ _ | with_reducible refine Below.alloc ?_ ?_ _ | with_reducible refine Below.setCell ?_ ?_ _ | with_reducible refine below_step (by assumption) ?_ ?_ | omega | (simp; done) | (simp; omega))))) | (go_at_call 57; (with_reducible refine (HC.out _ (HT.out.mono HB1.out)).mono ?_); rintro e w2 ⟨rfl, hb2⟩; have hz2 := hb2.size))
        go_ret
        exact ⟨by simp, by (repeat' (first | with_reducible exact Below.refl _ _ | with_reducible assumption | with_reducible refine Below.drew ?_ | with_reducible refine below_drewN' ?_ _ | with_reducible refine Below.alloc ?_ ?_ _ | with_reducible refine Below.setCell ?_ ?_ _ | with_reducible refine below_step (by assumption) ?_ ?_ | omega | (simp; done) | (simp; omega)))⟩
      · have hh1 : ((vals.length : Int) == 0) = false := by rw [beq_eq_false_iff_ne]; omega
        rw [decide_eq_false g0]
        clear g0
        go_enter Tryd.func50, Tryd.ntmps50
        go_wp2_with (first | (go_at_call 24; (with_reducible refine (word_any key _).mono ?_); rw [K1.out]; rintro e w1 ⟨rfl, hb1⟩; obtain ⟨hc1, hf1⟩ := bcell hb1; have hz1 := hb1.size; (try simp at hz1); have z1_0 : w.heap.size < w1.heap.size := (by omega); have y1_0 : w.heap.size ≤ w1.heap.size := (by omega); have HB1 := Lib.hid (show Below w.heap.size w w1 by (repeat' (first | with_reducible exact Below.refl _ _ | with_reducible assumption | with_reducible refine Below.drew ?_ | with_reducible refine below_drewN' ?_ _ | with_reducible refine Below.alloc ?_ ?_ _ | with_reducible refine Below.setCell ?_ ?_ _ | with_reducible refine below_step (by assumption) ?_ ?_ | omega | (simp; done) | (simp; omega))))) | (go_at_call 57; (with_reducible refine (HC.out _ (HT.out.mono HB1.out)).mono ?_); rintro e w2 ⟨rfl, hb2⟩; have hz2 := hb2.size))
        go_ret
        exact ⟨by simp, by (repeat' (first | with_reducible exact Below.refl _ _ | with_reducible assumption | with_reducible refine Below.drew ?_ | with_reducible refine below_drewN' ?_ _ | with_reducible refine Below.alloc ?_ ?_ _ | with_reducible refine Below.setCell ?_ ?_ _ | with_reducible refine below_step (by assumption) ?_ ?_ | omega | (simp; done) | (simp; omega)))⟩
    · subst e0
      rw [if_neg (by decide), if_neg (by decide), if_pos (by decide)]
      by_cases hone : vals.length = 1
      · obtain ⟨v0, hv0⟩ : ∃ v0, vals = [v0] := by
          match vals, hone with
          | [v0], _ => exact ⟨v0, rfl⟩
        subst hv0
        obtain ⟨b, off, rfl, hb, hc⟩ := HT.out (by simp)
        have c0 := txt_cell (hc 0 v0 rfl)
        simp only [Nat.zero_mul, Nat.add_zero] at c0
        have N := fun V => isnumber_any v0 (hs v0 List.mem_cons_self) V
        have ev : ([v0] : List ByteArray)[0]?.getD emp = v0 := rfl
        rw [ev, decide_eq_true hone]
        obtain ⟨nb, hnb⟩ : ∃ nb, decide ((numV v0).2 = 0) = nb := ⟨_, rfl⟩
        rw [hnb] at N ⊢
        have HN := Lib.hid N
        clear N hc hnb ev
        go_enter Tryd.func50, Tryd.ntmps50
        go_wp2_with (first | ((go_at_call 24; (with_reducible refine (word_any key _).mono ?_); rw [K1.out]; rintro e w1 ⟨rfl, hb1⟩; obtain ⟨hc1, hf1⟩ := bcell hb1; have hz1 := hb1.size; (try simp at hz1); have z1_0 : w.heap.size < w1.heap.size := (by omega); have y1_0 : w.heap.size ≤ w1.heap.size := (by omega); have HB1 := Lib.hid (show Below w.heap.size w w1 by (repeat' (first | with_reducible exact Below.refl _ _ | with_reducible assumption | with_reducible refine Below.drew ?_ | with_reducible refine below_drewN' ?_ _ | with_reducible refine Below.alloc ?_ ?_ _ | with_reducible refine Below.setCell ?_ ?_ _ | with_reducible refine below_step (by assumption) ?_ ?_ | omega | (simp; done) | (simp; omega))))); have hbv : b < w1.heap.size := (by omega)) | (go_at_call 59; (with_reducible refine (HN.out _).mono ?_); rintro e w2 ⟨rfl, hb2⟩; have hz2 := hb2.size))
        go_ret
        exact ⟨by simp, by (repeat' (first | with_reducible exact Below.refl _ _ | with_reducible assumption | with_reducible refine Below.drew ?_ | with_reducible refine below_drewN' ?_ _ | with_reducible refine Below.alloc ?_ ?_ _ | with_reducible refine Below.setCell ?_ ?_ _ | with_reducible refine below_step (by assumption) ?_ ?_ | omega | (simp; done) | (simp; omega)))⟩
      · have hh1 : ((vals.length : Int) == 1) = false := by rw [beq_eq_false_iff_ne]; omega
        rw [decide_eq_false hone]
        clear hone
        go_enter Tryd.func50, Tryd.ntmps50
        go_wp2_with (first | (go_at_call 24; (with_reducible refine (word_any key _).mono ?_); rw [K1.out]; rintro e w1 ⟨rfl, hb1⟩; obtain ⟨hc1, hf1⟩ := bcell hb1; have hz1 := hb1.size; (try simp at hz1); have z1_0 : w.heap.size < w1.heap.size := (by omega); have y1_0 : w.heap.size ≤ w1.heap.size := (by omega); have HB1 := Lib.hid (show Below w.heap.size w w1 by (repeat' (first | with_reducible exact Below.refl _ _ | with_reducible assumption | with_reducible refine Below.drew ?_ | with_reducible refine below_drewN' ?_ _ | with_reducible refine Below.alloc ?_ ?_ _ | with_reducible refine Below.setCell ?_ ?_ _ | with_reducible refine below_step (by assumption) ?_ ?_ | omega | (simp; done) | (simp; omega))))) | (go_at_call 57; (with_reducible refine (HC.out _ (HT.out.mono HB1.out)).mono ?_); rintro e w2 ⟨rfl, hb2⟩; have hz2 := hb2.size))
        go_ret
        exact ⟨by simp, by (repeat' (first | with_reducible exact Below.refl _ _ | with_reducible assumption | with_reducible refine Below.drew ?_ | with_reducible refine below_drewN' ?_ _ | with_reducible refine Below.alloc ?_ ?_ _ | with_reducible refine Below.setCell ?_ ?_ _ | with_reducible refine below_step (by assumption) ?_ ?_ | omega | (simp; done) | (simp; omega)))⟩
    · subst e0
      rw [if_neg (by decide), if_neg (by decide), if_pos (by decide)]
      by_cases hone : vals.length = 1
      · obtain ⟨v0, hv0⟩ : ∃ v0, vals = [v0] := by
          match vals, hone with
          | [v0], _ => exact ⟨v0, rfl⟩
        subst hv0
        obtain ⟨b, off, rfl, hb, hc⟩ := HT.out (by simp)
        have c0 := txt_cell (hc 0 v0 rfl)
        simp only [Nat.zero_mul, Nat.add_zero] at c0
        have N := fun V => isnumber_any v0 (hs v0 List.mem_cons_self) V
        have ev : ([v0] : List ByteArray)[0]?.getD emp = v0 := rfl
        rw [ev, decide_eq_true hone]
        obtain ⟨nb, hnb⟩ : ∃ nb, decide ((numV v0).2 = 0) = nb := ⟨_, rfl⟩
        rw [hnb] at N ⊢
        have HN := Lib.hid N
        clear N hc hnb ev
        go_enter Tryd.func50, Tryd.ntmps50
        go_wp2_with (first | ((go_at_call 24; (with_reducible refine (word_any key _).mono ?_); rw [K1.out]; rintro e w1 ⟨rfl, hb1⟩; obtain ⟨hc1, hf1⟩ := bcell hb1; have hz1 := hb1.size; (try simp at hz1); have z1_0 : w.heap.size < w1.heap.size := (by omega); have y1_0 : w.heap.size ≤ w1.heap.size := (by omega); have HB1 := Lib.hid (show Below w.heap.size w w1 by (repeat' (first | with_reducible exact Below.refl _ _ | with_reducible assumption | with_reducible refine Below.drew ?_ | with_reducible refine below_drewN' ?_ _ | with_reducible refine Below.alloc ?_ ?_ _ | with_reducible refine Below.setCell ?_ ?_ _ | with_reducible refine below_step (by assumption) ?_ ?_ | omega | (simp; done) | (simp; omega))))); have hbv : b < w1.heap.size := (by omega)) | (go_at_call 59; (with_reducible refine (HN.out _).mono ?_); rintro e w2 ⟨rfl, hb2⟩; have hz2 := hb2.size))
        go_ret
        exact ⟨by simp, by (repeat' (first | with_reducible exact Below.refl _ _ | with_reducible assumption | with_reducible refine Below.drew ?_ | with_reducible refine below_drewN' ?_ _ | with_reducible refine Below.alloc ?_ ?_ _ | with_reducible refine Below.setCell ?_ ?_ _ | with_reducible refine below_step (by assumption) ?_ ?_ | omega | (simp; done) | (simp; omega)))⟩
      · have hh1 : ((vals.length : Int) == 1) = false := by rw [beq_eq_false_iff_ne]; omega
        rw [decide_eq_false hone]
        clear hone
        go_enter Tryd.func50, Tryd.ntmps50
        go_wp2_with (first | (go_at_call 24; (with_reducible refine (word_any key _).mono ?_); rw [K1.out]; rintro e w1 ⟨rfl, hb1⟩; obtain ⟨hc1, hf1⟩ := bcell hb1; have hz1 := hb1.size; (try simp at hz1); have z1_0 : w.heap.size < w1.heap.size := (by omega); have y1_0 : w.heap.size ≤ w1.heap.size := (by omega); have HB1 := Lib.hid (show Below w.heap.size w w1 by (repeat' (first | with_reducible exact Below.refl _ _ | with_reducible assumption | with_reducible refine Below.drew ?_ | with_reducible refine below_drewN' ?_ _ | with_reducible refine Below.alloc ?_ ?_ _ | with_reducible refine Below.setCell ?_ ?_ _ | with_reducible refine below_step (by assumption) ?_ ?_ | omega | (simp; done) | (simp; omega))))) | (go_at_call 57; (with_reducible refine (HC.out _ (HT.out.mono HB1.out)).mono ?_); rintro e w2 ⟨rfl, hb2⟩; have hz2 := hb2.size))
        go_ret
        exact ⟨by simp, by (repeat' (first | with_reducible exact Below.refl _ _ | with_reducible assumption | with_reducible refine Below.drew ?_ | with_reducible refine below_drewN' ?_ _ | with_reducible refine Below.alloc ?_ ?_ _ | with_reducible refine Below.setCell ?_ ?_ _ | with_reducible refine below_step (by assumption) ?_ ?_ | omega | (simp; done) | (simp; omega)))⟩
    · obtain ⟨e1, e2, e3, e4, e5, e6⟩ := e0
      rw [if_neg (by omega), if_neg (by omega), if_neg (by omega)]
      go_enter Tryd.func50, Tryd.ntmps50
      go_wp2_with (first | (go_at_call 24; (with_reducible refine (word_any key _).mono ?_); rw [K1.out]; rintro e w1 ⟨rfl, hb1⟩; obtain ⟨hc1, hf1⟩ := bcell hb1; have hz1 := hb1.size; (try simp at hz1); have z1_0 : w.heap.size < w1.heap.size := (by omega); have y1_0 : w.heap.size ≤ w1.heap.size := (by omega); have HB1 := Lib.hid (show Below w.heap.size w w1 by (repeat' (first | with_reducible exact Below.refl _ _ | with_reducible assumption | with_reducible refine Below.drew ?_ | with_reducible refine below_drewN' ?_ _ | with_reducible refine Below.alloc ?_ ?_ _ | with_reducible refine Below.setCell ?_ ?_ _ | with_reducible refine below_step (by assumption) ?_ ?_ | omega | (simp; done) | (simp; omega))))) | (go_at_call 57; (with_reducible refine (HC.out _ (HT.out.mono HB1.out)).mono ?_); rintro e w2 ⟨rfl, hb2⟩; have hz2 := hb2.size))
      go_ret
      exact ⟨by rfl, by (repeat' (first | with_reducible exact Below.refl _ _ | with_reducible assumption | with_reducible refine Below.drew ?_ | with_reducible refine below_drewN' ?_ _ | with_reducible refine Below.alloc ?_ ?_ _ | with_reducible refine Below.setCell ?_ ?_ _ | with_reducible refine below_step (by assumption) ?_ ?_ | omega | (simp; done) | (simp; omega)))⟩
def hasP (l some : List Lab) : Bool := some.all fun x => l.any (labB x)

theorem trm_cells {w : World} {b o : Nat} {t : Trm} (h : ∀ r, r < 3 → w.cell? ⟨b, o + r, none⟩ = (trcs t)[r]?) :
    w.cell? ⟨b, o, none⟩ = some (.string t.key) ∧ w.cell? ⟨b, o + 1, none⟩ = some (.int .i64 t.op) ∧ w.cell? ⟨b, o + 2, none⟩ = some (.slice t.va t.vals.length t.vk) := ⟨h 0 (by decide), h 1 (by decide), h 2 (by decide)⟩

def tN : ByteArray := ⟨#[110]⟩
def t7 : ByteArray := ⟨#[55]⟩
def tZ : ByteArray := ⟨#[122, 111, 110, 101]⟩
def tA : ByteArray := ⟨#[97]⟩
def tB : ByteArray := ⟨#[98]⟩
def t5 : ByteArray := ⟨#[53]⟩
def tP : ByteArray := ⟨#[112]⟩
def tQ : ByteArray := ⟨#[113]⟩
def kl : List Lab := [⟨tN, t7⟩, ⟨tZ, tA⟩]
def kz : List Lab := [⟨tZ, tA⟩]
def kp : List Lab := [⟨tN, t7⟩, ⟨tP, tQ⟩, ⟨tZ, tA⟩]
theorem kv1 : getV kl tZ = tA := by decide +kernel
theorem kv2 : getB kl tZ = true := by decide +kernel
theorem kv3 : labsB kl = true := by decide +kernel
theorem kv4 (a : Option Addr) (k : Nat) : meetP kl ⟨tZ, 1, a, k, [tA, tB]⟩ = true := (rfl : meetP kl ⟨tZ, 1, a, k, [tA, tB]⟩ = meetP kl ⟨tZ, 1, none, 0, [tA, tB]⟩).trans (by decide +kernel : meetP kl ⟨tZ, 1, none, 0, [tA, tB]⟩ = true)
theorem kv5 : meetP kl ⟨tZ, 4, none, 0, []⟩ = false := by decide +kernel
theorem kv6 (a : Option Addr) (k : Nat) : meetP kl ⟨tN, 5, a, k, [t5]⟩ = true := (rfl : meetP kl ⟨tN, 5, a, k, [t5]⟩ = meetP kl ⟨tN, 5, none, 0, [t5]⟩).trans (by decide +kernel : meetP kl ⟨tN, 5, none, 0, [t5]⟩ = true)
theorem kv7 : setP kl tP tQ = kp := by decide +kernel
theorem kv8 : hasP kl kz = true := by decide +kernel
theorem kv9 : hasP kz kl = false := by decide +kernel
theorem kva : rtrm ⟨tA, 3, none, 0, []⟩ = true := by decide +kernel
theorem kvb : rtrm ⟨tA, 1, none, 0, []⟩ = false := by decide +kernel
theorem kvc : (dropL kl tN).length = 1 := by decide +kernel
theorem kl_sz : ∀ x ∈ kl, x.key.size ≤ 1000000000 ∧ x.val.size ≤ 1000000000 := by
  intro x hx
  simp only [kl, List.mem_cons, List.not_mem_nil, or_false] at hx
  rcases hx with rfl | rfl <;> decide
theorem nilT (w : World) (key : ByteArray) (op : Int) : TrmAt w ⟨key, op, none, 0, []⟩ := ⟨RowsAt.nil, Nat.zero_le _⟩

end Lb
end Go.Proofs.YtccplljbljpjpaaDoor
