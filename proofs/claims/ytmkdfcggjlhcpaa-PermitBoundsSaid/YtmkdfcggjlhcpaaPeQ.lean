/-
  What comes of all fixed calls: known gives back true.
-/
import Derived.Test.YtmkdfcggjlhcpaaPeN
import Derived.Deep.Cut
namespace Go.Proofs.Ytmkdfcggjlhcpaa
open Go.RowKit
set_option linter.unusedVariables false
set_option linter.unusedSimpArgs false

set_option maxRecDepth 100000 in
set_option maxHeartbeats 4000000 in
theorem one_any (w : World) : Calls Try.prog 12 #[] w fun e w' => (∃ q, e = .returned (.slice (some ⟨q, 0, none⟩) 1 1) ∧ GpL w' (some ⟨q, 0, none⟩) [pG]) ∧ Below w.heap.size w w' := by
  go_enter Try.func12, Try.ntmps12
  go_wp2
  go_ret
  exact ⟨⟨_, rfl, RowsAt.new grow_len w [pG] 49⟩, by (repeat' (first | with_reducible exact Below.refl _ _ | with_reducible assumption | with_reducible refine Below.drew ?_ | with_reducible refine below_drewN' ?_ _ | with_reducible refine Below.alloc ?_ ?_ _ | with_reducible refine Below.setCell ?_ ?_ _ | with_reducible refine below_step (by assumption) ?_ ?_ | omega | (simp; done) | (simp; omega)))⟩
/-- What known holds. -/
structure KW (w V : World) (q0 q1 q2 S T : Nat) (a1 : Option Addr) (k1 b1 k2 b2 k3 : Nat) (a4 : Option Addr) (k4 : Nat) : Prop where
  bl : Below w.heap.size w V
  i : StIn V (kS q0 q1 q2)
  s : Blk V S 33 [.slice (some ⟨q0, 0, none⟩) 1 1, .slice (some ⟨q1, 0, none⟩) 1 1, .slice (some ⟨q2, 0, none⟩) 2 2, .int .i64 3, .int .i64 0, .int .i64 0, .slice none 0 0, .int .i64 0, .int .i64 0]
  t : Blk V T 33 [.slice a1 1 k1, .slice (some ⟨b1, 0, none⟩) 1 k2, .slice (some ⟨b2, 0, none⟩) 2 k3, .int .i64 3, .int .i64 0, .int .i64 0, .slice a4 0 k4, .int .i64 0, .int .i64 0]
  l : KL V a1 k1 b1 k2 b2 k3 a4 k4
theorem KW.mono {w V V' : World} {q0 q1 q2 S T : Nat} {a1 : Option Addr} {k1 b1 k2 b2 k3 : Nat} {a4 : Option Addr} {k4 : Nat} (h : KW w V q0 q1 q2 S T a1 k1 b1 k2 b2 k3 a4 k4) (hb : Below V.heap.size V V') : KW w V' q0 q1 q2 S T a1 k1 b1 k2 b2 k3 a4 k4 :=
  ⟨h.bl.trans (hb.mono h.bl.size), h.i.mono hb, h.s.below hb, h.t.below hb, h.l.mono hb⟩
theorem below_alloc (w : World) (o : Obj) : Below w.heap.size w (w.alloc o) := (Below.refl _ _).alloc (Nat.le_refl _) _
set_option maxRecDepth 100000 in
set_option maxHeartbeats 16000000 in
theorem known_any (w : World) : Calls Try.prog 5 #[] w fun e w' => e = .returned (.bool true) ∧ Below w.heap.size w w' := by
  have HA := Lib.hid (fun (q0 q1 q2 : Nat) V (h : StIn V (kS q0 q1 q2)) => show Calls Try.prog 7 #[.agg #[.slice (some ⟨q0, 0, none⟩) 1 1, .slice (some ⟨q1, 0, none⟩) 1 1, .slice (some ⟨q2, 0, none⟩) 2 2, .int .i64 3, .int .i64 0, .int .i64 0, .slice none 0 0, .int .i64 0, .int .i64 0], .agg #[.string ⟨#[99, 108, 101, 97, 110]⟩, .string ⟨#[103, 45, 50]⟩, .int .i64 0]] V fun e w' => (∃ a1 k1 b1 k2 b2 k3 a4 k4, e = .returned (.tuple #[.agg #[.slice a1 1 k1, .slice (some ⟨b1, 0, none⟩) 1 k2, .slice (some ⟨b2, 0, none⟩) 2 k3, .int .i64 3, .int .i64 0, .int .i64 0, .slice a4 0 k4, .int .i64 0, .int .i64 0], .int .i64 0]) ∧ KL w' a1 k1 b1 k2 b2 k3 a4 k4) ∧ Below V.heap.size V w' from kw_after h)
  have HF := Lib.hid (fun (q : Nat) V (h : GpL V (some ⟨q, 0, none⟩) [pG]) => show Calls Try.prog 13 #[.slice (some ⟨q, 0, none⟩) 1 1, .pointer none, .agg #[.int .i64 0, .int .i64 0, .int .i64 0], .slice none 0 0, .int .i64 0, .int .i64 0] V fun e w' => e = .returned (.tuple #[.agg #[.slice none 0 0, .slice none 0 0, .slice none 0 0, .int .i64 0, .int .i64 0, .int .i64 0, .slice none 0 0, .int .i64 0, .int .i64 0], .int .i64 23]) ∧ Below V.heap.size V w' from of_nil _ [pG] 1 V h (pG_in V) pG_light pG_right)
  have HY1 := Lib.hid (fun (q0 q1 q2 : Nat) V (h : StIn V (kS q0 q1 q2)) => show Calls Try.prog 14 #[.agg #[.slice (some ⟨q0, 0, none⟩) 1 1, .slice (some ⟨q1, 0, none⟩) 1 1, .slice (some ⟨q2, 0, none⟩) 2 2, .int .i64 3, .int .i64 0, .int .i64 0, .slice none 0 0, .int .i64 0, .int .i64 0], .agg #[.string ⟨#[117, 112]⟩, .string ⟨#[103]⟩, .int .i64 1]] V fun e w' => e = .returned (.int .i64 0) ∧ Below V.heap.size V w' from kw_why h (by decide) (by decide) (by rw [kS_w, k_up1]))
  have HY2 := Lib.hid (fun (q0 q1 q2 : Nat) V (h : StIn V (kS q0 q1 q2)) => show Calls Try.prog 14 #[.agg #[.slice (some ⟨q0, 0, none⟩) 1 1, .slice (some ⟨q1, 0, none⟩) 1 1, .slice (some ⟨q2, 0, none⟩) 2 2, .int .i64 3, .int .i64 0, .int .i64 0, .slice none 0 0, .int .i64 0, .int .i64 0], .agg #[.string ⟨#[117, 112]⟩, .string ⟨#[103]⟩, .int .i64 2]] V fun e w' => e = .returned (.int .i64 21) ∧ Below V.heap.size V w' from kw_why h (by decide) (by decide) (k_up2 _ _ _ _))
  have HY3 := Lib.hid (fun (q0 q1 q2 : Nat) V (h : StIn V (kS q0 q1 q2)) => show Calls Try.prog 14 #[.agg #[.slice (some ⟨q0, 0, none⟩) 1 1, .slice (some ⟨q1, 0, none⟩) 1 1, .slice (some ⟨q2, 0, none⟩) 2 2, .int .i64 3, .int .i64 0, .int .i64 0, .slice none 0 0, .int .i64 0, .int .i64 0], .agg #[.string ⟨#[106, 117, 109, 112]⟩, .string ⟨#[]⟩, .int .i64 0]] V fun e w' => e = .returned (.int .i64 14) ∧ Below V.heap.size V w' from kw_why h (by decide) (by decide) (k_jump _ _ _ _))
  go_enter Try.func5, Try.ntmps5
  go_upto_region 2 with (first
    | (go_at_call 12; (with_reducible refine (one_any _).mono ?_); rintro e w1 ⟨⟨q0, rfl, hq0⟩, hb1⟩; have HB1 := Lib.hid (show Below w.heap.size w w1 by (repeat' (first | with_reducible exact Below.refl _ _ | with_reducible assumption | with_reducible refine Below.drew ?_ | with_reducible refine below_drewN' ?_ _ | with_reducible refine Below.alloc ?_ ?_ _ | with_reducible refine Below.setCell ?_ ?_ _ | with_reducible refine below_step (by assumption) ?_ ?_ | omega | (simp; done) | (simp; omega)))); have HQ1 := Lib.hid hq0; have hz1 := HB1.out.size; clear hb1 hq0)
    | ((with_reducible refine at_store (ty := 33) ?_); refine store_new rfl 33 (.tmp 1) (.tmp 13) rfl _ _ rfl rfl (by kernel_rfl) rfl (by rfl) rfl ?_))
  obtain ⟨A1, hA1⟩ : ∃ V, V = w1.alloc (.cells #[.int .i64 2] 3) := ⟨_, rfl⟩
  obtain ⟨A2, hA2⟩ : ∃ V, V = A1.alloc (.cells #[.string ⟨#[103, 45, 49]⟩, .string ⟨#[103]⟩, .int .i64 2, .int .i64 0, .int .i64 0, .string ⟨#[103, 45, 50]⟩, .string ⟨#[103]⟩, .int .i64 4, .int .i64 0, .int .i64 0] 51) := ⟨_, rfl⟩
  obtain ⟨V1, hV1⟩ : ∃ V, V = A2.alloc (.cells #[.slice (some ⟨q0, 0, none⟩) 1 1, .slice (some ⟨w1.heap.size, 0, none⟩) 1 1, .slice (some ⟨w1.heap.size + 1, 0, none⟩) 2 2, .int .i64 3, .int .i64 0, .int .i64 0, .slice none 0 0, .int .i64 0, .int .i64 0] 33) := ⟨_, rfl⟩
  have hb2 : Below w1.heap.size w1 A1 := by rw [hA1]; exact below_alloc _ _
  have hb3 : Below A1.heap.size A1 A2 := by rw [hA2]; exact below_alloc _ _
  have hb4 : Below A2.heap.size A2 V1 := by rw [hV1]; exact below_alloc _ _
  have hs1 : A1.heap.size = w1.heap.size + 1 := by rw [hA1]; exact World.size_alloc _ _
  have hs2 : A2.heap.size = w1.heap.size + 1 + 1 := by rw [hA2, World.size_alloc, hs1]
  have ht : IntL A1 (some ⟨w1.heap.size, 0, none⟩) [2] := by rw [hA1]; exact RowsAt.new pcs_len w1 [2] 3
  have hi : InsL A2 (some ⟨w1.heap.size + 1, 0, none⟩) kL := by rw [hA2, ← hs1]; exact RowsAt.new irow_len A1 kL 51
  have HI1 := Lib.hid (show StIn V1 (kS q0 w1.heap.size (w1.heap.size + 1)) from ⟨((HQ1.out.mono hb2).mono hb3).mono hb4, pG_in _, (ht.mono hb3).mono hb4, hi.mono hb4, RowsAt.nil, (fun h => by cases h), (fun h => by cases h), (fun h => by cases h), fun _ => ⟨rfl, rfl⟩⟩)
  have HS1 := Lib.hid (show Blk V1 (w1.heap.size + 1 + 1) 33 [.slice (some ⟨q0, 0, none⟩) 1 1, .slice (some ⟨w1.heap.size, 0, none⟩) 1 1, .slice (some ⟨w1.heap.size + 1, 0, none⟩) 2 2, .int .i64 3, .int .i64 0, .int .i64 0, .slice none 0 0, .int .i64 0, .int .i64 0] by rw [hV1]; exact Blk.new_at hs2)
  have HB1' := Lib.hid (show Below w.heap.size w V1 from ((HB1.out.trans (hb2.mono HB1.out.size)).trans (hb3.mono (Nat.le_trans HB1.out.size hb2.size))).trans (hb4.mono (Nat.le_trans HB1.out.size (Nat.le_trans hb2.size hb3.size))))
  rw [← hA1, ← hA2, ← hV1]
  clear hA1 hA2 hV1 hb2 hb3 hb4 HQ1 HB1 hs1 hs2 ht hi
  generalize w1.heap.size = q1 at HI1 HS1 hz1 ⊢
  generalize q1 + 1 = q2 at HI1 HS1 ⊢
  generalize q2 + 1 = S at HS1 ⊢
  go_upto_region 3 with (first
    | ((with_reducible refine at_load (ty := 33) ?_); refine load_cells rfl 33 (.tmp 1) rfl S 0 rfl [.slice (some ⟨q0, 0, none⟩) 1 1, .slice (some ⟨q1, 0, none⟩) 1 1, .slice (some ⟨q2, 0, none⟩) 2 2, .int .i64 3, .int .i64 0, .int .i64 0, .slice none 0 0, .int .i64 0, .int .i64 0] _ Try.underlying33 rfl (by kernel_rfl) (HS1.out.range 0 _ rfl) ?_)
    | (go_at_call 7; (with_reducible refine (HA.out _ _ _ _ HI1.out).mono ?_); rintro e w2 ⟨⟨a1, k1, b1, k2, b2, k3, a4, k4, rfl, hl⟩, hb⟩; have HI2 := Lib.hid (HI1.out.mono hb); have HS2 := Lib.hid (HS1.out.below hb); have HB2 := Lib.hid (HB1'.out.trans (hb.mono HB1'.out.size)); have HL2 := Lib.hid hl; clear hl hb)
    | ((with_reducible refine at_store (ty := 33) ?_); refine store_new rfl 33 (.tmp 2) (.tmp 18) rfl _ _ rfl rfl (by kernel_rfl) rfl (by rfl) rfl ?_))
  obtain ⟨V2, hV2⟩ : ∃ V, V = w2.alloc (.cells #[.slice a1 1 k1, .slice (some ⟨b1, 0, none⟩) 1 k2, .slice (some ⟨b2, 0, none⟩) 2 k3, .int .i64 3, .int .i64 0, .int .i64 0, .slice a4 0 k4, .int .i64 0, .int .i64 0] 33) := ⟨_, rfl⟩
  have hb2 : Below w2.heap.size w2 V2 := by rw [hV2]; exact below_alloc _ _
  have HK2 := Lib.hid (show KW w V2 q0 q1 q2 S w2.heap.size a1 k1 b1 k2 b2 k3 a4 k4 from ⟨HB2.out.trans (hb2.mono HB2.out.size), HI2.out.mono hb2, HS2.out.below hb2, by rw [hV2]; exact Blk.new _ _ _, HL2.out.mono hb2⟩)
  rw [← hV2]
  clear hV2 hb2 HI2 HS2 HB2 HL2 HI1 HS1 HB1' hz1
  generalize w2.heap.size = T at HK2 ⊢
  go_upto_region 4 with (first
    | (go_at_call 12; (with_reducible refine (one_any _).mono ?_); rintro e w3 ⟨⟨p0, rfl, hq0⟩, hb⟩; have HK3 := Lib.hid (HK2.out.mono hb); have HQ3 := Lib.hid hq0; clear hb hq0)
    | (go_at_call 13; (with_reducible refine (HF.out _ _ HQ3.out).mono ?_); rintro e w4 ⟨rfl, hb⟩; have HK4 := Lib.hid (HK3.out.mono hb); clear hb)
    | ((with_reducible refine at_store (ty := 33) ?_); refine store_new rfl 33 (.tmp 4) (.tmp 24) rfl _ _ rfl rfl (by kernel_rfl) rfl (by rfl) rfl ?_))
  obtain ⟨V3, hV3⟩ : ∃ V, V = w4.alloc (.cells #[.slice none 0 0, .slice none 0 0, .slice none 0 0, .int .i64 0, .int .i64 0, .int .i64 0, .slice none 0 0, .int .i64 0, .int .i64 0] 33) := ⟨_, rfl⟩
  have HK := Lib.hid (show KW w V3 q0 q1 q2 S T a1 k1 b1 k2 b2 k3 a4 k4 by rw [hV3]; exact HK4.out.mono (below_alloc _ _))
  rw [← hV3]
  clear hV3 HK2 HK3 HQ3 HK4
  go_upto_region 5 with (fail)
  obtain ⟨V4, hV4⟩ : ∃ V, V = V3.alloc (.cells #[.string ⟨#[117, 112]⟩, .string ⟨#[103]⟩, .int .i64 1, .string ⟨#[117, 112]⟩, .string ⟨#[103]⟩, .int .i64 1] 39) := ⟨_, rfl⟩
  have HC := Lib.hid (show Blk V4 V3.heap.size 39 [.string ⟨#[117, 112]⟩, .string ⟨#[103]⟩, .int .i64 1, .string ⟨#[117, 112]⟩, .string ⟨#[103]⟩, .int .i64 1] by rw [hV4]; exact Blk.new _ _ _)
  have HK4 := Lib.hid (show KW w V4 q0 q1 q2 S T a1 k1 b1 k2 b2 k3 a4 k4 by rw [hV4]; exact HK.out.mono (below_alloc _ _))
  rw [← hV4]
  clear hV4 HK
  generalize V3.heap.size = CB at HC ⊢
  have HK := HK4
  clear HK4
  have y1 := HK.out.t.cell 1
  have y2 := HK.out.t.cell 2
  have d1 := HK.out.l.c1
  have d7 := HK.out.l.c7
  have l1 := HK.out.l.lt1
  have l2 := HK.out.l.lt2
  have l3 := HK.out.t.lt
  dsimp only [List.getElem?_cons_zero, List.getElem?_cons_succ] at y1 y2
  have HQ := HK
  clear HK
  have l4 := HQ.out.s.lt
  have l5 := HC.out.lt
  have HRs := Lib.hid (HQ.out.s.range 0 [.slice (some ⟨q0, 0, none⟩) 1 1, .slice (some ⟨q1, 0, none⟩) 1 1, .slice (some ⟨q2, 0, none⟩) 2 2, .int .i64 3, .int .i64 0, .int .i64 0, .slice none 0 0, .int .i64 0, .int .i64 0] rfl)
  have HRt := Lib.hid (HQ.out.t.range 0 [.slice a1 1 k1, .slice (some ⟨b1, 0, none⟩) 1 k2, .slice (some ⟨b2, 0, none⟩) 2 k3, .int .i64 3, .int .i64 0, .int .i64 0, .slice a4 0 k4, .int .i64 0, .int .i64 0] rfl)
  have HRc := Lib.hid (HC.out.range 0 [.string ⟨#[117, 112]⟩, .string ⟨#[103]⟩, .int .i64 1] rfl)
  have HAl := Lib.hid (fun V (hV : Below V4.heap.size V4 V) => kall_any q0 q1 q2 CB 2 V (HQ.out.i.mono hV) (Nat.lt_of_lt_of_le l5 hV.size) ((HC.out.below hV).range 0 [.string ⟨#[117, 112]⟩, .string ⟨#[103]⟩, .int .i64 1] rfl) ((HC.out.below hV).range 3 [.string ⟨#[117, 112]⟩, .string ⟨#[103]⟩, .int .i64 1] rfl))
  have hcH := held_cell
  refine region_rel (by kernel_rfl) (by kernel_rfl) ?_
  dsimp only [List.append]
  repeat
    ((with_reducible refine relStep (fun K hK => ?_))
     (have HK := Lib.hid hK)
     clear hK
     (apply relInl
      · intro r n hf
        have Hf := Lib.hid hf
        clear hf
        (first
          | ((first | ((with_reducible refine at_rel (ty := 33) ?_); refine rel_load rfl S 0 rfl [.slice (some ⟨q0, 0, none⟩) 1 1, .slice (some ⟨q1, 0, none⟩) 1 1, .slice (some ⟨q2, 0, none⟩) 2 2, .int .i64 3, .int .i64 0, .int .i64 0, .slice none 0 0, .int .i64 0, .int .i64 0] _ Try.underlying33 rfl (by kernel_rfl) (rangeAt_mono HRs.out l4 n.below) rfl) | ((with_reducible refine at_rel (ty := 33) ?_); refine rel_load rfl T 0 rfl [.slice a1 1 k1, .slice (some ⟨b1, 0, none⟩) 1 k2, .slice (some ⟨b2, 0, none⟩) 2 k3, .int .i64 3, .int .i64 0, .int .i64 0, .slice a4 0 k4, .int .i64 0, .int .i64 0] _ Try.underlying33 rfl (by kernel_rfl) (rangeAt_mono HRt.out l3 n.below) rfl) | ((with_reducible refine at_rel (ty := 39) ?_); refine rel_load rfl CB 0 rfl [.string ⟨#[117, 112]⟩, .string ⟨#[103]⟩, .int .i64 1] _ Try.underlying39 rfl (by kernel_rfl) (rangeAt_mono HRc.out l5 n.below) rfl)))
          | (unfold relAt
             go_simp
             (first | (refine relUpon_val ?_ (Below.refl _ _); exact rfl) | exact rfl | (refine relUpon_enter ?_; (first | (go_at_call 14; (with_reducible refine (HY1.out _ _ _ _ (HQ.out.i.mono n.below)).mono ?_); rintro e w9 ⟨rfl, hb⟩; exact ⟨⟨_, rfl, rfl⟩, hb⟩) | (go_at_call 14; (with_reducible refine (HY2.out _ _ _ _ (HQ.out.i.mono n.below)).mono ?_); rintro e w9 ⟨rfl, hb⟩; exact ⟨⟨_, rfl, rfl⟩, hb⟩) | (go_at_call 14; (with_reducible refine (HY3.out _ _ _ _ (HQ.out.i.mono n.below)).mono ?_); rintro e w9 ⟨rfl, hb⟩; exact ⟨⟨_, rfl, rfl⟩, hb⟩) | (go_at_call 14; (with_reducible refine (HQ.out.l.why _ n.below).mono ?_); rintro e w9 ⟨rfl, hb⟩; exact ⟨⟨_, rfl, rfl⟩, hb⟩) | (go_at_call 15; (with_reducible refine (HAl.out _ n.below).mono ?_); rintro e w9 ⟨rfl, hb⟩; exact ⟨⟨_, rfl, rfl⟩, hb⟩))))))
      (simp only [Act.put, List.setIfInBounds_toArray, List.set_cons_zero, List.set_cons_succ])
      (with_reducible refine HK.out _ _ ?_)
      clear HK K))
  refine relNil ?_
  intro r9 n9 hx9
  clear hcH
  (try simp only [List.nil_append, List.cons_append, List.mem_cons, List.not_mem_nil, or_false, forall_eq_or_imp, forall_eq, false_implies, implies_true] at hx9)
  obtain ⟨w9, hb9⟩ := n9
  (try dsimp only)
  obtain ⟨hc9, hf9⟩ := bcell hb9
  have hz9 := hb9.size
  (try simp at hz9)
  have HB9 := Lib.hid (HQ.out.bl.trans (hb9.mono HQ.out.bl.size))
  go_wp2
  refine bodyPost_ret (v := .bool true) (by simp [results, Try.results5, go_sem]) rfl ⟨rfl, HB9.out⟩
end Go.Proofs.Ytmkdfcggjlhcpaa
