/-
  PermitTaken: what is permitted in the state of a provider the provider takes.
-/
import Derived.Test.YtmkdfcggjlhcpaaGreatDoorPeNx
import Derived.Deep.Cut
import Derived.Test.YtmkdfcggjlhcpaaGreatDoorGItox
import Derived.Test.YtmkdfcggjlhcpaaGreatDoorClPx
import Derived.Deep.QuietTactic
import Derived.Laws.BitsLemmas
namespace Go.Proofs.YtmkdfcggjlhcpaaGreatDoor
open Go.RowKit
set_option linter.unusedVariables false
set_option linter.unusedSimpArgs false
set_option maxRecDepth 100000 in
set_option maxHeartbeats 4000000 in
theorem one_any (w : World) : Calls Tryz.prog 23 #[] w fun e w' => (∃ q, e = .returned (.slice (some ⟨q, 0, none⟩) 1 1) ∧ GpL w' (some ⟨q, 0, none⟩) [pG]) ∧ Below w.heap.size w w' := by
  go_enter Tryz.func23, Tryz.ntmps23
  go_wp2
  go_ret
  exact ⟨⟨_, rfl, RowsAt.new grow_len w [pG] 37⟩, by (repeat' (first | with_reducible exact Below.refl _ _ | with_reducible assumption | with_reducible refine Below.drew ?_ | with_reducible refine below_drewN' ?_ _ | with_reducible refine Below.alloc ?_ ?_ _ | with_reducible refine Below.setCell ?_ ?_ _ | with_reducible refine below_step (by assumption) ?_ ?_ | omega | (simp; done) | (simp; omega)))⟩
structure KW (w V : World) (q0 q1 q2 S T : Nat) (a1 : Option Addr) (k1 b1 k2 b2 k3 : Nat) (a4 : Option Addr) (k4 : Nat) : Prop where
  bl : Below w.heap.size w V
  i : StIn V (kS q0 q1 q2)
  s : Blk V S 52 [.slice (some ⟨q0, 0, none⟩) 1 1, .slice (some ⟨q1, 0, none⟩) 1 1, .slice (some ⟨q2, 0, none⟩) 2 2, .int .i64 3, .int .i64 0, .int .i64 0, .slice none 0 0, .int .i64 0, .int .i64 0]
  t : Blk V T 52 [.slice a1 1 k1, .slice (some ⟨b1, 0, none⟩) 1 k2, .slice (some ⟨b2, 0, none⟩) 2 k3, .int .i64 3, .int .i64 0, .int .i64 0, .slice a4 0 k4, .int .i64 0, .int .i64 0]
  l : KL V a1 k1 b1 k2 b2 k3 a4 k4
theorem KW.mono {w V V' : World} {q0 q1 q2 S T : Nat} {a1 : Option Addr} {k1 b1 k2 b2 k3 : Nat} {a4 : Option Addr} {k4 : Nat} (h : KW w V q0 q1 q2 S T a1 k1 b1 k2 b2 k3 a4 k4) (hb : Below V.heap.size V V') : KW w V' q0 q1 q2 S T a1 k1 b1 k2 b2 k3 a4 k4 :=
  ⟨h.bl.trans (hb.mono h.bl.size), h.i.mono hb, h.s.below hb, h.t.below hb, h.l.mono hb⟩
theorem below_alloc (w : World) (o : Obj) : Below w.heap.size w (w.alloc o) := (Below.refl _ _).alloc (Nat.le_refl _) _
set_option maxRecDepth 100000 in
set_option maxHeartbeats 16000000 in
theorem known_any (w : World) : Calls Tryz.prog 6 #[] w fun e w' => e = .returned (.bool true) ∧ Below w.heap.size w w' := by
  have HA := Lib.hid (fun (q0 q1 q2 : Nat) V (h : StIn V (kS q0 q1 q2)) => show Calls Tryz.prog 17 #[.agg #[.slice (some ⟨q0, 0, none⟩) 1 1, .slice (some ⟨q1, 0, none⟩) 1 1, .slice (some ⟨q2, 0, none⟩) 2 2, .int .i64 3, .int .i64 0, .int .i64 0, .slice none 0 0, .int .i64 0, .int .i64 0], .agg #[.string ⟨#[99, 108, 101, 97, 110]⟩, .string ⟨#[103, 45, 50]⟩, .int .i64 0]] V fun e w' => (∃ a1 k1 b1 k2 b2 k3 a4 k4, e = .returned (.tuple #[.agg #[.slice a1 1 k1, .slice (some ⟨b1, 0, none⟩) 1 k2, .slice (some ⟨b2, 0, none⟩) 2 k3, .int .i64 3, .int .i64 0, .int .i64 0, .slice a4 0 k4, .int .i64 0, .int .i64 0], .int .i64 0]) ∧ KL w' a1 k1 b1 k2 b2 k3 a4 k4) ∧ Below V.heap.size V w' from kw_after h)
  have HF := Lib.hid (fun (q : Nat) V (h : GpL V (some ⟨q, 0, none⟩) [pG]) => show Calls Tryz.prog 13 #[.slice (some ⟨q, 0, none⟩) 1 1, .pointer none, .agg #[.int .i64 0, .int .i64 0, .int .i64 0], .slice none 0 0, .int .i64 0, .int .i64 0] V fun e w' => e = .returned (.tuple #[.agg #[.slice none 0 0, .slice none 0 0, .slice none 0 0, .int .i64 0, .int .i64 0, .int .i64 0, .slice none 0 0, .int .i64 0, .int .i64 0], .int .i64 23]) ∧ Below V.heap.size V w' from of_nil _ [pG] 1 V h (pG_in V) pG_light pG_right)
  have HY1 := Lib.hid (fun (q0 q1 q2 : Nat) V (h : StIn V (kS q0 q1 q2)) => show Calls Tryz.prog 24 #[.agg #[.slice (some ⟨q0, 0, none⟩) 1 1, .slice (some ⟨q1, 0, none⟩) 1 1, .slice (some ⟨q2, 0, none⟩) 2 2, .int .i64 3, .int .i64 0, .int .i64 0, .slice none 0 0, .int .i64 0, .int .i64 0], .agg #[.string ⟨#[117, 112]⟩, .string ⟨#[103]⟩, .int .i64 1]] V fun e w' => e = .returned (.int .i64 0) ∧ Below V.heap.size V w' from kw_why h (by decide) (by decide) (by rw [kS_w, k_up1]))
  have HY2 := Lib.hid (fun (q0 q1 q2 : Nat) V (h : StIn V (kS q0 q1 q2)) => show Calls Tryz.prog 24 #[.agg #[.slice (some ⟨q0, 0, none⟩) 1 1, .slice (some ⟨q1, 0, none⟩) 1 1, .slice (some ⟨q2, 0, none⟩) 2 2, .int .i64 3, .int .i64 0, .int .i64 0, .slice none 0 0, .int .i64 0, .int .i64 0], .agg #[.string ⟨#[117, 112]⟩, .string ⟨#[103]⟩, .int .i64 2]] V fun e w' => e = .returned (.int .i64 21) ∧ Below V.heap.size V w' from kw_why h (by decide) (by decide) (k_up2 _ _ _ _))
  have HY3 := Lib.hid (fun (q0 q1 q2 : Nat) V (h : StIn V (kS q0 q1 q2)) => show Calls Tryz.prog 24 #[.agg #[.slice (some ⟨q0, 0, none⟩) 1 1, .slice (some ⟨q1, 0, none⟩) 1 1, .slice (some ⟨q2, 0, none⟩) 2 2, .int .i64 3, .int .i64 0, .int .i64 0, .slice none 0 0, .int .i64 0, .int .i64 0], .agg #[.string ⟨#[106, 117, 109, 112]⟩, .string ⟨#[]⟩, .int .i64 0]] V fun e w' => e = .returned (.int .i64 14) ∧ Below V.heap.size V w' from kw_why h (by decide) (by decide) (k_jump _ _ _ _))
  go_enter Tryz.func6, Tryz.ntmps6
  go_upto_region 2 with (first
    | (go_at_call 23; (with_reducible refine (one_any _).mono ?_); rintro e w1 ⟨⟨q0, rfl, hq0⟩, hb1⟩; have HB1 := Lib.hid (show Below w.heap.size w w1 by (repeat' (first | with_reducible exact Below.refl _ _ | with_reducible assumption | with_reducible refine Below.drew ?_ | with_reducible refine below_drewN' ?_ _ | with_reducible refine Below.alloc ?_ ?_ _ | with_reducible refine Below.setCell ?_ ?_ _ | with_reducible refine below_step (by assumption) ?_ ?_ | omega | (simp; done) | (simp; omega)))); have HQ1 := Lib.hid hq0; have hz1 := HB1.out.size; clear hb1 hq0)
    | ((with_reducible refine at_store (ty := 52) ?_); refine store_new rfl 52 (.tmp 1) (.tmp 13) rfl _ _ rfl rfl (by kernel_rfl) rfl (by rfl) rfl ?_))
  obtain ⟨A1, hA1⟩ : ∃ V, V = w1.alloc (.cells #[.int .i64 2] 3) := ⟨_, rfl⟩
  obtain ⟨A2, hA2⟩ : ∃ V, V = A1.alloc (.cells #[.string ⟨#[103, 45, 49]⟩, .string ⟨#[103]⟩, .int .i64 2, .int .i64 0, .int .i64 0, .string ⟨#[103, 45, 50]⟩, .string ⟨#[103]⟩, .int .i64 4, .int .i64 0, .int .i64 0] 62) := ⟨_, rfl⟩
  obtain ⟨V1, hV1⟩ : ∃ V, V = A2.alloc (.cells #[.slice (some ⟨q0, 0, none⟩) 1 1, .slice (some ⟨w1.heap.size, 0, none⟩) 1 1, .slice (some ⟨w1.heap.size + 1, 0, none⟩) 2 2, .int .i64 3, .int .i64 0, .int .i64 0, .slice none 0 0, .int .i64 0, .int .i64 0] 52) := ⟨_, rfl⟩
  have hb2 : Below w1.heap.size w1 A1 := by rw [hA1]; exact below_alloc _ _
  have hb3 : Below A1.heap.size A1 A2 := by rw [hA2]; exact below_alloc _ _
  have hb4 : Below A2.heap.size A2 V1 := by rw [hV1]; exact below_alloc _ _
  have hs1 : A1.heap.size = w1.heap.size + 1 := by rw [hA1]; exact World.size_alloc _ _
  have hs2 : A2.heap.size = w1.heap.size + 1 + 1 := by rw [hA2, World.size_alloc, hs1]
  have ht : IntL A1 (some ⟨w1.heap.size, 0, none⟩) [2] := by rw [hA1]; exact RowsAt.new pcs_len w1 [2] 3
  have hi : InsL A2 (some ⟨w1.heap.size + 1, 0, none⟩) kL := by rw [hA2, ← hs1]; exact RowsAt.new irow_len A1 kL 62
  have HI1 := Lib.hid (show StIn V1 (kS q0 w1.heap.size (w1.heap.size + 1)) from ⟨((HQ1.out.mono hb2).mono hb3).mono hb4, pG_in _, (ht.mono hb3).mono hb4, hi.mono hb4, RowsAt.nil, (fun h => by cases h), (fun h => by cases h), (fun h => by cases h), fun _ => ⟨rfl, rfl⟩⟩)
  have HS1 := Lib.hid (show Blk V1 (w1.heap.size + 1 + 1) 52 [.slice (some ⟨q0, 0, none⟩) 1 1, .slice (some ⟨w1.heap.size, 0, none⟩) 1 1, .slice (some ⟨w1.heap.size + 1, 0, none⟩) 2 2, .int .i64 3, .int .i64 0, .int .i64 0, .slice none 0 0, .int .i64 0, .int .i64 0] by rw [hV1]; exact Blk.new_at hs2)
  have HB1' := Lib.hid (show Below w.heap.size w V1 from ((HB1.out.trans (hb2.mono HB1.out.size)).trans (hb3.mono (Nat.le_trans HB1.out.size hb2.size))).trans (hb4.mono (Nat.le_trans HB1.out.size (Nat.le_trans hb2.size hb3.size))))
  rw [← hA1, ← hA2, ← hV1]
  clear hA1 hA2 hV1 hb2 hb3 hb4 HQ1 HB1 hs1 hs2 ht hi
  generalize w1.heap.size = q1 at HI1 HS1 hz1 ⊢
  generalize q1 + 1 = q2 at HI1 HS1 ⊢
  generalize q2 + 1 = S at HS1 ⊢
  go_upto_region 3 with (first
    | ((with_reducible refine at_load (ty := 52) ?_); refine load_cells rfl 52 (.tmp 1) rfl S 0 rfl [.slice (some ⟨q0, 0, none⟩) 1 1, .slice (some ⟨q1, 0, none⟩) 1 1, .slice (some ⟨q2, 0, none⟩) 2 2, .int .i64 3, .int .i64 0, .int .i64 0, .slice none 0 0, .int .i64 0, .int .i64 0] _ Tryz.underlying52 rfl (by kernel_rfl) (HS1.out.range 0 _ rfl) ?_)
    | (go_at_call 17; (with_reducible refine (HA.out _ _ _ _ HI1.out).mono ?_); rintro e w2 ⟨⟨a1, k1, b1, k2, b2, k3, a4, k4, rfl, hl⟩, hb⟩; have HI2 := Lib.hid (HI1.out.mono hb); have HS2 := Lib.hid (HS1.out.below hb); have HB2 := Lib.hid (HB1'.out.trans (hb.mono HB1'.out.size)); have HL2 := Lib.hid hl; clear hl hb)
    | ((with_reducible refine at_store (ty := 52) ?_); refine store_new rfl 52 (.tmp 2) (.tmp 18) rfl _ _ rfl rfl (by kernel_rfl) rfl (by rfl) rfl ?_))
  obtain ⟨V2, hV2⟩ : ∃ V, V = w2.alloc (.cells #[.slice a1 1 k1, .slice (some ⟨b1, 0, none⟩) 1 k2, .slice (some ⟨b2, 0, none⟩) 2 k3, .int .i64 3, .int .i64 0, .int .i64 0, .slice a4 0 k4, .int .i64 0, .int .i64 0] 52) := ⟨_, rfl⟩
  have hb2 : Below w2.heap.size w2 V2 := by rw [hV2]; exact below_alloc _ _
  have HK2 := Lib.hid (show KW w V2 q0 q1 q2 S w2.heap.size a1 k1 b1 k2 b2 k3 a4 k4 from ⟨HB2.out.trans (hb2.mono HB2.out.size), HI2.out.mono hb2, HS2.out.below hb2, by rw [hV2]; exact Blk.new _ _ _, HL2.out.mono hb2⟩)
  rw [← hV2]
  clear hV2 hb2 HI2 HS2 HB2 HL2 HI1 HS1 HB1' hz1
  generalize w2.heap.size = T at HK2 ⊢
  go_upto_region 4 with (first
    | (go_at_call 23; (with_reducible refine (one_any _).mono ?_); rintro e w3 ⟨⟨p0, rfl, hq0⟩, hb⟩; have HK3 := Lib.hid (HK2.out.mono hb); have HQ3 := Lib.hid hq0; clear hb hq0)
    | (go_at_call 13; (with_reducible refine (HF.out _ _ HQ3.out).mono ?_); rintro e w4 ⟨rfl, hb⟩; have HK4 := Lib.hid (HK3.out.mono hb); clear hb)
    | ((with_reducible refine at_store (ty := 52) ?_); refine store_new rfl 52 (.tmp 4) (.tmp 24) rfl _ _ rfl rfl (by kernel_rfl) rfl (by rfl) rfl ?_))
  obtain ⟨V3, hV3⟩ : ∃ V, V = w4.alloc (.cells #[.slice none 0 0, .slice none 0 0, .slice none 0 0, .int .i64 0, .int .i64 0, .int .i64 0, .slice none 0 0, .int .i64 0, .int .i64 0] 52) := ⟨_, rfl⟩
  have HK := Lib.hid (show KW w V3 q0 q1 q2 S T a1 k1 b1 k2 b2 k3 a4 k4 by rw [hV3]; exact HK4.out.mono (below_alloc _ _))
  rw [← hV3]
  clear hV3 HK2 HK3 HQ3 HK4
  go_upto_region 5 with (fail)
  obtain ⟨V4, hV4⟩ : ∃ V, V = V3.alloc (.cells #[.string ⟨#[117, 112]⟩, .string ⟨#[103]⟩, .int .i64 1, .string ⟨#[117, 112]⟩, .string ⟨#[103]⟩, .int .i64 1] 59) := ⟨_, rfl⟩
  have HC := Lib.hid (show Blk V4 V3.heap.size 59 [.string ⟨#[117, 112]⟩, .string ⟨#[103]⟩, .int .i64 1, .string ⟨#[117, 112]⟩, .string ⟨#[103]⟩, .int .i64 1] by rw [hV4]; exact Blk.new _ _ _)
  have HK4 := Lib.hid (show KW w V4 q0 q1 q2 S T a1 k1 b1 k2 b2 k3 a4 k4 by rw [hV4]; exact HK.out.mono (below_alloc _ _))
  rw [← hV4]
  clear hV4 HK
  generalize V3.heap.size = CB at HC ⊢
  have HK := HK4
  clear HK4
  have y1 := HK.out.t.cell 1
  have y2 := HK.out.t.cell 2
  have d1 := HK.out.l.c1
  have d7 := HK.out.l.c7
  have l1 := HK.out.l.lt1
  have l2 := HK.out.l.lt2
  have l3 := HK.out.t.lt
  dsimp only [List.getElem?_cons_zero, List.getElem?_cons_succ] at y1 y2
  have HQ := HK
  clear HK
  have l4 := HQ.out.s.lt
  have l5 := HC.out.lt
  have HRs := Lib.hid (HQ.out.s.range 0 [.slice (some ⟨q0, 0, none⟩) 1 1, .slice (some ⟨q1, 0, none⟩) 1 1, .slice (some ⟨q2, 0, none⟩) 2 2, .int .i64 3, .int .i64 0, .int .i64 0, .slice none 0 0, .int .i64 0, .int .i64 0] rfl)
  have HRt := Lib.hid (HQ.out.t.range 0 [.slice a1 1 k1, .slice (some ⟨b1, 0, none⟩) 1 k2, .slice (some ⟨b2, 0, none⟩) 2 k3, .int .i64 3, .int .i64 0, .int .i64 0, .slice a4 0 k4, .int .i64 0, .int .i64 0] rfl)
  have HRc := Lib.hid (HC.out.range 0 [.string ⟨#[117, 112]⟩, .string ⟨#[103]⟩, .int .i64 1] rfl)
  have HAl := Lib.hid (fun V (hV : Below V4.heap.size V4 V) => kall_any q0 q1 q2 CB 2 V (HQ.out.i.mono hV) (Nat.lt_of_lt_of_le l5 hV.size) ((HC.out.below hV).range 0 [.string ⟨#[117, 112]⟩, .string ⟨#[103]⟩, .int .i64 1] rfl) ((HC.out.below hV).range 3 [.string ⟨#[117, 112]⟩, .string ⟨#[103]⟩, .int .i64 1] rfl))
  have hcH := held_cell
  refine region_rel (by kernel_rfl) (by kernel_rfl) ?_
  dsimp only [List.append]
  repeat
    ((with_reducible refine relStep (fun K hK => ?_))
     (have HK := Lib.hid hK)
     clear hK
     (apply relInl
      · intro r n hf
        have Hf := Lib.hid hf
        clear hf
        (first
          | ((first | ((with_reducible refine at_rel (ty := 52) ?_); refine rel_load rfl S 0 rfl [.slice (some ⟨q0, 0, none⟩) 1 1, .slice (some ⟨q1, 0, none⟩) 1 1, .slice (some ⟨q2, 0, none⟩) 2 2, .int .i64 3, .int .i64 0, .int .i64 0, .slice none 0 0, .int .i64 0, .int .i64 0] _ Tryz.underlying52 rfl (by kernel_rfl) (rangeAt_mono HRs.out l4 n.below) rfl) | ((with_reducible refine at_rel (ty := 52) ?_); refine rel_load rfl T 0 rfl [.slice a1 1 k1, .slice (some ⟨b1, 0, none⟩) 1 k2, .slice (some ⟨b2, 0, none⟩) 2 k3, .int .i64 3, .int .i64 0, .int .i64 0, .slice a4 0 k4, .int .i64 0, .int .i64 0] _ Tryz.underlying52 rfl (by kernel_rfl) (rangeAt_mono HRt.out l3 n.below) rfl) | ((with_reducible refine at_rel (ty := 59) ?_); refine rel_load rfl CB 0 rfl [.string ⟨#[117, 112]⟩, .string ⟨#[103]⟩, .int .i64 1] _ Tryz.underlying59 rfl (by kernel_rfl) (rangeAt_mono HRc.out l5 n.below) rfl)))
          | (unfold relAt
             go_simp
             (first | (refine relUpon_val ?_ (Below.refl _ _); exact rfl) | exact rfl | (refine relUpon_enter ?_; (first | (go_at_call 24; (with_reducible refine (HY1.out _ _ _ _ (HQ.out.i.mono n.below)).mono ?_); rintro e w9 ⟨rfl, hb⟩; exact ⟨⟨_, rfl, rfl⟩, hb⟩) | (go_at_call 24; (with_reducible refine (HY2.out _ _ _ _ (HQ.out.i.mono n.below)).mono ?_); rintro e w9 ⟨rfl, hb⟩; exact ⟨⟨_, rfl, rfl⟩, hb⟩) | (go_at_call 24; (with_reducible refine (HY3.out _ _ _ _ (HQ.out.i.mono n.below)).mono ?_); rintro e w9 ⟨rfl, hb⟩; exact ⟨⟨_, rfl, rfl⟩, hb⟩) | (go_at_call 24; (with_reducible refine (HQ.out.l.why _ n.below).mono ?_); rintro e w9 ⟨rfl, hb⟩; exact ⟨⟨_, rfl, rfl⟩, hb⟩) | (go_at_call 25; (with_reducible refine (HAl.out _ n.below).mono ?_); rintro e w9 ⟨rfl, hb⟩; exact ⟨⟨_, rfl, rfl⟩, hb⟩))))))
      (simp only [Act.put, List.setIfInBounds_toArray, List.set_cons_zero, List.set_cons_succ])
      (with_reducible refine HK.out _ _ ?_)
      clear HK K))
  refine relNil ?_
  intro r9 n9 hx9
  clear hcH
  (try simp only [List.nil_append, List.cons_append, List.mem_cons, List.not_mem_nil, or_false, forall_eq_or_imp, forall_eq, false_implies, implies_true] at hx9)
  obtain ⟨w9, hb9⟩ := n9
  (try dsimp only)
  obtain ⟨hc9, hf9⟩ := bcell hb9
  have hz9 := hb9.size
  (try simp at hz9)
  have HB9 := Lib.hid (HQ.out.bl.trans (hb9.mono HQ.out.bl.size))
  go_wp2
  refine bodyPost_ret (v := .bool true) (by simp [results, Tryz.results6, go_sem]) rfl ⟨rfl, HB9.out⟩
end Go.Proofs.YtmkdfcggjlhcpaaGreatDoor
namespace Go.Proofs.YtmkdfcggjlhcpaaGreatDoor
open Go.RowKit
set_option linter.unusedVariables false
set_option linter.unusedSimpArgs false
set_option maxRecDepth 100000 in
set_option maxHeartbeats 4000000 in
theorem callc_any (c : Cv) (w : World) :
    Calls Tryz.prog 18 #[.agg #[.string c.what, .string c.nm, .int .i64 c.n]] w fun e w' => e = .returned (.agg #[.string c.what, .string c.nm, .int .i64 c.n]) ∧ Below w.heap.size w w' := by
  obtain ⟨what, nm, n⟩ := c
  dsimp only
  go_enter Tryz.func18, Tryz.ntmps18
  go_wp2_with ((with_reducible refine at_store (ty := 59) ?_); refine store_new rfl 59 (.tmp 2) (.tmp 9) rfl _ _ rfl rfl (by kernel_rfl) rfl (by rfl) rfl ?_)
  obtain ⟨W5, hW5⟩ : ∃ W5, W5 = (w.alloc (.cells #[.string what, .string nm, .int .i64 n] 25)).alloc (.cells #[.string what, .string nm, .int .i64 n] 59) := ⟨_, rfl⟩
  have HY5 := Lib.hid (show Blk W5 (w.heap.size + 1) 59 [.string what, .string nm, .int .i64 n] by rw [hW5]; exact Blk.new_at (World.size_alloc _ _))
  have HB5 := Lib.hid (show Below w.heap.size w W5 by rw [hW5]; (repeat' (first | with_reducible exact Below.refl _ _ | with_reducible assumption | with_reducible refine Below.drew ?_ | with_reducible refine below_drewN' ?_ _ | with_reducible refine Below.alloc ?_ ?_ _ | with_reducible refine Below.setCell ?_ ?_ _ | with_reducible refine below_step (by assumption) ?_ ?_ | omega | (simp; done) | (simp; omega))))
  rw [← hW5]
  clear hW5
  have c0 := HY5.out.cell 0
  have c1 := HY5.out.cell 1
  have c2 := HY5.out.cell 2
  dsimp only [List.getElem?_cons_zero, List.getElem?_cons_succ] at c0 c1 c2
  refine bodyPost_ret (v := .agg #[.string what, .string nm, .int .i64 n]) (by simp [results, Tryz.results18, go_sem, *]) rfl ⟨rfl, HB5.out⟩
end Go.Proofs.YtmkdfcggjlhcpaaGreatDoor
namespace Go.Proofs.YtmkdfcggjlhcpaaGreatDoor
open Go.RowKit
set_option linter.unusedVariables false
set_option linter.unusedSimpArgs false
theorem guard_ins (op : BinOp) (x y : Operand) (xs ys : Array Value) (w : World) : (eqGuard op 62 x y (.agg xs) (.agg ys)).run Tryz.prog w = .ok () w := run_eqGuard_agg w op _ x y xs ys (by kernel_rfl)
theorem neq_ins (x : Ins) (w : World) : (binOp .neq 62 (.agg #[.string (x).nm, .string (x).gp, .int .i64 (x).st, .int .i64 (x).lf, .int .i64 (x).si]) (.agg #[.string (x).nm, .string (x).gp, .int .i64 (x).st, .int .i64 (x).lf, .int .i64 (x).si])).run Tryz.prog w = .ok (.bool false) w := by
  have hus := Tryz.underlying9
  have has := Tryz.isAgg9
  have hzs := Tryz.sizeOf9
  have hui := Tryz.underlying3
  have hai := Tryz.isAgg3
  have hzi := Tryz.sizeOf3
  have hS : Tryz.prog.underlying 62 = some (.struct (Tryz.prog.fieldsOf 62)) := by kernel_rfl
  have hp : Tryz.prog.stoodInHeld 62 = false := by kernel_rfl
  rw [run_neq_struct, show (10000 : Nat) = 9999 + 1 from rfl, run_equalIn_agg w 9999 62 _ _ hS hp]
  simp only [Program.fieldsOf, Tryz.underlying62]
  go_simp
set_option maxRecDepth 100000 in
set_option maxHeartbeats 2000000 in
theorem insts_same (a b : Option Addr) (ka kb n : Nat) (l : List Ins) (w : World) (hF : InsL w a l) (hG : InsL w b l) (hl : l.length = n) (hn : n ≤ 1000000) :
    Calls Tryz.prog 14 #[.slice a n ka, .slice b n kb] w fun e w' => e = .returned (.bool true) ∧ Below w.heap.size w w' := by
  have HF := Lib.hid hF
  have HG := Lib.hid hG
  have Hl := Lib.hid hl
  clear hF hG hl
  have hg := guard_ins
  have k0 : ((n : Int) != n) = false := by simp
  go_enter Tryz.func14, Tryz.ntmps14
  go_wp2
  go_loopw [5] (fun i wr => ∃ k : Nat, k ≤ n ∧ i = .int .i64 k ∧ Below w.heap.size w wr) (fun i _ => n - (intOf i).toNat)
  case atStart => exact ⟨0, by omega, rfl, by (repeat' (first | with_reducible exact Below.refl _ _ | with_reducible assumption | with_reducible refine Below.drew ?_ | with_reducible refine below_drewN' ?_ _ | with_reducible refine Below.alloc ?_ ?_ _ | with_reducible refine Below.setCell ?_ ?_ _ | with_reducible refine below_step (by assumption) ?_ ?_ | omega | (simp; done) | (simp; omega)))⟩
  case round =>
    obtain ⟨k, hk, rfl, hB⟩ := hrel
    obtain ⟨hcB, hfB⟩ := bcell hB
    have hbz := hB.size
    by_cases hlt : k < n
    · obtain ⟨x, hx⟩ := mem_at (l := l) (k := k) (by rw [Hl.out]; exact hlt)
      obtain ⟨b1, o1, rfl, hb1, hc1⟩ := HF.out (by rw [Hl.out]; omega)
      obtain ⟨b2, o2, rfl, hb2, hc2⟩ := HG.out (by rw [Hl.out]; omega)
      have hbw1 : b1 < wr.heap.size := by omega
      have hbw2 : b2 < wr.heap.size := by omega
      obtain ⟨d0, d1, d2, d3, d4⟩ := irow_cells (hc1 k x hx)
      obtain ⟨f0, f1, f2, f3, f4⟩ := irow_cells (hc2 k x hx)
      have hq := neq_ins x
      clear hc1 hc2 hx
      go_wp2
      go_quiet (fail)
      go_wp2
      go_roundw
      case rel => exact ⟨k + 1, by omega, by go_num, by (repeat' (first | with_reducible exact Below.refl _ _ | with_reducible assumption | with_reducible refine Below.drew ?_ | with_reducible refine below_drewN' ?_ _ | with_reducible refine Below.alloc ?_ ?_ _ | with_reducible refine Below.setCell ?_ ?_ _ | with_reducible refine below_step (by assumption) ?_ ?_ | omega | (simp; done) | (simp; omega)))⟩
      case measure => simp [intOf]; omega
    · go_wp2
      go_ret
      exact ⟨rfl, by (repeat' (first | with_reducible exact Below.refl _ _ | with_reducible assumption | with_reducible refine Below.drew ?_ | with_reducible refine below_drewN' ?_ _ | with_reducible refine Below.alloc ?_ ?_ _ | with_reducible refine Below.setCell ?_ ?_ _ | with_reducible refine below_step (by assumption) ?_ ?_ | omega | (simp; done) | (simp; omega)))⟩
end Go.Proofs.YtmkdfcggjlhcpaaGreatDoor
namespace Go.Proofs.YtmkdfcggjlhcpaaGreatDoor
open Go.ChangeShapes Go.WideShapes Go.ChangeAt Go.RowKit
set_option linter.unusedVariables false
set_option linter.unusedSimpArgs false
theorem pnew_prov (a : Option Addr) (l : List Gp) (ka : Nat) (d : Int) (w : World) (hF : GpL w a l) (hI : ∀ g ∈ l, MacIn w g.like) (hL : lightGs l = true) (hr : rightGs l = true) (hd : 1 ≤ d ∧ d ≤ 1000) (hT : Tab10 w) :
    Calls Tryz.prog 7 #[.slice a l.length ka, .int .i64 d] w fun e w' => ∃ c, e = .returned (.tuple #[.pointer (some ⟨c, 0, none⟩), .int .i64 0]) ∧ Prov w c (CS.new (l.map gkOf) d) 1 [] w' := by
  have hgl : GL l := fun g hg => by
    have := (GrOk.mk' hr hL).gl g hg
    omega
  refine (cnew_yes a l ka d w hF hI hL hr hd hT hgl).mono ?_
  rintro e w' ⟨⟨b, G, gv, pv, lv, rfl, h1, h2⟩, hb⟩
  exact ⟨b, rfl, ⟨⟨G, gv, pv, lv, h1, h2, fun _ h => by cases h⟩, hb, CS.Ok.new (rightGs_ok hr) hd⟩⟩
theorem ins_own {B k : Nat} {L : List Ins} {a : Option Addr} {w : World} (h : OwnL irow 5 B 62 L (.slice a L.length k) w) : InsL w a L := by
  obtain ⟨a', k', e, _, hr⟩ := OwnL.isL irow_len (by decide) h
  injection e with e1 e2 e3
  rw [e1]
  exact hr
theorem and3 (x : Int) : 0 ≤ bits .and .i64 x 3 ∧ bits .and .i64 x 3 ≤ 3 := by
  simp only [bits, BitVec.toNat_and]
  have h : (BitVec.ofInt IntKind.i64.bits x).toNat &&& (BitVec.ofInt IntKind.i64.bits 3).toNat ≤ 3 := Nat.le_trans Nat.and_le_right (by decide)
  rw [IntKind.wrap_i64]
  omega
structure Opn where
  k : Int
  nm : ByteArray
  gp : ByteArray
  n : Int
  is : Bool
def oprow (o : Opn) : List Value := [.int .i64 o.k, .string o.nm, .string o.gp, .int .i64 o.n, .bool o.is]
abbrev OpL := RowsAt oprow 5
def OpIn (w : World) (o : Opn) : Prop := -9223372036854775808 ≤ o.n ∧ o.n ≤ 9223372036854775807
theorem cells_opn : Tryz.prog.cellsOf 43 = 5 := by kernel_rfl
theorem cells_opns : Tryz.prog.cellsOf 23 = 1 := by kernel_rfl
theorem cells_boo : Tryz.prog.cellsOf 4 = 1 := by kernel_rfl
theorem cells_wd : Tryz.prog.cellsOf 27 = 6 := by kernel_rfl
set_option maxRecDepth 100000 in
theorem op_open {H : Type} {enc : TypeId × Value → H} {W : World} {fuel : Nat} {cs : List Value} {y : DataW H × List MemPlace} (hl : cs.length = 5)
    (h : DataW.trod enc Tryz.prog W 0 (fun _ => true) true fuel 43 cs = some y) : ∃ x : Opn, cs = oprow x ∧ OpIn W x := by
  obtain ⟨xs, n, _, hx, _, hlen, hg⟩ := DataW.trod_struct Tryz.underlying43 h
  match cs, hl with
  | [c0, c1, c2, c3, c4], _ =>
    match xs, hlen with
    | [y0, y1, y2, y3, y4], _ =>
      have g0 := hg 0 _ rfl
      have g1 := hg 1 _ rfl
      have g2 := hg 2 _ rfl
      have g3 := hg 3 _ rfl
      have g4 := hg 4 _ rfl
      obtain ⟨n0, q0, _⟩ := DataW.trod_int Tryz.underlying3 g0
      obtain ⟨s1, q1, _⟩ := DataW.trod_string Tryz.underlying9 g1
      obtain ⟨s2, q2, _⟩ := DataW.trod_string Tryz.underlying9 g2
      obtain ⟨n3, q3, _, w3⟩ := DataW.trod_int Tryz.underlying3 g3
      obtain ⟨b4, q4, _⟩ := DataW.trod_bool Tryz.underlying4 g4
      simp [cells_int, cells_boo, Tryz.cells9] at q0 q1 q2 q3 q4
      refine ⟨⟨n0, s1, s2, n3, b4⟩, by rw [q0, q1, q2, q3, q4]; rfl, ?_⟩
      simpa [OpIn, Lit.wf, IntKind.min, IntKind.max, IntKind.signed, IntKind.bits] using w3
structure Wd where
  ga : Option Addr
  l : List Gp
  gk : Nat
  dl : Int
  xa : Option Addr
  xs : List Opn
  xk : Nat
  c : Cv
def wdrow (x : Wd) : List Value := [.slice x.ga x.l.length x.gk, .int .i64 x.dl, .slice x.xa x.xs.length x.xk, .string x.c.what, .string x.c.nm, .int .i64 x.c.n]
structure WdIn (w : World) (x : Wd) : Prop where
  g : GpL w x.ga x.l
  m : ∀ y ∈ x.l, MacIn w y.like
  gn : NilOk x.ga x.l.length x.gk
  o : OpL w x.xa x.xs
  oi : ∀ y ∈ x.xs, OpIn w y
  ci : CvIn w x.c
  db : -9223372036854775808 ≤ x.dl ∧ x.dl ≤ 9223372036854775807
  gl : x.l.length ≤ maxLen
  ol : x.xs.length ≤ maxLen
set_option maxRecDepth 100000 in
set_option maxHeartbeats 4000000 in
theorem wd_open {H : Type} {enc : TypeId × Value → H} {W : World} {fuel : Nat} {cs : List Value} {y : DataW H × List MemPlace} (hl : cs.length = 6)
    (h : DataW.trod enc Tryz.prog W 0 (fun _ => true) true fuel 27 cs = some y) : ∃ x : Wd, cs = wdrow x ∧ WdIn W x := by
  obtain ⟨zs, _, _, _, _, hlen3, hk⟩ := DataW.trod_struct Tryz.underlying27 h
  match cs, hl with
  | [c0, c1, c2, c3, c4, c5], _ =>
    match zs, hlen3 with
    | [z0, z1, z2, z3], _ =>
      have k0 := hk 0 _ rfl
      have k1 := hk 1 _ rfl
      have k2 := hk 2 _ rfl
      have k3 := hk 3 _ rfl
      obtain ⟨a0, l0, m0, r0⟩ := Go.Joins.slice_form Tryz.underlying22 k0
      rw [r0] at k0
      obtain ⟨C, g1, g2, g3, g4⟩ := open_nested_in (K := 15) (enc := grow) (In := fun w (g : Gp) => MacIn w g.like) Tryz.underlying22 Tryz.cells37 (by decide) (fun cs fuel y hl h => grp_open hl h) k0
      have gn := (nested_cap Tryz.underlying22 k0).1
      obtain ⟨d1, p1, _, w1⟩ := DataW.trod_int Tryz.underlying3 k1
      obtain ⟨a2, l2, m2, r2⟩ := Go.Joins.slice_form Tryz.underlying23 k2
      rw [r2] at k2
      obtain ⟨L, i1, i2, i3, i4⟩ := open_nested_in (K := 5) (enc := oprow) (In := OpIn) Tryz.underlying23 cells_opn (by decide) (fun cs fuel y hl h => op_open hl h) k2
      simp [cells_int, cells_gps, cells_opns, cells_call] at r0 p1 r2 k3
      obtain ⟨c, e3, hc⟩ := call_open rfl k3
      subst g1 i1
      refine ⟨⟨a0, C, m0, d1, a2, L, m2, c⟩, ?_, ⟨g2, g4, gn, i2, i4, hc, ?_, g3, i3⟩⟩
      · show [c0, c1, c2] ++ [c3, c4, c5] = _
        rw [r0, p1, r2, e3]
        rfl
      · simpa [Lit.wf, IntKind.min, IntKind.max, IntKind.signed, IntKind.bits] using w1
set_option maxRecDepth 100000 in
theorem open_wd {H : Type} {enc : TypeId × Value → H} {W : World} {base : Nat} {v : Value} {d : DataW H} {q : List MemPlace}
    (hv : Value.okWide Tryz.prog W .any base 27 v) (h : DataW.Trod enc Tryz.prog W 0 (fun _ => true) true 27 v d q) :
    ∃ x : Wd, v = .agg #[.slice x.ga x.l.length x.gk, .int .i64 x.dl, .slice x.xa x.xs.length x.xk, .string x.c.what, .string x.c.nm, .int .i64 x.c.n] ∧ WdIn W x := by
  obtain ⟨cs, rfl, hsz⟩ := okWide_struct Tryz.underlying27 hv
  rw [cells_wd] at hsz
  obtain ⟨fuel, hf⟩ := h
  obtain ⟨l⟩ := cs
  obtain ⟨s, e, h1⟩ := wd_open (cs := l) hsz hf
  exact ⟨s, by rw [e]; rfl, h1⟩
end Go.Proofs.YtmkdfcggjlhcpaaGreatDoor
namespace Go.Proofs.YtmkdfcggjlhcpaaGreatDoor
open Go.RowKit
set_option linter.unusedVariables false
set_option linter.unusedSimpArgs false
namespace permitTaken
set_option maxRecDepth 100000 in
set_option maxHeartbeats 32000000 in
theorem walk0 (x : Wd) (w : World) (hT : Tab10 w) (hI : WdIn w x) (hE : ¬ (lightGs x.l = true ∧ rightGs x.l = true ∧ x.l.length ≤ 4 ∧ x.c.nm.size ≤ 300)) :
    Calls Tryz.prog 3 #[.agg #[.slice x.ga x.l.length x.gk, .int .i64 x.dl, .slice x.xa x.xs.length x.xk, .string x.c.what, .string x.c.nm, .int .i64 x.c.n]] w fun e w' => e = .returned (.bool true) ∧ Below w.heap.size w w' := by
  have HT := Lib.hid hT
  obtain ⟨ga, l, ka, dl, xa, xs, xk, what, nm, cn⟩ := x
  obtain ⟨hg, hm, hgn, ho, hoi, hci, hdb, hgl, hol⟩ := hI
  dsimp only at hg hm hgn ho hoi hci hdb hgl hol hE ⊢
  have HGi := Lib.hid hg
  have HMi := Lib.hid hm
  have HGn := Lib.hid hgn
  have HOi := Lib.hid ho
  have HOp := Lib.hid hoi
  have HCi := Lib.hid hci
  have HDb := Lib.hid hdb
  have HLg := Lib.hid (fun V (hV : Below w.heap.size w V) => lightgs_any ga l ka V (hg.mono hV) hgl (fun g hx => (hm g hx).mono hV))
  have HRg := Lib.hid (fun V (hV : Below w.heap.size w V) (h : lightGs l = true) => refrightgs_any ga l ka V (hg.mono hV) (fun g hx => (hm g hx).mono hV) h)
  have HGl := Lib.hid hgl
  have HOl := Lib.hid hol
  obtain ⟨lg, hlg⟩ : ∃ b, lightGs l = b := ⟨_, rfl⟩
  obtain ⟨rg, hrg⟩ : ∃ b, rightGs l = b := ⟨_, rfl⟩
  have Hlg := Lib.hid hlg
  have Hrg := Lib.hid hrg
  rw [hlg] at HLg HRg
  rw [hrg] at HRg
  obtain ⟨N, hN⟩ : ∃ n, l.length = n := ⟨_, rfl⟩
  obtain ⟨M, hM⟩ : ∃ n, xs.length = n := ⟨_, rfl⟩
  have HN := Lib.hid hN
  have HM := Lib.hid hM
  rw [hN] at HLg HRg ⊢
  rw [hM] at hol ⊢
  clear hT hg hm hgn ho hoi hci hdb hgl hN hM hlg hrg
  obtain ⟨W, hW⟩ : ∃ W, W = w.alloc (.cells #[.slice ga N ka, .int .i64 dl, .slice xa M xk, .string what, .string nm, .int .i64 cn] 27) := ⟨_, rfl⟩
  have HS := Lib.hid (show Blk W w.heap.size 27 [.slice ga N ka, .int .i64 dl, .slice xa M xk, .string what, .string nm, .int .i64 cn] by rw [hW]; exact Blk.new w _ _)
  have HB := Lib.hid (show Below w.heap.size w W by rw [hW]; exact (Below.refl _ _).alloc (Nat.le_refl _) _)
  have hlt := HS.out.lt
  go_enter Tryz.func3, Tryz.ntmps3
  go_upto_region 1 with (fail)
  rw [← hW]
  clear hW
  have s0 := HS.out.cell 0
  dsimp only [List.getElem?_cons_zero, List.getElem?_cons_succ] at s0
  cases lg with
  | false =>
    go_wp2_with (first
      | (go_at_call 4; (with_reducible refine (HLg.out _ HB.out).mono ?_); rintro e w1 ⟨rfl, hb⟩; have HB1 := Lib.hid (HB.out.trans (hb.mono HB.out.size)); have HS1 := Lib.hid (HS.out.below hb); have hlt1 := HS1.out.lt; clear hb s0; have s0 := HS1.out.cell 0; dsimp only [List.getElem?_cons_zero, List.getElem?_cons_succ] at s0)
      | (go_at_call 6; (with_reducible refine (known_any _).mono ?_); rintro e w8 ⟨rfl, hb⟩; have HB8 := Lib.hid (HB1.out.trans (hb.mono HB1.out.size)); clear hb))
    refine bodyPost_ret (v := .bool true) (by simp [results, Tryz.results3, go_sem]) rfl ⟨rfl, HB8.out⟩
  | true =>
    cases rg with
    | false =>
      go_wp2_with (first
        | (go_at_call 4; (with_reducible refine (HLg.out _ HB.out).mono ?_); rintro e w1 ⟨rfl, hb⟩; have HB1 := Lib.hid (HB.out.trans (hb.mono HB.out.size)); have HS1 := Lib.hid (HS.out.below hb); have hlt1 := HS1.out.lt; clear hb s0; have s0 := HS1.out.cell 0; dsimp only [List.getElem?_cons_zero, List.getElem?_cons_succ] at s0)
        | (go_at_call 5; (with_reducible refine (HRg.out _ HB1.out (by trivial)).mono ?_); rintro e w2 ⟨rfl, hb⟩; have HB2 := Lib.hid (HB1.out.trans (hb.mono HB1.out.size)); have HS2 := Lib.hid (HS1.out.below hb); have hlt2 := HS2.out.lt; clear hb s0; have s0 := HS2.out.cell 0; have s4 := HS2.out.cell 4; dsimp only [List.getElem?_cons_zero, List.getElem?_cons_succ] at s0 s4)
        | (go_at_call 6; (with_reducible refine (known_any _).mono ?_); rintro e w8 ⟨rfl, hb⟩; have HB8 := Lib.hid (HB2.out.trans (hb.mono HB2.out.size)); clear hb))
      refine bodyPost_ret (v := .bool true) (by simp [results, Tryz.results3, go_sem]) rfl ⟨rfl, HB8.out⟩
    | true =>
      by_cases h4 : N ≤ 4
      · have k4 : decide (4 < N) = false := decide_eq_false (by omega)
        have k4i : decide ((4 : Int) < (N : Int)) = false := decide_eq_false (by omega)
        by_cases h3 : nm.size ≤ 300
        · have k3 : decide (300 < nm.size) = false := decide_eq_false (by omega)
          have k3i : decide ((300 : Int) < (nm.size : Int)) = false := decide_eq_false (by omega)
          exact absurd ⟨Hlg.out, Hrg.out, by rw [HN.out]; exact h4, h3⟩ hE
        · have k3 : decide (300 < nm.size) = true := decide_eq_true (by omega)
          have k3i : decide ((300 : Int) < (nm.size : Int)) = true := decide_eq_true (by omega)
          go_wp2_with (first
            | (go_at_call 4; (with_reducible refine (HLg.out _ HB.out).mono ?_); rintro e w1 ⟨rfl, hb⟩; have HB1 := Lib.hid (HB.out.trans (hb.mono HB.out.size)); have HS1 := Lib.hid (HS.out.below hb); have hlt1 := HS1.out.lt; clear hb s0; have s0 := HS1.out.cell 0; dsimp only [List.getElem?_cons_zero, List.getElem?_cons_succ] at s0)
            | (go_at_call 5; (with_reducible refine (HRg.out _ HB1.out (by trivial)).mono ?_); rintro e w2 ⟨rfl, hb⟩; have HB2 := Lib.hid (HB1.out.trans (hb.mono HB1.out.size)); have HS2 := Lib.hid (HS1.out.below hb); have hlt2 := HS2.out.lt; clear hb s0; have s0 := HS2.out.cell 0; have s4 := HS2.out.cell 4; dsimp only [List.getElem?_cons_zero, List.getElem?_cons_succ] at s0 s4)
            | (go_at_call 6; (with_reducible refine (known_any _).mono ?_); rintro e w8 ⟨rfl, hb⟩; have HB8 := Lib.hid (HB2.out.trans (hb.mono HB2.out.size)); clear hb))
          refine bodyPost_ret (v := .bool true) (by simp [results, Tryz.results3, go_sem]) rfl ⟨rfl, HB8.out⟩
      · have k4 : decide (4 < N) = true := decide_eq_true (by omega)
        have k4i : decide ((4 : Int) < (N : Int)) = true := decide_eq_true (by omega)
        go_wp2_with (first
          | (go_at_call 4; (with_reducible refine (HLg.out _ HB.out).mono ?_); rintro e w1 ⟨rfl, hb⟩; have HB1 := Lib.hid (HB.out.trans (hb.mono HB.out.size)); have HS1 := Lib.hid (HS.out.below hb); have hlt1 := HS1.out.lt; clear hb s0; have s0 := HS1.out.cell 0; dsimp only [List.getElem?_cons_zero, List.getElem?_cons_succ] at s0)
          | (go_at_call 5; (with_reducible refine (HRg.out _ HB1.out (by trivial)).mono ?_); rintro e w2 ⟨rfl, hb⟩; have HB2 := Lib.hid (HB1.out.trans (hb.mono HB1.out.size)); have HS2 := Lib.hid (HS1.out.below hb); have hlt2 := HS2.out.lt; clear hb s0; have s0 := HS2.out.cell 0; have s4 := HS2.out.cell 4; dsimp only [List.getElem?_cons_zero, List.getElem?_cons_succ] at s0 s4)
          | (go_at_call 6; (with_reducible refine (known_any _).mono ?_); rintro e w8 ⟨rfl, hb⟩; have HB8 := Lib.hid (HB2.out.trans (hb.mono HB2.out.size)); clear hb))
        refine bodyPost_ret (v := .bool true) (by simp [results, Tryz.results3, go_sem]) rfl ⟨rfl, HB8.out⟩
end permitTaken
end Go.Proofs.YtmkdfcggjlhcpaaGreatDoor
