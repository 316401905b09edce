/-
  Kin: known.
-/
import Derived.Test.YtccplljbljpjpaaDoorKi7
namespace Go.Proofs.YtccplljbljpjpaaDoor
open Go.ChangeShapes Go.WideShapes Go.ChangeAt Go.RowKit
set_option linter.unusedVariables false
set_option linter.unusedSimpArgs false

theorem one_lit (nm : ByteArray) (c : Int) (w : World) :
    Calls Tryd.prog 12 #[.string nm, .int .i64 c] w fun e w' => e = .returned (.agg #[.string nm, .int .i64 (c), .int .i64 0, .int .i64 0, .int .i64 1, .int .i64 0, .slice none 0 0, .slice none 0 0, .slice none 0 0, .slice none 0 0, .slice none 0 0, .slice none 0 0, .bool false, .slice none 0 0, .int .i64 0, .int .i64 0, .string ⟨#[]⟩, .bool false, .bool false, .bool false]) ∧ Below w.heap.size w w' := one_any nm c w
theorem kprow_len (p : Pd) : (prow p).length = 20 := rfl
theorem icl_len (x : Int) : (icl x).length = 1 := rfl
/-- What known holds in memory. -/
structure K8 (B bg og tb : Nat) (c0 c1 : Option Addr) (k0 k1 : Nat) (w : World) : Prop where
  l : PodLs w (some ⟨B, 0, none⟩) [pA, pB, pC]
  blt : bg < w.heap.size
  g0 : w.cell? ⟨bg, og, none⟩ = some (.slice c0 2 k0)
  g1 : w.cell? ⟨bg, og + 1, none⟩ = some (.slice c1 1 k1)
  r0 : RowsAt icl 1 w c0 [0, 2]
  r1 : RowsAt icl 1 w c1 [1]
  t : Blk w tb 31 [.int .i64 16, .int .i64 0, .int .i64 0, .int .i64 3, .int .i64 0]
section
variable {B bg og tb : Nat} {c0 c1 : Option Addr} {k0 k1 : Nat} {w w' : World}
theorem K8.mono (h : K8 B bg og tb c0 c1 k0 k1 w) (hb : Below w.heap.size w w') : K8 B bg og tb c0 c1 k0 k1 w' :=
  ⟨h.l.mono hb, Nat.lt_of_lt_of_le h.blt hb.size, (hb.cell (p := ⟨bg, og, none⟩) h.blt).trans h.g0, (hb.cell (p := ⟨bg, og + 1, none⟩) h.blt).trans h.g1, h.r0.mono hb, h.r1.mono hb, h.t.below hb⟩
theorem K8.pod (h : PodLs w (some ⟨B, 0, none⟩) [pA, pB, pC]) (i : Nat) (p : Pd) (hp : [pA, pB, pC][i]? = some p) : w.rangeAt B (i * 20) (prow p) ∧ B < w.heap.size := by
  obtain ⟨b, o, e, hb, hc⟩ := h (by decide)
  injection e with e
  injection e with e1 e2
  subst e1 e2
  refine ⟨fun j v hj => ?_, hb⟩
  have h9 := hc i p hp j (List.getElem?_eq_some_iff.1 hj).1
  rw [Nat.zero_add] at h9
  rw [h9]
  exact hj
end
theorem all2 {P : Pd → Prop} (a : P pA) (b : P pD) : ∀ x ∈ [pA, pD], P x := fun x hx => by
  simp only [List.mem_cons, List.not_mem_nil, or_false] at hx
  rcases hx with rfl | rfl
  · exact a
  · exact b
theorem all3 {P : Pd → Prop} (a : P pA) (b : P pB) (c : P pC) : ∀ x ∈ [pA, pB, pC], P x := fun x hx => by
  simp only [List.mem_cons, List.not_mem_nil, or_false] at hx
  rcases hx with rfl | rfl | rfl
  · exact a
  · exact b
  · exact c
set_option maxRecDepth 100000 in
set_option maxHeartbeats 16000000 in
theorem kknown_any (w : World) (hWT : WT w) (hT : Tab10 w) : Calls Tryd.prog 6 #[] w fun e w' => e = .returned (.bool true) ∧ Below w.heap.size w w' := by
  have HWt := Lib.hid hWT
  have HT10 := Lib.hid hT
  have HGr := Lib.hid (fun (B : Nat) (V : World) (hV : Below w.heap.size w V) (h : PodLs V (some ⟨B, 0, none⟩) [pA, pB, pC]) =>
    show Calls Tryd.prog 7 #[.slice (some ⟨B, 0, none⟩) 3 3] V (GivesK V ([[0, 2], [1]], 0)) from (groups_any (some ⟨B, 0, none⟩) 3 [pA, pB, pC] V h (by decide) (all3 (pO_at V _ _ _) (pO_at V _ _ _) (pO_at V _ _ _)) (all3 k_lightO.1 k_lightO.2.1 k_lightO.2.2.1) (HWt.out.mono hV HWt.out.sz) (HT10.out.mono hV)).mono (fun e w' h9 => by rw [k_grp] at h9; exact h9))
  have HTo := Lib.hid (fun (B : Nat) (V : World) (h : PodLs V (some ⟨B, 0, none⟩) [pA, pB, pC]) =>
    show Calls Tryd.prog 9 #[.slice (some ⟨B, 0, none⟩) 3 3] V fun e w' => e = .returned (.tuple #[.agg #[.int .i64 16, .int .i64 0, .int .i64 0, .int .i64 3, .int .i64 0], .int .i64 0]) ∧ Below V.heap.size V w' from (stotal_any (some ⟨B, 0, none⟩) 3 [pA, pB, pC] V h (by decide) (all3 (pO_at V _ _ _) (pO_at V _ _ _) (pO_at V _ _ _)) (all3 k_lightO.1 k_lightO.2.1 k_lightO.2.2.1)).mono (fun e w' h9 => by rw [k_tot] at h9; exact h9))
  have HAl := Lib.hid (fun (p q : Pd) (V : World) (hV : Below w.heap.size w V) (hp : PodAt V p) (hq : PodAt V q) (hpl : lightP p = true) (hql : lightP q = true) => alike_any p q V hp hq hpl hql (HWt.out.mono hV HWt.out.sz) (HT10.out.mono hV))
  have HG2 := Lib.hid (fun (B : Nat) (V : World) (hV : Below w.heap.size w V) (h : PodLs V (some ⟨B, 0, none⟩) [pA, pD]) =>
    show Calls Tryd.prog 7 #[.slice (some ⟨B, 0, none⟩) 2 2] V (GivesK V ([], 15)) from (groups_any (some ⟨B, 0, none⟩) 2 [pA, pD] V h (by decide) (all2 (pO_at V _ _ _) (pO_at V _ _ _)) (all2 k_lightO.1 k_lightO.2.2.2.1) (HWt.out.mono hV HWt.out.sz) (HT10.out.mono hV)).mono (fun e w' h9 => by rw [k_grp2] at h9; exact h9))
  have HTe := Lib.hid (fun (B : Nat) (V : World) (h : PodLs V (some ⟨B, 0, none⟩) [pE]) =>
    show Calls Tryd.prog 9 #[.slice (some ⟨B, 0, none⟩) 1 1] V fun e w' => e = .returned (.tuple #[.agg #[.int .i64 0, .int .i64 0, .int .i64 0, .int .i64 0, .int .i64 0], .int .i64 12]) ∧ Below V.heap.size V w' from (stotal_any (some ⟨B, 0, none⟩) 1 [pE] V h (by decide) (fun x hx => by rw [List.mem_singleton.1 hx]; exact pO_at V _ _ _) (fun x hx => by rw [List.mem_singleton.1 hx]; exact k_lightO.2.2.2.2)).mono (fun e w' h9 => by rw [k_tot0] at h9; exact h9))
  have HN2 := Lib.hid (fun (V : World) => show PodLs (V.alloc (.cells #[.string ⟨#[97]⟩, .int .i64 (5), .int .i64 0, .int .i64 0, .int .i64 1, .int .i64 0, .slice none 0 0, .slice none 0 0, .slice none 0 0, .slice none 0 0, .slice none 0 0, .slice none 0 0, .bool false, .slice none 0 0, .int .i64 0, .int .i64 0, .string ⟨#[]⟩, .bool false, .bool false, .bool false, .string ⟨#[97]⟩, .int .i64 (6), .int .i64 0, .int .i64 0, .int .i64 1, .int .i64 0, .slice none 0 0, .slice none 0 0, .slice none 0 0, .slice none 0 0, .slice none 0 0, .slice none 0 0, .bool false, .slice none 0 0, .int .i64 0, .int .i64 0, .string ⟨#[]⟩, .bool false, .bool false, .bool false] 37)) (some ⟨V.heap.size, 0, none⟩) [pA, pD] from RowsAt.new kprow_len V [pA, pD] 37)
  have HNE := Lib.hid (fun (V : World) => show PodLs (V.alloc (.cells #[.string ⟨#[]⟩, .int .i64 (0), .int .i64 0, .int .i64 0, .int .i64 0, .int .i64 0, .slice none 0 0, .slice none 0 0, .slice none 0 0, .slice none 0 0, .slice none 0 0, .slice none 0 0, .bool false, .slice none 0 0, .int .i64 0, .int .i64 0, .string ⟨#[]⟩, .bool false, .bool false, .bool false] 37)) (some ⟨V.heap.size, 0, none⟩) [pE] from RowsAt.new kprow_len V [pE] 37)
  have HI2 := Lib.hid (fun (V : World) => show RowsAt icl 1 (V.alloc (.cells #[.int .i64 0, .int .i64 2] 3)) (some ⟨V.heap.size, 0, none⟩) [0, 2] from RowsAt.new icl_len V [0, 2] 3)
  have HI1 := Lib.hid (fun (V : World) => show RowsAt icl 1 (V.alloc (.cells #[.int .i64 1] 3)) (some ⟨V.heap.size, 0, none⟩) [1] from RowsAt.new icl_len V [1] 3)
  have HA1 := Lib.hid (fun (V : World) (hV : Below w.heap.size w V) => show Calls Tryd.prog 8 #[.agg #[.string ⟨#[97]⟩, .int .i64 (5), .int .i64 0, .int .i64 0, .int .i64 1, .int .i64 0, .slice none 0 0, .slice none 0 0, .slice none 0 0, .slice none 0 0, .slice none 0 0, .slice none 0 0, .bool false, .slice none 0 0, .int .i64 0, .int .i64 0, .string ⟨#[]⟩, .bool false, .bool false, .bool false], .agg #[.string ⟨#[99]⟩, .int .i64 (5), .int .i64 0, .int .i64 0, .int .i64 1, .int .i64 0, .slice none 0 0, .slice none 0 0, .slice none 0 0, .slice none 0 0, .slice none 0 0, .slice none 0 0, .bool false, .slice none 0 0, .int .i64 0, .int .i64 0, .string ⟨#[]⟩, .bool false, .bool false, .bool false]] V fun e w' => e = .returned (.bool true) ∧ Below V.heap.size V w' from (HAl.out pA pC V hV (pO_at V _ _ _) (pO_at V _ _ _) k_lightO.1 k_lightO.2.2.1).mono (fun e w' h9 => by rw [k_al.1] at h9; exact h9))
  have HA2 := Lib.hid (fun (V : World) (hV : Below w.heap.size w V) => show Calls Tryd.prog 8 #[.agg #[.string ⟨#[97]⟩, .int .i64 (5), .int .i64 0, .int .i64 0, .int .i64 1, .int .i64 0, .slice none 0 0, .slice none 0 0, .slice none 0 0, .slice none 0 0, .slice none 0 0, .slice none 0 0, .bool false, .slice none 0 0, .int .i64 0, .int .i64 0, .string ⟨#[]⟩, .bool false, .bool false, .bool false], .agg #[.string ⟨#[98]⟩, .int .i64 (6), .int .i64 0, .int .i64 0, .int .i64 1, .int .i64 0, .slice none 0 0, .slice none 0 0, .slice none 0 0, .slice none 0 0, .slice none 0 0, .slice none 0 0, .bool false, .slice none 0 0, .int .i64 0, .int .i64 0, .string ⟨#[]⟩, .bool false, .bool false, .bool false]] V fun e w' => e = .returned (.bool false) ∧ Below V.heap.size V w' from (HAl.out pA pB V hV (pO_at V _ _ _) (pO_at V _ _ _) k_lightO.1 k_lightO.2.1).mono (fun e w' h9 => by rw [k_al.2] at h9; exact h9))
  have HF1 := Lib.hid (fun (B : Nat) (V : World) (h : PodLs V (some ⟨B, 0, none⟩) [pA, pB, pC]) => show Calls Tryd.prog 14 #[.slice (some ⟨B, 0, none⟩) 3 3, .string ⟨#[98]⟩] V fun e w' => e = .returned (.int .i64 1) ∧ Below V.heap.size V w' from (sfind_any (some ⟨B, 0, none⟩) 3 [pA, pB, pC] ⟨#[98]⟩ V h (by decide)).mono (fun e w' h9 => by rw [k_fnd.1] at h9; exact h9))
  have HF2 := Lib.hid (fun (B : Nat) (V : World) (h : PodLs V (some ⟨B, 0, none⟩) [pA, pB, pC]) => show Calls Tryd.prog 14 #[.slice (some ⟨B, 0, none⟩) 3 3, .string ⟨#[122]⟩] V fun e w' => e = .returned (.int .i64 (-1)) ∧ Below V.heap.size V w' from (sfind_any (some ⟨B, 0, none⟩) 3 [pA, pB, pC] ⟨#[122]⟩ V h (by decide)).mono (fun e w' h9 => by rw [k_fnd.2] at h9; exact h9))
  have HKy := Lib.hid (fun (V : World) (hV : Below w.heap.size w V) => show Calls Tryd.prog 15 #[.agg #[.string ⟨#[97]⟩, .int .i64 (5), .int .i64 0, .int .i64 0, .int .i64 1, .int .i64 0, .slice none 0 0, .slice none 0 0, .slice none 0 0, .slice none 0 0, .slice none 0 0, .slice none 0 0, .bool false, .slice none 0 0, .int .i64 0, .int .i64 0, .string ⟨#[]⟩, .bool false, .bool false, .bool false]] V fun e w' => e = .returned (.string ⟨#[40, 112, 111, 100, 32, 120, 32, 40, 110, 101, 101, 100, 32, 53, 109, 32, 48, 32, 48, 32, 48, 41, 41]⟩) ∧ Below V.heap.size V w' from (skey_any pA V (pO_at V _ _ _) k_lightO.1 (HWt.out.mono hV HWt.out.sz) (HT10.out.mono hV)).mono (fun e w' h9 => by rw [k_keyA] at h9; exact h9))
  clear hWT hT
  go_enter Tryd.func6, Tryd.ntmps6
  go_upto_region 1 with (fail)
  go_upto_region 2 with (first
    | (go_at_call 12; (with_reducible refine (one_lit ⟨#[97]⟩ 5 _).mono ?_); rintro e w1 ⟨rfl, hb1⟩; have HB1 := Lib.hid hb1; clear hb1)
    | (go_at_call 12; (with_reducible refine (one_lit ⟨#[98]⟩ 6 _).mono ?_); rintro e w2 ⟨rfl, hb2⟩; have HB2 := Lib.hid (HB1.out.trans (hb2.mono HB1.out.size)); clear hb2)
    | (go_at_call 12; (with_reducible refine (one_lit ⟨#[99]⟩ 5 _).mono ?_); rintro e w3 ⟨rfl, hb3⟩; have HB3 := Lib.hid (HB2.out.trans (hb3.mono HB2.out.size)); clear hb3))
  obtain ⟨B, hB⟩ : ∃ B, w3.heap.size = B := ⟨_, rfl⟩
  obtain ⟨V, hV⟩ : ∃ V, V = w3.alloc (.cells #[.string ⟨#[97]⟩, .int .i64 (5), .int .i64 0, .int .i64 0, .int .i64 1, .int .i64 0, .slice none 0 0, .slice none 0 0, .slice none 0 0, .slice none 0 0, .slice none 0 0, .slice none 0 0, .bool false, .slice none 0 0, .int .i64 0, .int .i64 0, .string ⟨#[]⟩, .bool false, .bool false, .bool false, .string ⟨#[98]⟩, .int .i64 (6), .int .i64 0, .int .i64 0, .int .i64 1, .int .i64 0, .slice none 0 0, .slice none 0 0, .slice none 0 0, .slice none 0 0, .slice none 0 0, .slice none 0 0, .bool false, .slice none 0 0, .int .i64 0, .int .i64 0, .string ⟨#[]⟩, .bool false, .bool false, .bool false, .string ⟨#[99]⟩, .int .i64 (5), .int .i64 0, .int .i64 0, .int .i64 1, .int .i64 0, .slice none 0 0, .slice none 0 0, .slice none 0 0, .slice none 0 0, .slice none 0 0, .slice none 0 0, .bool false, .slice none 0 0, .int .i64 0, .int .i64 0, .string ⟨#[]⟩, .bool false, .bool false, .bool false] 37) := ⟨_, rfl⟩
  have HL := Lib.hid (show PodLs V (some ⟨B, 0, none⟩) [pA, pB, pC] by rw [hV, ← hB]; exact RowsAt.new kprow_len w3 [pA, pB, pC] 37)
  have HB4 := Lib.hid (show Below w.heap.size w V by rw [hV]; exact HB3.out.alloc HB3.out.size _)
  rw [hB, ← hV]
  clear hB hV HB1 HB2 HB3
  go_upto_region 3 with (go_at_call 7; (with_reducible refine (HGr.out _ _ HB4.out HL.out).mono ?_); rintro e w5 ⟨⟨a5, k5, rfl, hg5⟩, hb⟩; have HB5 := Lib.hid (HB4.out.trans (hb.mono HB4.out.size)); have HL5 := Lib.hid (HL.out.mono hb); have HG5 := Lib.hid hg5; clear hb hg5)
  obtain ⟨vs, hvl, hrows, hall⟩ := HG5.out
  obtain ⟨v0, h0⟩ := mem_at (l := vs) (k := 0) (by rw [hvl]; decide)
  obtain ⟨v1, h1⟩ := mem_at (l := vs) (k := 1) (by rw [hvl]; decide)
  obtain ⟨c0, k0, rfl, -, r0⟩ := hall 0 v0 [0, 2] h0 rfl
  obtain ⟨c1, k1, rfl, -, r1⟩ := hall 1 v1 [1] h1 rfl
  obtain ⟨bg, og, rfl, hbg, hcg⟩ := hrows (by rw [hvl]; decide)
  have g0 : w5.cell? ⟨bg, og, none⟩ = some (.slice c0 2 k0) := hcg 0 _ h0 0 (by decide)
  have g1 : w5.cell? ⟨bg, og + 1, none⟩ = some (.slice c1 1 k1) := hcg 1 _ h1 0 (by decide)
  have HQ5 := Lib.hid (show ∀ (V : World), Below w5.heap.size w5 V → ∀ tb, Blk V tb 31 [.int .i64 16, .int .i64 0, .int .i64 0, .int .i64 3, .int .i64 0] → K8 B bg og tb c0 c1 k0 k1 V from fun V hV tb ht =>
    ⟨HL5.out.mono hV, Nat.lt_of_lt_of_le hbg hV.size, (hV.cell (p := ⟨bg, og, none⟩) hbg).trans g0, (hV.cell (p := ⟨bg, og + 1, none⟩) hbg).trans g1, r0.mono hV, r1.mono hV, ht⟩)
  clear hvl hrows hall h0 h1 r0 r1 hbg hcg g0 g1 HG5 HGr
  go_upto_region 4 with (first
    | (go_at_call 9; (with_reducible refine (HTo.out _ _ HL5.out).mono ?_); rintro e w6 ⟨rfl, hb⟩; have HB6 := Lib.hid (HB5.out.trans (hb.mono HB5.out.size)); have Hb6 := Lib.hid hb; clear hb)
    | ((with_reducible refine at_store (ty := 31) ?_); refine store_new rfl 31 (.tmp 4) (.tmp 22) rfl _ _ rfl rfl (by kernel_rfl) rfl (by rfl) rfl ?_))
  obtain ⟨tb, htb⟩ : ∃ t, w6.heap.size = t := ⟨_, rfl⟩
  obtain ⟨w7, hw7⟩ : ∃ V, V = w6.alloc (.cells #[.int .i64 16, .int .i64 0, .int .i64 0, .int .i64 3, .int .i64 0] 31) := ⟨_, rfl⟩
  have HK7 := Lib.hid (show K8 B bg og tb c0 c1 k0 k1 w7 from HQ5.out w7 (by rw [hw7]; exact Hb6.out.alloc Hb6.out.size _) tb (by rw [hw7, ← htb]; exact Blk.new w6 31 _))
  have HB7 := Lib.hid (show Below w.heap.size w w7 by rw [hw7]; exact HB6.out.alloc HB6.out.size _)
  rw [htb, ← hw7]
  clear htb hw7 HQ5 Hb6 HB6 HB5 HB4 HL HL5
  go_upto_region 5 with (first
    | (go_at_call 12; (with_reducible refine (one_lit ⟨#[97]⟩ 5 _).mono ?_); rintro e w8 ⟨rfl, hb⟩; have HB8 := Lib.hid (HB7.out.trans (hb.mono HB7.out.size)); have HK8 := Lib.hid (HK7.out.mono hb); clear hb)
    | (go_at_call 12; (with_reducible refine (one_lit ⟨#[97]⟩ 6 _).mono ?_); rintro e w9 ⟨rfl, hb⟩; have HB9 := Lib.hid (HB8.out.trans (hb.mono HB8.out.size)); have HK9 := Lib.hid (HK8.out.mono hb); clear hb)
    | (go_at_call 7; (with_reducible refine (HG2.out _ _ (HB9.out.alloc HB9.out.size _) (HN2.out _)).mono ?_); rintro e w10 ⟨⟨a9, k9, rfl, -⟩, hb⟩; have HB10 := Lib.hid ((HB9.out.alloc HB9.out.size _).trans (hb.mono (Nat.le_trans HB9.out.size (by simp)))); have HK10 := Lib.hid ((HK9.out.mono ((Below.refl _ _).alloc (Nat.le_refl _) _)).mono hb); clear hb))
  clear HK7 HK8 HK9 HB7 HB8 HB9 HG2 HTo HN2
  go_upto_region 6 with (first
    | (go_at_call 9; (with_reducible refine (HTe.out _ _ (HNE.out _)).mono ?_); rintro e w11 ⟨rfl, hb⟩; have HB11 := Lib.hid ((HB10.out.alloc HB10.out.size _).trans (hb.mono (Nat.le_trans HB10.out.size (by simp)))); have HK11 := Lib.hid ((HK10.out.mono ((Below.refl _ _).alloc (Nat.le_refl _) _)).mono hb); clear hb)
    | ((with_reducible refine at_store (ty := 31) ?_); refine store_new rfl 31 (.tmp 8) (.tmp 35) rfl _ _ rfl rfl (by kernel_rfl) rfl (by rfl) rfl ?_))
  obtain ⟨w12, hw12⟩ : ∃ V, V = w11.alloc (.cells #[.int .i64 0, .int .i64 0, .int .i64 0, .int .i64 0, .int .i64 0] 31) := ⟨_, rfl⟩
  have HK12 := Lib.hid (show K8 B bg og tb c0 c1 k0 k1 w12 by rw [hw12]; exact HK11.out.mono ((Below.refl _ _).alloc (Nat.le_refl _) _))
  have HB12 := Lib.hid (show Below w.heap.size w w12 by rw [hw12]; exact HB11.out.alloc HB11.out.size _)
  rw [← hw12]
  have y12 := HK12.out.g0
  have z12 := HK12.out.g1
  have t12 := HK12.out.blt
  have HIc0 := Lib.hid (fun (V : World) (hV : Below w12.heap.size w12 V) (a : Option Addr) (k : Nat) (g : RowsAt icl 1 V a [0, 2]) => show Calls Tryd.prog 13 #[.slice c0 2 k0, .slice a 2 k] V fun e w' => e = .returned (.bool true) ∧ Below V.heap.size V w' from ints_any c0 a k0 k [0, 2] [0, 2] V (HK12.out.r0.mono hV) g (by decide) (by decide))
  have HIc1 := Lib.hid (fun (V : World) (hV : Below w12.heap.size w12 V) (a : Option Addr) (k : Nat) (g : RowsAt icl 1 V a [1]) => show Calls Tryd.prog 13 #[.slice c1 1 k1, .slice a 1 k] V fun e w' => e = .returned (.bool true) ∧ Below V.heap.size V w' from ints_any c1 a k1 k [1] [1] V (HK12.out.r1.mono hV) g (by decide) (by decide))
  have HP0 := Lib.hid (K8.pod HK12.out.l 0 pA rfl)
  have HP1 := Lib.hid (K8.pod HK12.out.l 1 pB rfl)
  have HP2 := Lib.hid (K8.pod HK12.out.l 2 pC rfl)
  have HTt := Lib.hid (blk_range HK12.out.t)
  have HTl := Lib.hid HK12.out.t.lt
  clear hw12 HK11 HB11 HK10 HB10 HTe HNE HAl HWt HT10
  obtain ⟨W, hWw⟩ : ∃ V, V = w12 := ⟨_, rfl⟩
  subst hWw
  have hcH := held_cell
  refine region_rel (by kernel_rfl) (by kernel_rfl) ?_
  (try dsimp only [List.append])
  repeat
    ((with_reducible refine relStep (fun K hK => ?_))
     (have HK := Lib.hid hK)
     clear hK
     (apply relInl
      · intro r n hf
        have Hf := Lib.hid hf
        clear hf
        (first
          | (fail)
          | (unfold relAt
             go_simp
             (first | (refine relUpon_val ?_ (Below.refl _ _); exact rfl) | exact rfl | (refine relUpon_enter ?_; fail))))
      (simp only [Act.put, List.setIfInBounds_toArray, List.set_cons_zero, List.set_cons_succ])
      (with_reducible refine HK.out _ _ ?_)
      clear HK K))
  (with_reducible refine relStep (fun K hK => ?_))
  (have HK := Lib.hid hK)
  clear hK
  refine relInr (IsL icl 1 [0, 2]) (IsL.stays _) (fun r n hf => ?_) ?_
  · have Hf := Lib.hid hf
    clear hf HK K
    unfold relAt
    (skip)
    go_simp
    ((refine relUpon_val ?_ ?_; exact ⟨_, _, rfl, (fun e => by cases e), HI2.out n.w⟩; exact (Below.refl _ _).alloc (Nat.le_refl _) _))
  (simp only [Act.put, List.setIfInBounds_toArray, List.set_cons_zero, List.set_cons_succ])
  (with_reducible refine HK.out _ _ ?_)
  clear HK K
  ((with_reducible refine relStep (fun K hK => ?_))
   (have HK := Lib.hid hK)
   clear hK
   (apply relInl
    · intro r n hf
      have Hf := Lib.hid hf
      clear hf
      ((obtain ⟨a1, k9, e1, _, g9⟩ := given_at Hf.out 0 rfl (by dsimp only; decide +kernel); dsimp only at e1; unfold relAt; go_simp; refine relUpon_enter ?_; go_at_call 13; (try rw [e1]); (with_reducible refine (HIc0.out _ n.below a1 k9 g9).mono ?_); rintro e w9 ⟨rfl, hb⟩; exact ⟨⟨_, rfl, rfl⟩, hb⟩)))
   (simp only [Act.put, List.setIfInBounds_toArray, List.set_cons_zero, List.set_cons_succ])
   (with_reducible refine HK.out _ _ ?_)
   clear HK K)
  repeat
    ((with_reducible refine relStep (fun K hK => ?_))
     (have HK := Lib.hid hK)
     clear hK
     (apply relInl
      · intro r n hf
        have Hf := Lib.hid hf
        clear hf
        (first
          | (fail)
          | (unfold relAt
             go_simp
             (first | (refine relUpon_val ?_ (Below.refl _ _); exact rfl) | exact rfl | (refine relUpon_enter ?_; fail))))
      (simp only [Act.put, List.setIfInBounds_toArray, List.set_cons_zero, List.set_cons_succ])
      (with_reducible refine HK.out _ _ ?_)
      clear HK K))
  (with_reducible refine relStep (fun K hK => ?_))
  (have HK := Lib.hid hK)
  clear hK
  refine relInr (IsL icl 1 [1]) (IsL.stays _) (fun r n hf => ?_) ?_
  · have Hf := Lib.hid hf
    clear hf HK K
    unfold relAt
    (skip)
    go_simp
    ((refine relUpon_val ?_ ?_; exact ⟨_, _, rfl, (fun e => by cases e), HI1.out n.w⟩; exact (Below.refl _ _).alloc (Nat.le_refl _) _))
  (simp only [Act.put, List.setIfInBounds_toArray, List.set_cons_zero, List.set_cons_succ])
  (with_reducible refine HK.out _ _ ?_)
  clear HK K
  ((with_reducible refine relStep (fun K hK => ?_))
   (have HK := Lib.hid hK)
   clear hK
   (apply relInl
    · intro r n hf
      have Hf := Lib.hid hf
      clear hf
      ((obtain ⟨a1, k9, e1, _, g9⟩ := given_at Hf.out 1 rfl (by dsimp only; decide +kernel); dsimp only at e1; unfold relAt; go_simp; refine relUpon_enter ?_; go_at_call 13; (try rw [e1]); (with_reducible refine (HIc1.out _ n.below a1 k9 g9).mono ?_); rintro e w9 ⟨rfl, hb⟩; exact ⟨⟨_, rfl, rfl⟩, hb⟩)))
   (simp only [Act.put, List.setIfInBounds_toArray, List.set_cons_zero, List.set_cons_succ])
   (with_reducible refine HK.out _ _ ?_)
   clear HK K)
  repeat
    ((with_reducible refine relStep (fun K hK => ?_))
     (have HK := Lib.hid hK)
     clear hK
     (apply relInl
      · intro r n hf
        have Hf := Lib.hid hf
        clear hf
        (first
          | ((first | ((with_reducible refine at_rel (ty := 31) ?_); refine rel_load rfl tb 0 rfl [.int .i64 16, .int .i64 0, .int .i64 0, .int .i64 3, .int .i64 0] _ Tryd.underlying31 rfl (by kernel_rfl) (rangeAt_mono HTt.out HTl.out n.below) rfl) | ((with_reducible refine at_rel (ty := 37) ?_); refine rel_load rfl B 0 rfl [.string ⟨#[97]⟩, .int .i64 (5), .int .i64 0, .int .i64 0, .int .i64 1, .int .i64 0, .slice none 0 0, .slice none 0 0, .slice none 0 0, .slice none 0 0, .slice none 0 0, .slice none 0 0, .bool false, .slice none 0 0, .int .i64 0, .int .i64 0, .string ⟨#[]⟩, .bool false, .bool false, .bool false] _ Tryd.underlying37 rfl (by kernel_rfl) (rangeAt_mono HP0.out.1 HP0.out.2 n.below) rfl) | ((with_reducible refine at_rel (ty := 37) ?_); refine rel_load rfl B 20 rfl [.string ⟨#[98]⟩, .int .i64 (6), .int .i64 0, .int .i64 0, .int .i64 1, .int .i64 0, .slice none 0 0, .slice none 0 0, .slice none 0 0, .slice none 0 0, .slice none 0 0, .slice none 0 0, .bool false, .slice none 0 0, .int .i64 0, .int .i64 0, .string ⟨#[]⟩, .bool false, .bool false, .bool false] _ Tryd.underlying37 rfl (by kernel_rfl) (rangeAt_mono HP1.out.1 HP1.out.2 n.below) rfl) | ((with_reducible refine at_rel (ty := 37) ?_); refine rel_load rfl B 40 rfl [.string ⟨#[99]⟩, .int .i64 (5), .int .i64 0, .int .i64 0, .int .i64 1, .int .i64 0, .slice none 0 0, .slice none 0 0, .slice none 0 0, .slice none 0 0, .slice none 0 0, .slice none 0 0, .bool false, .slice none 0 0, .int .i64 0, .int .i64 0, .string ⟨#[]⟩, .bool false, .bool false, .bool false] _ Tryd.underlying37 rfl (by kernel_rfl) (rangeAt_mono HP2.out.1 HP2.out.2 n.below) rfl)))
          | (unfold relAt
             go_simp
             (first | (refine relUpon_val ?_ (Below.refl _ _); exact rfl) | exact rfl | (refine relUpon_enter ?_; (first | (go_at_call 8; (with_reducible refine (HA1.out _ (HB12.out.trans (n.below.mono HB12.out.size))).mono ?_); rintro e w9 ⟨rfl, hb⟩; exact ⟨⟨_, rfl, rfl⟩, hb⟩) | (go_at_call 8; (with_reducible refine (HA2.out _ (HB12.out.trans (n.below.mono HB12.out.size))).mono ?_); rintro e w9 ⟨rfl, hb⟩; exact ⟨⟨_, rfl, rfl⟩, hb⟩) | (go_at_call 14; (with_reducible refine (HF1.out _ _ (HK12.out.l.mono n.below)).mono ?_); rintro e w9 ⟨rfl, hb⟩; exact ⟨⟨_, rfl, rfl⟩, hb⟩) | (go_at_call 14; (with_reducible refine (HF2.out _ _ (HK12.out.l.mono n.below)).mono ?_); rintro e w9 ⟨rfl, hb⟩; exact ⟨⟨_, rfl, rfl⟩, hb⟩) | (go_at_call 15; (with_reducible refine (HKy.out _ (HB12.out.trans (n.below.mono HB12.out.size))).mono ?_); rintro e w9 ⟨rfl, hb⟩; exact ⟨⟨_, rfl, rfl⟩, hb⟩))))))
      (simp only [Act.put, List.setIfInBounds_toArray, List.set_cons_zero, List.set_cons_succ])
      (with_reducible refine HK.out _ _ ?_)
      clear HK K))
  refine relNil ?_
  intro r9 n9 hx9
  clear hcH
  (try simp only [List.nil_append, List.cons_append, List.mem_cons, List.not_mem_nil, or_false, forall_eq_or_imp, forall_eq, false_implies, implies_true] at hx9)
  obtain ⟨w9, hb9⟩ := n9
  (try dsimp only)
  obtain ⟨hc9, hf9⟩ := bcell hb9
  have hz9 := hb9.size
  (try simp at hz9)
  have HB9 := Lib.hid (HB12.out.trans (hb9.mono HB12.out.size))
  go_wp2
  go_ret
  exact ⟨rfl, HB9.out⟩
end Go.Proofs.YtccplljbljpjpaaDoor
