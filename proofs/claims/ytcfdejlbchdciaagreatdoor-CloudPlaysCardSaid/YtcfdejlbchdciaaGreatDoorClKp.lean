/-
  What comes of fixed calls of a provider, in plain words.
-/
import Derived.Test.YtcfdejlbchdciaaGreatDoorClV
namespace Go.Proofs.YtcfdejlbchdciaaGreatDoor
open Go.RowKit
set_option linter.unusedVariables false
set_option linter.unusedSimpArgs false

abbrev sg : ByteArray := ⟨#[103]⟩
abbrev sx : ByteArray := ⟨#[120]⟩
abbrev sg1 : ByteArray := ⟨#[103, 45, 49]⟩
abbrev sg2 : ByteArray := ⟨#[103, 45, 50]⟩
abbrev sg3 : ByteArray := ⟨#[103, 45, 51]⟩
def cK : Mac := ⟨emp, ⟨#[103]⟩, 1000, 0, 0, 0, 0, none, 0, [], none, 0, [], true⟩
def cG : Gp := ⟨⟨#[103]⟩, 1, 3, cK, 0, 0⟩
theorem cK_in (w : World) : MacIn w cK := ⟨⟨RowsAt.nil, RowsAt.nil, Nat.zero_le _, Nat.zero_le _⟩, fun _ => ⟨rfl, rfl⟩, Nat.le_refl _, fun _ => ⟨rfl, rfl⟩, Nat.le_refl _⟩
theorem cG_light : lightGs [cG] = true := by decide +kernel
theorem cG_right : rightGs [cG] = true := by decide +kernel
theorem cG_in (w : World) : ∀ g ∈ [cG], MacIn w g.like := fun g hg => by
  obtain rfl : g = cG := by simpa using hg
  exact cK_in w
theorem mnm_small (k : Nat) (c : UInt8) (h1 : 1 ≤ k) (h9 : k < 10) (hc : UInt8.ofNat (48 + k) = c) : mnm sg k = ⟨#[103, 45, c]⟩ := by
  unfold mnm
  rw [if_pos ⟨by omega, by omega⟩, Int.toNat_natCast]
  unfold dgB
  rw [dec_one k (by omega)]
  subst hc
  rfl
theorem nm1 : mnm sg 1 = sg1 := mnm_small 1 49 (by decide) (by decide) (by decide)
theorem nm2 : mnm sg 2 = sg2 := mnm_small 2 50 (by decide) (by decide) (by decide)
theorem nm3 : mnm sg 3 = sg3 := mnm_small 3 51 (by decide) (by decide) (by decide)
abbrev kG : List Gk := [⟨sg, 1, 3⟩]
def k0 : CS := ⟨kG, [⟨1, 1, false⟩], [⟨sg1, sg, 2, 0, 0⟩], 2, 0, 0⟩
def k1 : CS := ⟨kG, [⟨3, 3, false⟩], [⟨sg1, sg, 2, 0, 0⟩, ⟨sg2, sg, 1, 2, 0⟩, ⟨sg3, sg, 1, 2, 0⟩], 2, 0, 1⟩
def k2 : CS := ⟨kG, [⟨3, 3, false⟩], [⟨sg1, sg, 2, 0, 0⟩, ⟨sg2, sg, 1, 1, 0⟩, ⟨sg3, sg, 1, 1, 0⟩], 2, 1, 1⟩
def k3 : CS := ⟨kG, [⟨3, 3, false⟩], [⟨sg1, sg, 2, 0, 0⟩, ⟨sg2, sg, 2, 0, 0⟩, ⟨sg3, sg, 2, 0, 0⟩], 2, 2, 1⟩
def k4 : CS := ⟨kG, [⟨2, 3, false⟩], [⟨sg1, sg, 3, 1, 0⟩, ⟨sg2, sg, 2, 0, 0⟩, ⟨sg3, sg, 2, 0, 0⟩], 2, 2, 2⟩
def k6 : CS := ⟨kG, [⟨2, 3, false⟩], [⟨sg2, sg, 2, 0, 0⟩, ⟨sg3, sg, 2, 0, 0⟩], 2, 3, 2⟩
theorem k0_eq : CS.new ([cG].map gkOf) 2 = k0 := by
  have h : CS.new ([cG].map gkOf) 2 = ⟨kG, [⟨1, 1, false⟩], [⟨mnm sg 1, sg, 2, 0, 0⟩], 2, 0, 0⟩ := by kernel_rfl
  rw [h, nm1]
  rfl
theorem k1_eq : k0.inc sg 2 = (k1, 0) := by
  have h : k0.inc sg 2 = (⟨kG, [⟨3, 3, false⟩], [⟨sg1, sg, 2, 0, 0⟩, ⟨mnm sg 2, sg, 1, 2, 0⟩, ⟨mnm sg 3, sg, 1, 2, 0⟩], 2, 0, 1⟩, 0) := by kernel_rfl
  rw [h, nm2, nm3]
  rfl
theorem k1b_eq : k1.inc sg 1 = (k1, 21) := by kernel_rfl
theorem k2_eq : k1.tick = k2 := by kernel_rfl
theorem k3_eq : k2.tick = k3 := by kernel_rfl
theorem k4_eq : k3.del sg1 = (k4, 0) := by kernel_rfl
theorem k5_eq : k4.del sg1 = (k4, 22) := by kernel_rfl
theorem k6_eq : k4.tick = k6 := by kernel_rfl
theorem k6_tgt : k6.tgt sg = 2 := by kernel_rfl
theorem k7_eq : k6.dec sg 1 = (k6, 20) := by kernel_rfl
theorem k8_eq : k6.inc sx 1 = (k6, 16) := by kernel_rfl
end Go.Proofs.YtcfdejlbchdciaaGreatDoor
