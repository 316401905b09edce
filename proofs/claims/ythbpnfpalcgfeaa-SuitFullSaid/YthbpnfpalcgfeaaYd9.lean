/-
  Yards: what known calls.
-/
import Derived.Test.YthbpnfpalcgfeaaYd8
namespace Go.Proofs.Ythbpnfpalcgfeaa
open Go.RowKit
set_option linter.unusedVariables false
set_option linter.unusedSimpArgs false

def labK : List Lab := [⟨⟨#[122, 111, 110, 101]⟩, ⟨#[97]⟩⟩]
def mK1 (B : Nat) : Mac := ⟨⟨#[109]⟩, emp, 1000, 0, 0, 3, 0, some ⟨B, 0, none⟩, 1, labK, none, 0, [], true⟩
def mK2 : Mac := ⟨⟨#[110]⟩, emp, 0, 0, 0, 0, 0, none, 0, [], none, 0, [], false⟩
def pK (nm : ByteArray) (c : Int) : Pd := ⟨nm, c, 0, 0, 1, 0, none, 0, [], none, 0, [], none, 0, [], none, 0, [], none, 0, [], none, 0, [], false, none, 0, [], 0, 0, emp, false, false, false⟩
def bK1 : Bd := ⟨pK ⟨#[112]⟩ 300, ⟨#[109]⟩⟩
def bK2 : Bd := ⟨pK ⟨#[113]⟩ 0, emp⟩
/-- The yard that known speaks of. -/
structure K9 (w : World) (B : Nat) : Prop where
  lb : LabL w (some ⟨B, 0, none⟩) labK
  ms : MacL w (some ⟨B + 1, 0, none⟩) [mK1 B, mK2]
  m1 : MacL w (some ⟨B + 1, 10, none⟩) [mK2]
  bs : BndL w (some ⟨B + 2, 0, none⟩) [bK1, bK2]
theorem K9.mono {w w' : World} {B : Nat} (h : K9 w B) (hb : Below w.heap.size w w') : K9 w' B := ⟨h.lb.mono hb, h.ms.mono hb, h.m1.mono hb, h.bs.mono hb⟩
theorem mK2_in (w : World) : MacIn w mK2 := ⟨⟨RowsAt.nil, RowsAt.nil, Nat.zero_le _, Nat.zero_le _⟩, fun _ => ⟨rfl, rfl⟩, Nat.le_refl _, fun _ => ⟨rfl, rfl⟩, Nat.le_refl _⟩
theorem K9.mac1 {w : World} {B : Nat} (h : K9 w B) : MacIn w (mK1 B) := ⟨⟨h.lb, RowsAt.nil, (by show 1 ≤ maxLen; decide), Nat.zero_le _⟩, (fun e => by cases e), Nat.le_refl _, fun _ => ⟨rfl, rfl⟩, Nat.le_refl _⟩
theorem K9.mac {w : World} {B : Nat} (h : K9 w B) : ∀ m ∈ [mK1 B, mK2], MacIn w m := fun m hm => by
  simp only [List.mem_cons, List.not_mem_nil, or_false] at hm
  rcases hm with rfl | rfl
  · exact h.mac1
  · exact mK2_in w
theorem pK_in (w : World) (nm : ByteArray) (c : Int) : PodIn w (pK nm c) := ⟨⟨RowsAt.nil, RowsAt.nil, RowsAt.nil, (fun t ht => by cases ht), RowsAt.nil, RowsAt.nil, RowsAt.nil, RowsAt.nil, Nat.zero_le _, Nat.zero_le _, Nat.zero_le _, Nat.zero_le _, Nat.zero_le _, Nat.zero_le _, Nat.zero_le _⟩, ⟨fun _ => ⟨rfl, rfl⟩, Nat.le_refl _⟩, ⟨fun _ => ⟨rfl, rfl⟩, Nat.le_refl _⟩, ⟨fun _ => ⟨rfl, rfl⟩, Nat.le_refl _⟩, ⟨fun _ => ⟨rfl, rfl⟩, Nat.le_refl _⟩, ⟨fun _ => ⟨rfl, rfl⟩, Nat.le_refl _⟩, ⟨fun _ => ⟨rfl, rfl⟩, Nat.le_refl _⟩, ⟨fun _ => ⟨rfl, rfl⟩, Nat.le_refl _⟩⟩
theorem bnd_K (w : World) : ∀ b ∈ [bK1, bK2], BndIn w b := fun b hb => by
  simp only [List.mem_cons, List.not_mem_nil, or_false] at hb
  rcases hb with rfl | rfl <;> exact pK_in w _ _
theorem mrow_len (m : Mac) : (mrow m).length = 10 := rfl
theorem K9.new (w : World) (t1 t2 t3 : TypeId) : K9 (((w.alloc (.cells (labK.flatMap kcs).toArray t1)).alloc (.cells ([mK1 w.heap.size, mK2].flatMap mrow).toArray t2)).alloc (.cells ([bK1, bK2].flatMap brow).toArray t3)) w.heap.size := by
  have b1 : Below (w.heap.size + 1) (w.alloc (.cells (labK.flatMap kcs).toArray t1)) ((w.alloc (.cells (labK.flatMap kcs).toArray t1)).alloc (.cells ([mK1 w.heap.size, mK2].flatMap mrow).toArray t2)) := (Below.refl _ _).alloc (by simp) _
  have b2 : Below (w.heap.size + 2) ((w.alloc (.cells (labK.flatMap kcs).toArray t1)).alloc (.cells ([mK1 w.heap.size, mK2].flatMap mrow).toArray t2)) (((w.alloc (.cells (labK.flatMap kcs).toArray t1)).alloc (.cells ([mK1 w.heap.size, mK2].flatMap mrow).toArray t2)).alloc (.cells ([bK1, bK2].flatMap brow).toArray t3)) := (Below.refl _ _).alloc (by simp) _
  have h1 := RowsAt.new kcs_len w labK t1
  have h2 := RowsAt.new mrow_len (w.alloc (.cells (labK.flatMap kcs).toArray t1)) [mK1 w.heap.size, mK2] t2
  have h3 := RowsAt.new brow_len ((w.alloc (.cells (labK.flatMap kcs).toArray t1)).alloc (.cells ([mK1 w.heap.size, mK2].flatMap mrow).toArray t2)) [bK1, bK2] t3
  rw [World.size_alloc] at h2 h3
  rw [World.size_alloc] at h3
  have h2' := h2.mono (w' := (((w.alloc (.cells (labK.flatMap kcs).toArray t1)).alloc (.cells ([mK1 w.heap.size, mK2].flatMap mrow).toArray t2)).alloc (.cells ([bK1, bK2].flatMap brow).toArray t3))) (by simpa using b2)
  refine ⟨(h1.mono (by simpa using b1)).mono (by simpa using b2), h2', ?_, h3⟩
  intro hp
  obtain ⟨b, o, e, hb, hc⟩ := h2' (Nat.succ_pos _)
  injection e with e
  injection e with e1 e2
  subst e1 e2
  refine ⟨w.heap.size + 1, 10, rfl, hb, fun k m hm j hj => ?_⟩
  have h9 := hc (k + 1) m (by simpa using hm) j hj
  rw [← h9]
  congr 2
  omega
set_option maxRecDepth 100000 in
theorem k_light (B : Nat) : lightM (mK1 B) = true ∧ lightM mK2 = true := ⟨rfl, by decide +kernel⟩
theorem k_lights (B : Nat) : ∀ m ∈ [mK1 B, mK2], lightM m = true := fun m hm => by
  simp only [List.mem_cons, List.not_mem_nil, or_false] at hm
  rcases hm with rfl | rfl
  · exact (k_light B).1
  · exact (k_light B).2
set_option maxRecDepth 100000 in
theorem k_lightb : ∀ b ∈ [bK1, bK2], lightP b.p = true := fun b hb => by
  simp only [List.mem_cons, List.not_mem_nil, or_false] at hb
  rcases hb with rfl | rfl <;> decide +kernel
set_option maxRecDepth 100000 in
theorem k_used : usedY [bK1, bK2] ⟨#[109]⟩ = (0, ⟨300, 0, 0, 1, 0⟩) := rfl
set_option maxRecDepth 100000 in
theorem k_left (B : Nat) : leftY (mK1 B) [bK1, bK2] = ⟨700, 0, 0, 2, 0⟩ := rfl
set_option maxRecDepth 100000 in
theorem k_check (B : Nat) : checkY [mK1 B, mK2] [bK1, bK2] = 0 := rfl
set_option maxRecDepth 100000 in
theorem k_check1 : checkY [mK2] [bK1, bK2] = 16 := by decide +kernel
theorem k_find (B : Nat) : findN ([mK1 B, mK2].map Mac.nm) ⟨#[110]⟩ 0 = 1 := by
  show findN [⟨#[109]⟩, ⟨#[110]⟩] _ 0 = 1
  decide +kernel
theorem k_place : findN ([bK1, bK2].map pnm) ⟨#[113]⟩ 0 = 1 := by decide +kernel
set_option maxRecDepth 100000 in
theorem k_on : (onL [bK1, bK2] ⟨#[109]⟩).length = 1 := by decide +kernel
set_option maxRecDepth 100000 in
theorem k_zones (B : Nat) : zonesY [mK1 B, mK2] = [⟨#[97]⟩] := rfl
end Go.Proofs.Ythbpnfpalcgfeaa
