/-
  The program's parse: the right event whose line a text is.
-/
import Derived.Test.YtaehcnoendieaaaDoorTc9
namespace Go.Proofs.YtaehcnoendieaaaDoor
open Go.RowKit
set_option linter.unusedVariables false
set_option linter.unusedSimpArgs false

theorem cut_le (s sep : List UInt8) : (Lib.cut s sep).1.length ≤ s.length ∧ (Lib.cut s sep).2.1.length ≤ s.length := by
  unfold Lib.cut
  split
  · exact ⟨List.length_take_le' _ _, by rw [List.length_drop]; omega⟩
  · exact ⟨Nat.le_refl _, Nat.zero_le _⟩
theorem split_le (sep : List UInt8) : ∀ (k : Nat) (s : List UInt8), (∀ x ∈ Lib.splitK sep 0 k s, x.length ≤ s.length) ∧ Lib.splitK sep 0 k s ≠ []
  | 0, s => ⟨fun x hx => by rw [Lib.splitK] at hx; rw [List.mem_singleton.1 hx]; exact Nat.le_refl _, by rw [Lib.splitK]; exact fun h => by cases h⟩
  | k + 1, s => by
    rw [Lib.splitK]
    split
    · exact ⟨fun x hx => by rw [List.mem_singleton.1 hx]; exact Nat.le_refl _, fun h => by cases h⟩
    · refine ⟨fun x hx => ?_, fun h => by cases h⟩
      rcases List.mem_cons.1 hx with rfl | hx
      · exact List.length_take_le' _ _
      · have := (split_le sep k _).1 x hx
        rw [List.length_drop] at this
        omega
theorem parts_le (m : ByteArray) : (∀ x ∈ partsB m, x.size ≤ m.size) ∧ partsB m ≠ [] := by
  rw [parts_of]
  obtain ⟨h1, h2⟩ := split_le [32] (min 4 (m.size + 1) - 1) (dl m)
  refine ⟨fun x hx => ?_, fun h => h2 (List.map_eq_nil_iff.1 h)⟩
  obtain ⟨y, hy, rfl⟩ := List.mem_map.1 hx
  rw [ls_size, ← dl_size]
  exact h1 y hy
/-- What parse gives back. -/
def orZ : Option Ev → Value
  | some e => .tuple #[.agg #[.int .i64 e.now, .string e.what, .string e.name, .int .i64 e.n], .bool true]
  | none => .tuple #[.agg #[.int .i64 0, .string ⟨#[]⟩, .string ⟨#[]⟩, .int .i64 0], .bool false]
set_option maxRecDepth 100000 in
set_option maxHeartbeats 8000000 in
theorem parse_any (t : ByteArray) (ht : t.size ≤ 100000) (w : World) (hT : Tab10 w) (hM : MaxAt w) :
    Calls Tryd.prog 25 #[.string t] w fun r w' => r = .returned (orZ (parseL t)) ∧ Below w.heap.size w w' := by
  have HT := Lib.hid hT
  obtain ⟨Rs, hRs⟩ : ∃ R, parseL t = R := ⟨_, rfl⟩
  rw [hRs]
  unfold parseL at hRs
  obtain ⟨l1, l2⟩ := cut_le (dl t) [58, 32]
  rw [dl_size] at l1 l2
  have hC := fun (V : World) (hV : Below w.heap.size w V) => cut_any t ⟨#[58, 32]⟩ (by omega) V (hM.mono hV)
  rw [show dl (⟨#[58, 32]⟩ : ByteArray) = [58, 32] from rfl] at hC
  obtain ⟨⟨d, m, f⟩, hq⟩ : ∃ q, Lib.cut (dl t) [58, 32] = q := ⟨_, rfl⟩
  rw [hq] at hRs l1 l2 hC
  dsimp only at hRs l1 l2 hC
  have HC := Lib.hid hC
  clear hC hq
  cases f with
  | false =>
    rw [if_neg (by decide)] at hRs
    subst hRs
    clear hT hM l1 l2
    go_enter Tryd.func25, Tryd.ntmps25
    go_wp2_with (go_at_call 24; (with_reducible refine (HC.out _ (show Below w.heap.size w _ from by (repeat' (first | with_reducible exact Below.refl _ _ | with_reducible assumption | with_reducible refine Below.drew ?_ | with_reducible refine below_drewN' ?_ _ | with_reducible refine Below.alloc ?_ ?_ _ | with_reducible refine Below.setCell ?_ ?_ _ | with_reducible refine below_step (by assumption) ?_ ?_ | omega | (simp; done) | (simp; omega))))).mono ?_); rintro e w1 ⟨rfl, hb1⟩; obtain ⟨hc1, hf1⟩ := bcell hb1; have hz1 := hb1.size; (try simp at hz1); have z1_0 : w.heap.size < w1.heap.size := (by omega); have y1_0 : w.heap.size ≤ w1.heap.size := (by omega))
    (try have n1 : ¬ (w.heap.size = w2.heap.size) := by omega)
    (try have n2 : ¬ (w2.heap.size = w.heap.size) := by omega)
    (try have r0 : w2.cell? ⟨w.heap.size, 0, none⟩ = some (.int .i64 0) := by simp [go_sem, *])
    (try have r1 : w2.cell? ⟨w.heap.size, 1, none⟩ = some (.string ⟨#[]⟩) := by simp [go_sem, *])
    (try have r2 : w2.cell? ⟨w.heap.size, 2, none⟩ = some (.string ⟨#[]⟩) := by simp [go_sem, *])
    (try have r3 : w2.cell? ⟨w.heap.size, 3, none⟩ = some (.int .i64 0) := by simp [go_sem, *])
    (try have s0 : w3.cell? ⟨w.heap.size, 0, none⟩ = some (.int .i64 0) := by rw [hc3 _ _ (by first | omega | (simp; omega))]; first | assumption | simp [go_sem, *])
    (try have s1 : w3.cell? ⟨w.heap.size, 1, none⟩ = some (.string ⟨#[]⟩) := by rw [hc3 _ _ (by first | omega | (simp; omega))]; first | assumption | simp [go_sem, *])
    (try have s2 : w3.cell? ⟨w.heap.size, 2, none⟩ = some (.string ⟨#[]⟩) := by rw [hc3 _ _ (by first | omega | (simp; omega))]; first | assumption | simp [go_sem, *])
    (try have s3 : w3.cell? ⟨w.heap.size, 3, none⟩ = some (.int .i64 0) := by rw [hc3 _ _ (by first | omega | (simp; omega))]; first | assumption | simp [go_sem, *])
    (try have t0 : w8.cell? ⟨w.heap.size, 0, none⟩ = some (.int .i64 0) := by rw [hc8 _ _ (by first | omega | (simp; omega))]; first | assumption | simp [go_sem, *])
    (try have t1 : w8.cell? ⟨w.heap.size, 1, none⟩ = some (.string ⟨#[]⟩) := by rw [hc8 _ _ (by first | omega | (simp; omega))]; first | assumption | simp [go_sem, *])
    (try have t2 : w8.cell? ⟨w.heap.size, 2, none⟩ = some (.string ⟨#[]⟩) := by rw [hc8 _ _ (by first | omega | (simp; omega))]; first | assumption | simp [go_sem, *])
    (try have t3 : w8.cell? ⟨w.heap.size, 3, none⟩ = some (.int .i64 0) := by rw [hc8 _ _ (by first | omega | (simp; omega))]; first | assumption | simp [go_sem, *])
    (try have u0 : w9.cell? ⟨w.heap.size, 0, none⟩ = some (.int .i64 0) := by rw [hc9 _ _ (by first | omega | (simp; omega))]; first | assumption | simp [go_sem, *])
    (try have u1 : w9.cell? ⟨w.heap.size, 1, none⟩ = some (.string ⟨#[]⟩) := by rw [hc9 _ _ (by first | omega | (simp; omega))]; first | assumption | simp [go_sem, *])
    (try have u2 : w9.cell? ⟨w.heap.size, 2, none⟩ = some (.string ⟨#[]⟩) := by rw [hc9 _ _ (by first | omega | (simp; omega))]; first | assumption | simp [go_sem, *])
    (try have u3 : w9.cell? ⟨w.heap.size, 3, none⟩ = some (.int .i64 0) := by rw [hc9 _ _ (by first | omega | (simp; omega))]; first | assumption | simp [go_sem, *])
    refine bodyPost_ret (v := orZ none) (by first | (simp [results, Tryd.results25, go_sem, orZ, u0, u1, u2, u3]; done) | (simp [results, Tryd.results25, go_sem, orZ, t0, t1, t2, t3]; done) | simp [results, Tryd.results25, go_sem, orZ, *]) rfl ⟨rfl, ?_⟩
    (repeat' (first | with_reducible exact Below.refl _ _ | with_reducible assumption | with_reducible refine Below.drew ?_ | with_reducible refine below_drewN' ?_ _ | with_reducible refine Below.alloc ?_ ?_ _ | with_reducible refine Below.setCell ?_ ?_ _ | with_reducible refine below_step (by assumption) ?_ ?_ | omega | (simp; done) | (simp; omega)))
  | true =>
    rw [if_pos rfl] at hRs
    have hX : (lsB d).size ≤ 100000 := by rw [ls_size]; omega
    have hY : (lsB m).size ≤ 100000 := by rw [ls_size]; omega
    obtain ⟨X, eX⟩ : ∃ X, lsB d = X := ⟨_, rfl⟩
    obtain ⟨Y, eY⟩ : ∃ Y, lsB m = Y := ⟨_, rfl⟩
    rw [eX] at hX hRs HC
    rw [eY] at hY hRs HC
    clear eX eY l1 l2
    have hS := fun (V : World) (hV : Below w.heap.size w V) => splitn_any Y (by omega) V (hM.mono hV)
    have HN0 := Lib.hid (fun V : World => number_any X (by omega) V)
    obtain ⟨hp1, hp2⟩ := parts_le Y
    obtain ⟨P, hP⟩ : ∃ P, partsB Y = P := ⟨_, rfl⟩
    rw [hP] at hRs hS hp1 hp2
    have hnx : (numV X).1 = numI X := rfl
    rw [hnx] at HN0
    obtain ⟨ν, hν⟩ : ∃ ν, numI X = ν := ⟨_, rfl⟩
    rw [hν] at HN0 hRs
    clear hP hM hT hnx hν
    match P with
    | [] => exact absurd rfl hp2
    | [p0] =>
      have HS := Lib.hid hS
      have HRR := Lib.hid (fun V : World => right_any ⟨ν, p0, ⟨#[]⟩, 0⟩ V)
      have hRs : (if rightE ⟨ν, p0, ⟨#[]⟩, 0⟩ = true ∧ lineE ⟨ν, p0, ⟨#[]⟩, 0⟩ = t then some (Ev.mk ν p0 ⟨#[]⟩ 0) else none) = Rs := hRs
      clear hS hp1 hp2
      cases hr : rightE ⟨ν, p0, ⟨#[]⟩, 0⟩
      · rw [hr] at HRR
        obtain rfl : Rs = none := by rw [← hRs, if_neg (fun h => by rw [hr] at h; cases h.1)]
        clear hr hRs
        go_enter Tryd.func25, Tryd.ntmps25
        go_wp2_with (first
          | (go_at_call 24; (with_reducible refine (HC.out _ (show Below w.heap.size w _ from by (repeat' (first | with_reducible exact Below.refl _ _ | with_reducible assumption | with_reducible refine Below.drew ?_ | with_reducible refine below_drewN' ?_ _ | with_reducible refine Below.alloc ?_ ?_ _ | with_reducible refine Below.setCell ?_ ?_ _ | with_reducible refine below_step (by assumption) ?_ ?_ | omega | (simp; done) | (simp; omega))))).mono ?_); rintro e w1 ⟨rfl, hb1⟩; obtain ⟨hc1, hf1⟩ := bcell hb1; have hz1 := hb1.size; (try simp at hz1); have z1_0 : w.heap.size < w1.heap.size := (by omega); have y1_0 : w.heap.size ≤ w1.heap.size := (by omega)) | (go_at_call 39; (with_reducible refine (HS.out _ (show Below w.heap.size w _ from by (repeat' (first | with_reducible exact Below.refl _ _ | with_reducible assumption | with_reducible refine Below.drew ?_ | with_reducible refine below_drewN' ?_ _ | with_reducible refine Below.alloc ?_ ?_ _ | with_reducible refine Below.setCell ?_ ?_ _ | with_reducible refine below_step (by assumption) ?_ ?_ | omega | (simp; done) | (simp; omega))))).mono ?_); rintro e w2 ⟨⟨a, cp, rfl, hx⟩, hb2⟩; obtain ⟨b, o, rfl, hbb, hcs⟩ := hx (by simp); (try have pc0 : w2.cell? ⟨b, o, none⟩ = some (.string p0) := (hcs 0 _ rfl 0 (by decide))); (try have pc1 : w2.cell? ⟨b, o + 1, none⟩ = some (.string p1) := (hcs 1 _ rfl 0 (by decide))); (try have pc2 : w2.cell? ⟨b, o + 2, none⟩ = some (.string p2) := (hcs 2 _ rfl 0 (by decide))); clear hcs hx; obtain ⟨hc2, hf2⟩ := bcell hb2; have hz2 := hb2.size; (try simp at hz2); have z2_0 : w.heap.size < w2.heap.size := (by omega); have y2_0 : w.heap.size ≤ w2.heap.size := (by omega)) | (go_at_call 40; (with_reducible first | refine (HN0.out _).mono ?_ | refine (HN2.out _).mono ?_); rintro e w3 ⟨rfl, hb3⟩; obtain ⟨hc3, hf3⟩ := bcell hb3; have hz3 := hb3.size; (try simp at hz3); have z3_0 : w.heap.size < w3.heap.size := (by omega); have y3_0 : w.heap.size ≤ w3.heap.size := (by omega); have z3_1 : w2.heap.size < w3.heap.size := (by omega); have y3_1 : w2.heap.size ≤ w3.heap.size := (by omega))
          | (go_at_call 14; (with_reducible refine (HRR.out _).mono ?_); rintro e w8 ⟨rfl, hb8⟩; obtain ⟨hc8, hf8⟩ := bcell hb8; have hz8 := hb8.size; (try simp at hz8); have z8_0 : w.heap.size < w8.heap.size := (by omega); have y8_0 : w.heap.size ≤ w8.heap.size := (by omega)))
        (try have n1 : ¬ (w.heap.size = w2.heap.size) := by omega)
        (try have n2 : ¬ (w2.heap.size = w.heap.size) := by omega)
        (try have r0 : w2.cell? ⟨w.heap.size, 0, none⟩ = some (.int .i64 0) := by simp [go_sem, *])
        (try have r1 : w2.cell? ⟨w.heap.size, 1, none⟩ = some (.string ⟨#[]⟩) := by simp [go_sem, *])
        (try have r2 : w2.cell? ⟨w.heap.size, 2, none⟩ = some (.string ⟨#[]⟩) := by simp [go_sem, *])
        (try have r3 : w2.cell? ⟨w.heap.size, 3, none⟩ = some (.int .i64 0) := by simp [go_sem, *])
        (try have s0 : w3.cell? ⟨w.heap.size, 0, none⟩ = some (.int .i64 0) := by rw [hc3 _ _ (by first | omega | (simp; omega))]; first | assumption | simp [go_sem, *])
        (try have s1 : w3.cell? ⟨w.heap.size, 1, none⟩ = some (.string ⟨#[]⟩) := by rw [hc3 _ _ (by first | omega | (simp; omega))]; first | assumption | simp [go_sem, *])
        (try have s2 : w3.cell? ⟨w.heap.size, 2, none⟩ = some (.string ⟨#[]⟩) := by rw [hc3 _ _ (by first | omega | (simp; omega))]; first | assumption | simp [go_sem, *])
        (try have s3 : w3.cell? ⟨w.heap.size, 3, none⟩ = some (.int .i64 0) := by rw [hc3 _ _ (by first | omega | (simp; omega))]; first | assumption | simp [go_sem, *])
        (try have t0 : w8.cell? ⟨w.heap.size, 0, none⟩ = some (.int .i64 0) := by rw [hc8 _ _ (by first | omega | (simp; omega))]; first | assumption | simp [go_sem, *])
        (try have t1 : w8.cell? ⟨w.heap.size, 1, none⟩ = some (.string ⟨#[]⟩) := by rw [hc8 _ _ (by first | omega | (simp; omega))]; first | assumption | simp [go_sem, *])
        (try have t2 : w8.cell? ⟨w.heap.size, 2, none⟩ = some (.string ⟨#[]⟩) := by rw [hc8 _ _ (by first | omega | (simp; omega))]; first | assumption | simp [go_sem, *])
        (try have t3 : w8.cell? ⟨w.heap.size, 3, none⟩ = some (.int .i64 0) := by rw [hc8 _ _ (by first | omega | (simp; omega))]; first | assumption | simp [go_sem, *])
        (try have u0 : w9.cell? ⟨w.heap.size, 0, none⟩ = some (.int .i64 0) := by rw [hc9 _ _ (by first | omega | (simp; omega))]; first | assumption | simp [go_sem, *])
        (try have u1 : w9.cell? ⟨w.heap.size, 1, none⟩ = some (.string ⟨#[]⟩) := by rw [hc9 _ _ (by first | omega | (simp; omega))]; first | assumption | simp [go_sem, *])
        (try have u2 : w9.cell? ⟨w.heap.size, 2, none⟩ = some (.string ⟨#[]⟩) := by rw [hc9 _ _ (by first | omega | (simp; omega))]; first | assumption | simp [go_sem, *])
        (try have u3 : w9.cell? ⟨w.heap.size, 3, none⟩ = some (.int .i64 0) := by rw [hc9 _ _ (by first | omega | (simp; omega))]; first | assumption | simp [go_sem, *])
        refine bodyPost_ret (v := orZ none) (by first | (simp [results, Tryd.results25, go_sem, orZ, u0, u1, u2, u3]; done) | (simp [results, Tryd.results25, go_sem, orZ, t0, t1, t2, t3]; done) | simp [results, Tryd.results25, go_sem, orZ, *]) rfl ⟨rfl, ?_⟩
        (repeat' (first | with_reducible exact Below.refl _ _ | with_reducible assumption | with_reducible refine Below.drew ?_ | with_reducible refine below_drewN' ?_ _ | with_reducible refine Below.alloc ?_ ?_ _ | with_reducible refine Below.setCell ?_ ?_ _ | with_reducible refine below_step (by assumption) ?_ ?_ | omega | (simp; done) | (simp; omega)))
      · rw [hr] at HRR
        have hri := right_is hr
        have HRL := Lib.hid (fun (V : World) (hV : Below w.heap.size w V) => line_any ⟨ν, p0, ⟨#[]⟩, 0⟩ hri V (HT.out.mono hV))
        by_cases hle : lineE ⟨ν, p0, ⟨#[]⟩, 0⟩ = t
        · have q := tnt_str hle
          obtain rfl : Rs = some ⟨ν, p0, ⟨#[]⟩, 0⟩ := by rw [← hRs, if_pos ⟨hr, hle⟩]
          obtain ⟨L, hL⟩ : ∃ L, lineE ⟨ν, p0, ⟨#[]⟩, 0⟩ = L := ⟨_, rfl⟩
          rw [hL] at HRL q
          clear hr hRs hle hri hL
          go_enter Tryd.func25, Tryd.ntmps25
          go_wp2_with (first
            | (go_at_call 24; (with_reducible refine (HC.out _ (show Below w.heap.size w _ from by (repeat' (first | with_reducible exact Below.refl _ _ | with_reducible assumption | with_reducible refine Below.drew ?_ | with_reducible refine below_drewN' ?_ _ | with_reducible refine Below.alloc ?_ ?_ _ | with_reducible refine Below.setCell ?_ ?_ _ | with_reducible refine below_step (by assumption) ?_ ?_ | omega | (simp; done) | (simp; omega))))).mono ?_); rintro e w1 ⟨rfl, hb1⟩; obtain ⟨hc1, hf1⟩ := bcell hb1; have hz1 := hb1.size; (try simp at hz1); have z1_0 : w.heap.size < w1.heap.size := (by omega); have y1_0 : w.heap.size ≤ w1.heap.size := (by omega)) | (go_at_call 39; (with_reducible refine (HS.out _ (show Below w.heap.size w _ from by (repeat' (first | with_reducible exact Below.refl _ _ | with_reducible assumption | with_reducible refine Below.drew ?_ | with_reducible refine below_drewN' ?_ _ | with_reducible refine Below.alloc ?_ ?_ _ | with_reducible refine Below.setCell ?_ ?_ _ | with_reducible refine below_step (by assumption) ?_ ?_ | omega | (simp; done) | (simp; omega))))).mono ?_); rintro e w2 ⟨⟨a, cp, rfl, hx⟩, hb2⟩; obtain ⟨b, o, rfl, hbb, hcs⟩ := hx (by simp); (try have pc0 : w2.cell? ⟨b, o, none⟩ = some (.string p0) := (hcs 0 _ rfl 0 (by decide))); (try have pc1 : w2.cell? ⟨b, o + 1, none⟩ = some (.string p1) := (hcs 1 _ rfl 0 (by decide))); (try have pc2 : w2.cell? ⟨b, o + 2, none⟩ = some (.string p2) := (hcs 2 _ rfl 0 (by decide))); clear hcs hx; obtain ⟨hc2, hf2⟩ := bcell hb2; have hz2 := hb2.size; (try simp at hz2); have z2_0 : w.heap.size < w2.heap.size := (by omega); have y2_0 : w.heap.size ≤ w2.heap.size := (by omega)) | (go_at_call 40; (with_reducible first | refine (HN0.out _).mono ?_ | refine (HN2.out _).mono ?_); rintro e w3 ⟨rfl, hb3⟩; obtain ⟨hc3, hf3⟩ := bcell hb3; have hz3 := hb3.size; (try simp at hz3); have z3_0 : w.heap.size < w3.heap.size := (by omega); have y3_0 : w.heap.size ≤ w3.heap.size := (by omega); have z3_1 : w2.heap.size < w3.heap.size := (by omega); have y3_1 : w2.heap.size ≤ w3.heap.size := (by omega))
            | (go_at_call 14; (with_reducible refine (HRR.out _).mono ?_); rintro e w8 ⟨rfl, hb8⟩; obtain ⟨hc8, hf8⟩ := bcell hb8; have hz8 := hb8.size; (try simp at hz8); have z8_0 : w.heap.size < w8.heap.size := (by omega); have y8_0 : w.heap.size ≤ w8.heap.size := (by omega); have z8_1 : w2.heap.size < w8.heap.size := (by omega); have y8_1 : w2.heap.size ≤ w8.heap.size := (by omega))
            | (go_at_call 32; (with_reducible refine (HRL.out _ (show Below w.heap.size w _ from by (repeat' (first | with_reducible exact Below.refl _ _ | with_reducible assumption | with_reducible refine Below.drew ?_ | with_reducible refine below_drewN' ?_ _ | with_reducible refine Below.alloc ?_ ?_ _ | with_reducible refine Below.setCell ?_ ?_ _ | with_reducible refine below_step (by assumption) ?_ ?_ | omega | (simp; done) | (simp; omega))))).mono ?_); rintro e w9 ⟨rfl, hb9⟩; obtain ⟨hc9, hf9⟩ := bcell hb9; have hz9 := hb9.size; (try simp at hz9); have z9_0 : w.heap.size < w9.heap.size := (by omega); have y9_0 : w.heap.size ≤ w9.heap.size := (by omega); have z9_1 : w2.heap.size < w9.heap.size := (by omega); have y9_1 : w2.heap.size ≤ w9.heap.size := (by omega)))
          (try have n1 : ¬ (w.heap.size = w2.heap.size) := by omega)
          (try have n2 : ¬ (w2.heap.size = w.heap.size) := by omega)
          (try have r0 : w2.cell? ⟨w.heap.size, 0, none⟩ = some (.int .i64 0) := by simp [go_sem, *])
          (try have r1 : w2.cell? ⟨w.heap.size, 1, none⟩ = some (.string ⟨#[]⟩) := by simp [go_sem, *])
          (try have r2 : w2.cell? ⟨w.heap.size, 2, none⟩ = some (.string ⟨#[]⟩) := by simp [go_sem, *])
          (try have r3 : w2.cell? ⟨w.heap.size, 3, none⟩ = some (.int .i64 0) := by simp [go_sem, *])
          (try have s0 : w3.cell? ⟨w.heap.size, 0, none⟩ = some (.int .i64 0) := by rw [hc3 _ _ (by first | omega | (simp; omega))]; first | assumption | simp [go_sem, *])
          (try have s1 : w3.cell? ⟨w.heap.size, 1, none⟩ = some (.string ⟨#[]⟩) := by rw [hc3 _ _ (by first | omega | (simp; omega))]; first | assumption | simp [go_sem, *])
          (try have s2 : w3.cell? ⟨w.heap.size, 2, none⟩ = some (.string ⟨#[]⟩) := by rw [hc3 _ _ (by first | omega | (simp; omega))]; first | assumption | simp [go_sem, *])
          (try have s3 : w3.cell? ⟨w.heap.size, 3, none⟩ = some (.int .i64 0) := by rw [hc3 _ _ (by first | omega | (simp; omega))]; first | assumption | simp [go_sem, *])
          (try have t0 : w8.cell? ⟨w.heap.size, 0, none⟩ = some (.int .i64 0) := by rw [hc8 _ _ (by first | omega | (simp; omega))]; first | assumption | simp [go_sem, *])
          (try have t1 : w8.cell? ⟨w.heap.size, 1, none⟩ = some (.string ⟨#[]⟩) := by rw [hc8 _ _ (by first | omega | (simp; omega))]; first | assumption | simp [go_sem, *])
          (try have t2 : w8.cell? ⟨w.heap.size, 2, none⟩ = some (.string ⟨#[]⟩) := by rw [hc8 _ _ (by first | omega | (simp; omega))]; first | assumption | simp [go_sem, *])
          (try have t3 : w8.cell? ⟨w.heap.size, 3, none⟩ = some (.int .i64 0) := by rw [hc8 _ _ (by first | omega | (simp; omega))]; first | assumption | simp [go_sem, *])
          (try have u0 : w9.cell? ⟨w.heap.size, 0, none⟩ = some (.int .i64 0) := by rw [hc9 _ _ (by first | omega | (simp; omega))]; first | assumption | simp [go_sem, *])
          (try have u1 : w9.cell? ⟨w.heap.size, 1, none⟩ = some (.string ⟨#[]⟩) := by rw [hc9 _ _ (by first | omega | (simp; omega))]; first | assumption | simp [go_sem, *])
          (try have u2 : w9.cell? ⟨w.heap.size, 2, none⟩ = some (.string ⟨#[]⟩) := by rw [hc9 _ _ (by first | omega | (simp; omega))]; first | assumption | simp [go_sem, *])
          (try have u3 : w9.cell? ⟨w.heap.size, 3, none⟩ = some (.int .i64 0) := by rw [hc9 _ _ (by first | omega | (simp; omega))]; first | assumption | simp [go_sem, *])
          refine bodyPost_ret (v := orZ (some ⟨ν, p0, ⟨#[]⟩, 0⟩)) (by first | (simp [results, Tryd.results25, go_sem, orZ, u0, u1, u2, u3]; done) | (simp [results, Tryd.results25, go_sem, orZ, t0, t1, t2, t3]; done) | simp [results, Tryd.results25, go_sem, orZ, *]) rfl ⟨rfl, ?_⟩
          (repeat' (first | with_reducible exact Below.refl _ _ | with_reducible assumption | with_reducible refine Below.drew ?_ | with_reducible refine below_drewN' ?_ _ | with_reducible refine Below.alloc ?_ ?_ _ | with_reducible refine Below.setCell ?_ ?_ _ | with_reducible refine below_step (by assumption) ?_ ?_ | omega | (simp; done) | (simp; omega)))
        · have q := tnt_strn hle
          obtain rfl : Rs = none := by rw [← hRs, if_neg (fun h => hle h.2)]
          obtain ⟨L, hL⟩ : ∃ L, lineE ⟨ν, p0, ⟨#[]⟩, 0⟩ = L := ⟨_, rfl⟩
          rw [hL] at HRL q
          clear hr hRs hle hri hL
          go_enter Tryd.func25, Tryd.ntmps25
          go_wp2_with (first
            | (go_at_call 24; (with_reducible refine (HC.out _ (show Below w.heap.size w _ from by (repeat' (first | with_reducible exact Below.refl _ _ | with_reducible assumption | with_reducible refine Below.drew ?_ | with_reducible refine below_drewN' ?_ _ | with_reducible refine Below.alloc ?_ ?_ _ | with_reducible refine Below.setCell ?_ ?_ _ | with_reducible refine below_step (by assumption) ?_ ?_ | omega | (simp; done) | (simp; omega))))).mono ?_); rintro e w1 ⟨rfl, hb1⟩; obtain ⟨hc1, hf1⟩ := bcell hb1; have hz1 := hb1.size; (try simp at hz1); have z1_0 : w.heap.size < w1.heap.size := (by omega); have y1_0 : w.heap.size ≤ w1.heap.size := (by omega)) | (go_at_call 39; (with_reducible refine (HS.out _ (show Below w.heap.size w _ from by (repeat' (first | with_reducible exact Below.refl _ _ | with_reducible assumption | with_reducible refine Below.drew ?_ | with_reducible refine below_drewN' ?_ _ | with_reducible refine Below.alloc ?_ ?_ _ | with_reducible refine Below.setCell ?_ ?_ _ | with_reducible refine below_step (by assumption) ?_ ?_ | omega | (simp; done) | (simp; omega))))).mono ?_); rintro e w2 ⟨⟨a, cp, rfl, hx⟩, hb2⟩; obtain ⟨b, o, rfl, hbb, hcs⟩ := hx (by simp); (try have pc0 : w2.cell? ⟨b, o, none⟩ = some (.string p0) := (hcs 0 _ rfl 0 (by decide))); (try have pc1 : w2.cell? ⟨b, o + 1, none⟩ = some (.string p1) := (hcs 1 _ rfl 0 (by decide))); (try have pc2 : w2.cell? ⟨b, o + 2, none⟩ = some (.string p2) := (hcs 2 _ rfl 0 (by decide))); clear hcs hx; obtain ⟨hc2, hf2⟩ := bcell hb2; have hz2 := hb2.size; (try simp at hz2); have z2_0 : w.heap.size < w2.heap.size := (by omega); have y2_0 : w.heap.size ≤ w2.heap.size := (by omega)) | (go_at_call 40; (with_reducible first | refine (HN0.out _).mono ?_ | refine (HN2.out _).mono ?_); rintro e w3 ⟨rfl, hb3⟩; obtain ⟨hc3, hf3⟩ := bcell hb3; have hz3 := hb3.size; (try simp at hz3); have z3_0 : w.heap.size < w3.heap.size := (by omega); have y3_0 : w.heap.size ≤ w3.heap.size := (by omega); have z3_1 : w2.heap.size < w3.heap.size := (by omega); have y3_1 : w2.heap.size ≤ w3.heap.size := (by omega))
            | (go_at_call 14; (with_reducible refine (HRR.out _).mono ?_); rintro e w8 ⟨rfl, hb8⟩; obtain ⟨hc8, hf8⟩ := bcell hb8; have hz8 := hb8.size; (try simp at hz8); have z8_0 : w.heap.size < w8.heap.size := (by omega); have y8_0 : w.heap.size ≤ w8.heap.size := (by omega); have z8_1 : w2.heap.size < w8.heap.size := (by omega); have y8_1 : w2.heap.size ≤ w8.heap.size := (by omega))
            | (go_at_call 32; (with_reducible refine (HRL.out _ (show Below w.heap.size w _ from by (repeat' (first | with_reducible exact Below.refl _ _ | with_reducible assumption | with_reducible refine Below.drew ?_ | with_reducible refine below_drewN' ?_ _ | with_reducible refine Below.alloc ?_ ?_ _ | with_reducible refine Below.setCell ?_ ?_ _ | with_reducible refine below_step (by assumption) ?_ ?_ | omega | (simp; done) | (simp; omega))))).mono ?_); rintro e w9 ⟨rfl, hb9⟩; obtain ⟨hc9, hf9⟩ := bcell hb9; have hz9 := hb9.size; (try simp at hz9); have z9_0 : w.heap.size < w9.heap.size := (by omega); have y9_0 : w.heap.size ≤ w9.heap.size := (by omega); have z9_1 : w2.heap.size < w9.heap.size := (by omega); have y9_1 : w2.heap.size ≤ w9.heap.size := (by omega)))
          (try have n1 : ¬ (w.heap.size = w2.heap.size) := by omega)
          (try have n2 : ¬ (w2.heap.size = w.heap.size) := by omega)
          (try have r0 : w2.cell? ⟨w.heap.size, 0, none⟩ = some (.int .i64 0) := by simp [go_sem, *])
          (try have r1 : w2.cell? ⟨w.heap.size, 1, none⟩ = some (.string ⟨#[]⟩) := by simp [go_sem, *])
          (try have r2 : w2.cell? ⟨w.heap.size, 2, none⟩ = some (.string ⟨#[]⟩) := by simp [go_sem, *])
          (try have r3 : w2.cell? ⟨w.heap.size, 3, none⟩ = some (.int .i64 0) := by simp [go_sem, *])
          (try have s0 : w3.cell? ⟨w.heap.size, 0, none⟩ = some (.int .i64 0) := by rw [hc3 _ _ (by first | omega | (simp; omega))]; first | assumption | simp [go_sem, *])
          (try have s1 : w3.cell? ⟨w.heap.size, 1, none⟩ = some (.string ⟨#[]⟩) := by rw [hc3 _ _ (by first | omega | (simp; omega))]; first | assumption | simp [go_sem, *])
          (try have s2 : w3.cell? ⟨w.heap.size, 2, none⟩ = some (.string ⟨#[]⟩) := by rw [hc3 _ _ (by first | omega | (simp; omega))]; first | assumption | simp [go_sem, *])
          (try have s3 : w3.cell? ⟨w.heap.size, 3, none⟩ = some (.int .i64 0) := by rw [hc3 _ _ (by first | omega | (simp; omega))]; first | assumption | simp [go_sem, *])
          (try have t0 : w8.cell? ⟨w.heap.size, 0, none⟩ = some (.int .i64 0) := by rw [hc8 _ _ (by first | omega | (simp; omega))]; first | assumption | simp [go_sem, *])
          (try have t1 : w8.cell? ⟨w.heap.size, 1, none⟩ = some (.string ⟨#[]⟩) := by rw [hc8 _ _ (by first | omega | (simp; omega))]; first | assumption | simp [go_sem, *])
          (try have t2 : w8.cell? ⟨w.heap.size, 2, none⟩ = some (.string ⟨#[]⟩) := by rw [hc8 _ _ (by first | omega | (simp; omega))]; first | assumption | simp [go_sem, *])
          (try have t3 : w8.cell? ⟨w.heap.size, 3, none⟩ = some (.int .i64 0) := by rw [hc8 _ _ (by first | omega | (simp; omega))]; first | assumption | simp [go_sem, *])
          (try have u0 : w9.cell? ⟨w.heap.size, 0, none⟩ = some (.int .i64 0) := by rw [hc9 _ _ (by first | omega | (simp; omega))]; first | assumption | simp [go_sem, *])
          (try have u1 : w9.cell? ⟨w.heap.size, 1, none⟩ = some (.string ⟨#[]⟩) := by rw [hc9 _ _ (by first | omega | (simp; omega))]; first | assumption | simp [go_sem, *])
          (try have u2 : w9.cell? ⟨w.heap.size, 2, none⟩ = some (.string ⟨#[]⟩) := by rw [hc9 _ _ (by first | omega | (simp; omega))]; first | assumption | simp [go_sem, *])
          (try have u3 : w9.cell? ⟨w.heap.size, 3, none⟩ = some (.int .i64 0) := by rw [hc9 _ _ (by first | omega | (simp; omega))]; first | assumption | simp [go_sem, *])
          refine bodyPost_ret (v := orZ none) (by first | (simp [results, Tryd.results25, go_sem, orZ, u0, u1, u2, u3]; done) | (simp [results, Tryd.results25, go_sem, orZ, t0, t1, t2, t3]; done) | simp [results, Tryd.results25, go_sem, orZ, *]) rfl ⟨rfl, ?_⟩
          (repeat' (first | with_reducible exact Below.refl _ _ | with_reducible assumption | with_reducible refine Below.drew ?_ | with_reducible refine below_drewN' ?_ _ | with_reducible refine Below.alloc ?_ ?_ _ | with_reducible refine Below.setCell ?_ ?_ _ | with_reducible refine below_step (by assumption) ?_ ?_ | omega | (simp; done) | (simp; omega)))
    | [p0, p1] =>
      have HS := Lib.hid hS
      have HRR := Lib.hid (fun V : World => right_any ⟨ν, p0, p1, 0⟩ V)
      have hRs : (if rightE ⟨ν, p0, p1, 0⟩ = true ∧ lineE ⟨ν, p0, p1, 0⟩ = t then some (Ev.mk ν p0 p1 0) else none) = Rs := hRs
      clear hS hp1 hp2
      cases hr : rightE ⟨ν, p0, p1, 0⟩
      · rw [hr] at HRR
        obtain rfl : Rs = none := by rw [← hRs, if_neg (fun h => by rw [hr] at h; cases h.1)]
        clear hr hRs
        go_enter Tryd.func25, Tryd.ntmps25
        go_wp2_with (first
          | (go_at_call 24; (with_reducible refine (HC.out _ (show Below w.heap.size w _ from by (repeat' (first | with_reducible exact Below.refl _ _ | with_reducible assumption | with_reducible refine Below.drew ?_ | with_reducible refine below_drewN' ?_ _ | with_reducible refine Below.alloc ?_ ?_ _ | with_reducible refine Below.setCell ?_ ?_ _ | with_reducible refine below_step (by assumption) ?_ ?_ | omega | (simp; done) | (simp; omega))))).mono ?_); rintro e w1 ⟨rfl, hb1⟩; obtain ⟨hc1, hf1⟩ := bcell hb1; have hz1 := hb1.size; (try simp at hz1); have z1_0 : w.heap.size < w1.heap.size := (by omega); have y1_0 : w.heap.size ≤ w1.heap.size := (by omega)) | (go_at_call 39; (with_reducible refine (HS.out _ (show Below w.heap.size w _ from by (repeat' (first | with_reducible exact Below.refl _ _ | with_reducible assumption | with_reducible refine Below.drew ?_ | with_reducible refine below_drewN' ?_ _ | with_reducible refine Below.alloc ?_ ?_ _ | with_reducible refine Below.setCell ?_ ?_ _ | with_reducible refine below_step (by assumption) ?_ ?_ | omega | (simp; done) | (simp; omega))))).mono ?_); rintro e w2 ⟨⟨a, cp, rfl, hx⟩, hb2⟩; obtain ⟨b, o, rfl, hbb, hcs⟩ := hx (by simp); (try have pc0 : w2.cell? ⟨b, o, none⟩ = some (.string p0) := (hcs 0 _ rfl 0 (by decide))); (try have pc1 : w2.cell? ⟨b, o + 1, none⟩ = some (.string p1) := (hcs 1 _ rfl 0 (by decide))); (try have pc2 : w2.cell? ⟨b, o + 2, none⟩ = some (.string p2) := (hcs 2 _ rfl 0 (by decide))); clear hcs hx; obtain ⟨hc2, hf2⟩ := bcell hb2; have hz2 := hb2.size; (try simp at hz2); have z2_0 : w.heap.size < w2.heap.size := (by omega); have y2_0 : w.heap.size ≤ w2.heap.size := (by omega)) | (go_at_call 40; (with_reducible first | refine (HN0.out _).mono ?_ | refine (HN2.out _).mono ?_); rintro e w3 ⟨rfl, hb3⟩; obtain ⟨hc3, hf3⟩ := bcell hb3; have hz3 := hb3.size; (try simp at hz3); have z3_0 : w.heap.size < w3.heap.size := (by omega); have y3_0 : w.heap.size ≤ w3.heap.size := (by omega); have z3_1 : w2.heap.size < w3.heap.size := (by omega); have y3_1 : w2.heap.size ≤ w3.heap.size := (by omega))
          | (go_at_call 14; (with_reducible refine (HRR.out _).mono ?_); rintro e w8 ⟨rfl, hb8⟩; obtain ⟨hc8, hf8⟩ := bcell hb8; have hz8 := hb8.size; (try simp at hz8); have z8_0 : w.heap.size < w8.heap.size := (by omega); have y8_0 : w.heap.size ≤ w8.heap.size := (by omega)))
        (try have n1 : ¬ (w.heap.size = w2.heap.size) := by omega)
        (try have n2 : ¬ (w2.heap.size = w.heap.size) := by omega)
        (try have r0 : w2.cell? ⟨w.heap.size, 0, none⟩ = some (.int .i64 0) := by simp [go_sem, *])
        (try have r1 : w2.cell? ⟨w.heap.size, 1, none⟩ = some (.string ⟨#[]⟩) := by simp [go_sem, *])
        (try have r2 : w2.cell? ⟨w.heap.size, 2, none⟩ = some (.string ⟨#[]⟩) := by simp [go_sem, *])
        (try have r3 : w2.cell? ⟨w.heap.size, 3, none⟩ = some (.int .i64 0) := by simp [go_sem, *])
        (try have s0 : w3.cell? ⟨w.heap.size, 0, none⟩ = some (.int .i64 0) := by rw [hc3 _ _ (by first | omega | (simp; omega))]; first | assumption | simp [go_sem, *])
        (try have s1 : w3.cell? ⟨w.heap.size, 1, none⟩ = some (.string ⟨#[]⟩) := by rw [hc3 _ _ (by first | omega | (simp; omega))]; first | assumption | simp [go_sem, *])
        (try have s2 : w3.cell? ⟨w.heap.size, 2, none⟩ = some (.string ⟨#[]⟩) := by rw [hc3 _ _ (by first | omega | (simp; omega))]; first | assumption | simp [go_sem, *])
        (try have s3 : w3.cell? ⟨w.heap.size, 3, none⟩ = some (.int .i64 0) := by rw [hc3 _ _ (by first | omega | (simp; omega))]; first | assumption | simp [go_sem, *])
        (try have t0 : w8.cell? ⟨w.heap.size, 0, none⟩ = some (.int .i64 0) := by rw [hc8 _ _ (by first | omega | (simp; omega))]; first | assumption | simp [go_sem, *])
        (try have t1 : w8.cell? ⟨w.heap.size, 1, none⟩ = some (.string ⟨#[]⟩) := by rw [hc8 _ _ (by first | omega | (simp; omega))]; first | assumption | simp [go_sem, *])
        (try have t2 : w8.cell? ⟨w.heap.size, 2, none⟩ = some (.string ⟨#[]⟩) := by rw [hc8 _ _ (by first | omega | (simp; omega))]; first | assumption | simp [go_sem, *])
        (try have t3 : w8.cell? ⟨w.heap.size, 3, none⟩ = some (.int .i64 0) := by rw [hc8 _ _ (by first | omega | (simp; omega))]; first | assumption | simp [go_sem, *])
        (try have u0 : w9.cell? ⟨w.heap.size, 0, none⟩ = some (.int .i64 0) := by rw [hc9 _ _ (by first | omega | (simp; omega))]; first | assumption | simp [go_sem, *])
        (try have u1 : w9.cell? ⟨w.heap.size, 1, none⟩ = some (.string ⟨#[]⟩) := by rw [hc9 _ _ (by first | omega | (simp; omega))]; first | assumption | simp [go_sem, *])
        (try have u2 : w9.cell? ⟨w.heap.size, 2, none⟩ = some (.string ⟨#[]⟩) := by rw [hc9 _ _ (by first | omega | (simp; omega))]; first | assumption | simp [go_sem, *])
        (try have u3 : w9.cell? ⟨w.heap.size, 3, none⟩ = some (.int .i64 0) := by rw [hc9 _ _ (by first | omega | (simp; omega))]; first | assumption | simp [go_sem, *])
        refine bodyPost_ret (v := orZ none) (by first | (simp [results, Tryd.results25, go_sem, orZ, u0, u1, u2, u3]; done) | (simp [results, Tryd.results25, go_sem, orZ, t0, t1, t2, t3]; done) | simp [results, Tryd.results25, go_sem, orZ, *]) rfl ⟨rfl, ?_⟩
        (repeat' (first | with_reducible exact Below.refl _ _ | with_reducible assumption | with_reducible refine Below.drew ?_ | with_reducible refine below_drewN' ?_ _ | with_reducible refine Below.alloc ?_ ?_ _ | with_reducible refine Below.setCell ?_ ?_ _ | with_reducible refine below_step (by assumption) ?_ ?_ | omega | (simp; done) | (simp; omega)))
      · rw [hr] at HRR
        have hri := right_is hr
        have HRL := Lib.hid (fun (V : World) (hV : Below w.heap.size w V) => line_any ⟨ν, p0, p1, 0⟩ hri V (HT.out.mono hV))
        by_cases hle : lineE ⟨ν, p0, p1, 0⟩ = t
        · have q := tnt_str hle
          obtain rfl : Rs = some ⟨ν, p0, p1, 0⟩ := by rw [← hRs, if_pos ⟨hr, hle⟩]
          obtain ⟨L, hL⟩ : ∃ L, lineE ⟨ν, p0, p1, 0⟩ = L := ⟨_, rfl⟩
          rw [hL] at HRL q
          clear hr hRs hle hri hL
          go_enter Tryd.func25, Tryd.ntmps25
          go_wp2_with (first
            | (go_at_call 24; (with_reducible refine (HC.out _ (show Below w.heap.size w _ from by (repeat' (first | with_reducible exact Below.refl _ _ | with_reducible assumption | with_reducible refine Below.drew ?_ | with_reducible refine below_drewN' ?_ _ | with_reducible refine Below.alloc ?_ ?_ _ | with_reducible refine Below.setCell ?_ ?_ _ | with_reducible refine below_step (by assumption) ?_ ?_ | omega | (simp; done) | (simp; omega))))).mono ?_); rintro e w1 ⟨rfl, hb1⟩; obtain ⟨hc1, hf1⟩ := bcell hb1; have hz1 := hb1.size; (try simp at hz1); have z1_0 : w.heap.size < w1.heap.size := (by omega); have y1_0 : w.heap.size ≤ w1.heap.size := (by omega)) | (go_at_call 39; (with_reducible refine (HS.out _ (show Below w.heap.size w _ from by (repeat' (first | with_reducible exact Below.refl _ _ | with_reducible assumption | with_reducible refine Below.drew ?_ | with_reducible refine below_drewN' ?_ _ | with_reducible refine Below.alloc ?_ ?_ _ | with_reducible refine Below.setCell ?_ ?_ _ | with_reducible refine below_step (by assumption) ?_ ?_ | omega | (simp; done) | (simp; omega))))).mono ?_); rintro e w2 ⟨⟨a, cp, rfl, hx⟩, hb2⟩; obtain ⟨b, o, rfl, hbb, hcs⟩ := hx (by simp); (try have pc0 : w2.cell? ⟨b, o, none⟩ = some (.string p0) := (hcs 0 _ rfl 0 (by decide))); (try have pc1 : w2.cell? ⟨b, o + 1, none⟩ = some (.string p1) := (hcs 1 _ rfl 0 (by decide))); (try have pc2 : w2.cell? ⟨b, o + 2, none⟩ = some (.string p2) := (hcs 2 _ rfl 0 (by decide))); clear hcs hx; obtain ⟨hc2, hf2⟩ := bcell hb2; have hz2 := hb2.size; (try simp at hz2); have z2_0 : w.heap.size < w2.heap.size := (by omega); have y2_0 : w.heap.size ≤ w2.heap.size := (by omega)) | (go_at_call 40; (with_reducible first | refine (HN0.out _).mono ?_ | refine (HN2.out _).mono ?_); rintro e w3 ⟨rfl, hb3⟩; obtain ⟨hc3, hf3⟩ := bcell hb3; have hz3 := hb3.size; (try simp at hz3); have z3_0 : w.heap.size < w3.heap.size := (by omega); have y3_0 : w.heap.size ≤ w3.heap.size := (by omega); have z3_1 : w2.heap.size < w3.heap.size := (by omega); have y3_1 : w2.heap.size ≤ w3.heap.size := (by omega))
            | (go_at_call 14; (with_reducible refine (HRR.out _).mono ?_); rintro e w8 ⟨rfl, hb8⟩; obtain ⟨hc8, hf8⟩ := bcell hb8; have hz8 := hb8.size; (try simp at hz8); have z8_0 : w.heap.size < w8.heap.size := (by omega); have y8_0 : w.heap.size ≤ w8.heap.size := (by omega); have z8_1 : w2.heap.size < w8.heap.size := (by omega); have y8_1 : w2.heap.size ≤ w8.heap.size := (by omega))
            | (go_at_call 32; (with_reducible refine (HRL.out _ (show Below w.heap.size w _ from by (repeat' (first | with_reducible exact Below.refl _ _ | with_reducible assumption | with_reducible refine Below.drew ?_ | with_reducible refine below_drewN' ?_ _ | with_reducible refine Below.alloc ?_ ?_ _ | with_reducible refine Below.setCell ?_ ?_ _ | with_reducible refine below_step (by assumption) ?_ ?_ | omega | (simp; done) | (simp; omega))))).mono ?_); rintro e w9 ⟨rfl, hb9⟩; obtain ⟨hc9, hf9⟩ := bcell hb9; have hz9 := hb9.size; (try simp at hz9); have z9_0 : w.heap.size < w9.heap.size := (by omega); have y9_0 : w.heap.size ≤ w9.heap.size := (by omega); have z9_1 : w2.heap.size < w9.heap.size := (by omega); have y9_1 : w2.heap.size ≤ w9.heap.size := (by omega)))
          (try have n1 : ¬ (w.heap.size = w2.heap.size) := by omega)
          (try have n2 : ¬ (w2.heap.size = w.heap.size) := by omega)
          (try have r0 : w2.cell? ⟨w.heap.size, 0, none⟩ = some (.int .i64 0) := by simp [go_sem, *])
          (try have r1 : w2.cell? ⟨w.heap.size, 1, none⟩ = some (.string ⟨#[]⟩) := by simp [go_sem, *])
          (try have r2 : w2.cell? ⟨w.heap.size, 2, none⟩ = some (.string ⟨#[]⟩) := by simp [go_sem, *])
          (try have r3 : w2.cell? ⟨w.heap.size, 3, none⟩ = some (.int .i64 0) := by simp [go_sem, *])
          (try have s0 : w3.cell? ⟨w.heap.size, 0, none⟩ = some (.int .i64 0) := by rw [hc3 _ _ (by first | omega | (simp; omega))]; first | assumption | simp [go_sem, *])
          (try have s1 : w3.cell? ⟨w.heap.size, 1, none⟩ = some (.string ⟨#[]⟩) := by rw [hc3 _ _ (by first | omega | (simp; omega))]; first | assumption | simp [go_sem, *])
          (try have s2 : w3.cell? ⟨w.heap.size, 2, none⟩ = some (.string ⟨#[]⟩) := by rw [hc3 _ _ (by first | omega | (simp; omega))]; first | assumption | simp [go_sem, *])
          (try have s3 : w3.cell? ⟨w.heap.size, 3, none⟩ = some (.int .i64 0) := by rw [hc3 _ _ (by first | omega | (simp; omega))]; first | assumption | simp [go_sem, *])
          (try have t0 : w8.cell? ⟨w.heap.size, 0, none⟩ = some (.int .i64 0) := by rw [hc8 _ _ (by first | omega | (simp; omega))]; first | assumption | simp [go_sem, *])
          (try have t1 : w8.cell? ⟨w.heap.size, 1, none⟩ = some (.string ⟨#[]⟩) := by rw [hc8 _ _ (by first | omega | (simp; omega))]; first | assumption | simp [go_sem, *])
          (try have t2 : w8.cell? ⟨w.heap.size, 2, none⟩ = some (.string ⟨#[]⟩) := by rw [hc8 _ _ (by first | omega | (simp; omega))]; first | assumption | simp [go_sem, *])
          (try have t3 : w8.cell? ⟨w.heap.size, 3, none⟩ = some (.int .i64 0) := by rw [hc8 _ _ (by first | omega | (simp; omega))]; first | assumption | simp [go_sem, *])
          (try have u0 : w9.cell? ⟨w.heap.size, 0, none⟩ = some (.int .i64 0) := by rw [hc9 _ _ (by first | omega | (simp; omega))]; first | assumption | simp [go_sem, *])
          (try have u1 : w9.cell? ⟨w.heap.size, 1, none⟩ = some (.string ⟨#[]⟩) := by rw [hc9 _ _ (by first | omega | (simp; omega))]; first | assumption | simp [go_sem, *])
          (try have u2 : w9.cell? ⟨w.heap.size, 2, none⟩ = some (.string ⟨#[]⟩) := by rw [hc9 _ _ (by first | omega | (simp; omega))]; first | assumption | simp [go_sem, *])
          (try have u3 : w9.cell? ⟨w.heap.size, 3, none⟩ = some (.int .i64 0) := by rw [hc9 _ _ (by first | omega | (simp; omega))]; first | assumption | simp [go_sem, *])
          refine bodyPost_ret (v := orZ (some ⟨ν, p0, p1, 0⟩)) (by first | (simp [results, Tryd.results25, go_sem, orZ, u0, u1, u2, u3]; done) | (simp [results, Tryd.results25, go_sem, orZ, t0, t1, t2, t3]; done) | simp [results, Tryd.results25, go_sem, orZ, *]) rfl ⟨rfl, ?_⟩
          (repeat' (first | with_reducible exact Below.refl _ _ | with_reducible assumption | with_reducible refine Below.drew ?_ | with_reducible refine below_drewN' ?_ _ | with_reducible refine Below.alloc ?_ ?_ _ | with_reducible refine Below.setCell ?_ ?_ _ | with_reducible refine below_step (by assumption) ?_ ?_ | omega | (simp; done) | (simp; omega)))
        · have q := tnt_strn hle
          obtain rfl : Rs = none := by rw [← hRs, if_neg (fun h => hle h.2)]
          obtain ⟨L, hL⟩ : ∃ L, lineE ⟨ν, p0, p1, 0⟩ = L := ⟨_, rfl⟩
          rw [hL] at HRL q
          clear hr hRs hle hri hL
          go_enter Tryd.func25, Tryd.ntmps25
          go_wp2_with (first
            | (go_at_call 24; (with_reducible refine (HC.out _ (show Below w.heap.size w _ from by (repeat' (first | with_reducible exact Below.refl _ _ | with_reducible assumption | with_reducible refine Below.drew ?_ | with_reducible refine below_drewN' ?_ _ | with_reducible refine Below.alloc ?_ ?_ _ | with_reducible refine Below.setCell ?_ ?_ _ | with_reducible refine below_step (by assumption) ?_ ?_ | omega | (simp; done) | (simp; omega))))).mono ?_); rintro e w1 ⟨rfl, hb1⟩; obtain ⟨hc1, hf1⟩ := bcell hb1; have hz1 := hb1.size; (try simp at hz1); have z1_0 : w.heap.size < w1.heap.size := (by omega); have y1_0 : w.heap.size ≤ w1.heap.size := (by omega)) | (go_at_call 39; (with_reducible refine (HS.out _ (show Below w.heap.size w _ from by (repeat' (first | with_reducible exact Below.refl _ _ | with_reducible assumption | with_reducible refine Below.drew ?_ | with_reducible refine below_drewN' ?_ _ | with_reducible refine Below.alloc ?_ ?_ _ | with_reducible refine Below.setCell ?_ ?_ _ | with_reducible refine below_step (by assumption) ?_ ?_ | omega | (simp; done) | (simp; omega))))).mono ?_); rintro e w2 ⟨⟨a, cp, rfl, hx⟩, hb2⟩; obtain ⟨b, o, rfl, hbb, hcs⟩ := hx (by simp); (try have pc0 : w2.cell? ⟨b, o, none⟩ = some (.string p0) := (hcs 0 _ rfl 0 (by decide))); (try have pc1 : w2.cell? ⟨b, o + 1, none⟩ = some (.string p1) := (hcs 1 _ rfl 0 (by decide))); (try have pc2 : w2.cell? ⟨b, o + 2, none⟩ = some (.string p2) := (hcs 2 _ rfl 0 (by decide))); clear hcs hx; obtain ⟨hc2, hf2⟩ := bcell hb2; have hz2 := hb2.size; (try simp at hz2); have z2_0 : w.heap.size < w2.heap.size := (by omega); have y2_0 : w.heap.size ≤ w2.heap.size := (by omega)) | (go_at_call 40; (with_reducible first | refine (HN0.out _).mono ?_ | refine (HN2.out _).mono ?_); rintro e w3 ⟨rfl, hb3⟩; obtain ⟨hc3, hf3⟩ := bcell hb3; have hz3 := hb3.size; (try simp at hz3); have z3_0 : w.heap.size < w3.heap.size := (by omega); have y3_0 : w.heap.size ≤ w3.heap.size := (by omega); have z3_1 : w2.heap.size < w3.heap.size := (by omega); have y3_1 : w2.heap.size ≤ w3.heap.size := (by omega))
            | (go_at_call 14; (with_reducible refine (HRR.out _).mono ?_); rintro e w8 ⟨rfl, hb8⟩; obtain ⟨hc8, hf8⟩ := bcell hb8; have hz8 := hb8.size; (try simp at hz8); have z8_0 : w.heap.size < w8.heap.size := (by omega); have y8_0 : w.heap.size ≤ w8.heap.size := (by omega); have z8_1 : w2.heap.size < w8.heap.size := (by omega); have y8_1 : w2.heap.size ≤ w8.heap.size := (by omega))
            | (go_at_call 32; (with_reducible refine (HRL.out _ (show Below w.heap.size w _ from by (repeat' (first | with_reducible exact Below.refl _ _ | with_reducible assumption | with_reducible refine Below.drew ?_ | with_reducible refine below_drewN' ?_ _ | with_reducible refine Below.alloc ?_ ?_ _ | with_reducible refine Below.setCell ?_ ?_ _ | with_reducible refine below_step (by assumption) ?_ ?_ | omega | (simp; done) | (simp; omega))))).mono ?_); rintro e w9 ⟨rfl, hb9⟩; obtain ⟨hc9, hf9⟩ := bcell hb9; have hz9 := hb9.size; (try simp at hz9); have z9_0 : w.heap.size < w9.heap.size := (by omega); have y9_0 : w.heap.size ≤ w9.heap.size := (by omega); have z9_1 : w2.heap.size < w9.heap.size := (by omega); have y9_1 : w2.heap.size ≤ w9.heap.size := (by omega)))
          (try have n1 : ¬ (w.heap.size = w2.heap.size) := by omega)
          (try have n2 : ¬ (w2.heap.size = w.heap.size) := by omega)
          (try have r0 : w2.cell? ⟨w.heap.size, 0, none⟩ = some (.int .i64 0) := by simp [go_sem, *])
          (try have r1 : w2.cell? ⟨w.heap.size, 1, none⟩ = some (.string ⟨#[]⟩) := by simp [go_sem, *])
          (try have r2 : w2.cell? ⟨w.heap.size, 2, none⟩ = some (.string ⟨#[]⟩) := by simp [go_sem, *])
          (try have r3 : w2.cell? ⟨w.heap.size, 3, none⟩ = some (.int .i64 0) := by simp [go_sem, *])
          (try have s0 : w3.cell? ⟨w.heap.size, 0, none⟩ = some (.int .i64 0) := by rw [hc3 _ _ (by first | omega | (simp; omega))]; first | assumption | simp [go_sem, *])
          (try have s1 : w3.cell? ⟨w.heap.size, 1, none⟩ = some (.string ⟨#[]⟩) := by rw [hc3 _ _ (by first | omega | (simp; omega))]; first | assumption | simp [go_sem, *])
          (try have s2 : w3.cell? ⟨w.heap.size, 2, none⟩ = some (.string ⟨#[]⟩) := by rw [hc3 _ _ (by first | omega | (simp; omega))]; first | assumption | simp [go_sem, *])
          (try have s3 : w3.cell? ⟨w.heap.size, 3, none⟩ = some (.int .i64 0) := by rw [hc3 _ _ (by first | omega | (simp; omega))]; first | assumption | simp [go_sem, *])
          (try have t0 : w8.cell? ⟨w.heap.size, 0, none⟩ = some (.int .i64 0) := by rw [hc8 _ _ (by first | omega | (simp; omega))]; first | assumption | simp [go_sem, *])
          (try have t1 : w8.cell? ⟨w.heap.size, 1, none⟩ = some (.string ⟨#[]⟩) := by rw [hc8 _ _ (by first | omega | (simp; omega))]; first | assumption | simp [go_sem, *])
          (try have t2 : w8.cell? ⟨w.heap.size, 2, none⟩ = some (.string ⟨#[]⟩) := by rw [hc8 _ _ (by first | omega | (simp; omega))]; first | assumption | simp [go_sem, *])
          (try have t3 : w8.cell? ⟨w.heap.size, 3, none⟩ = some (.int .i64 0) := by rw [hc8 _ _ (by first | omega | (simp; omega))]; first | assumption | simp [go_sem, *])
          (try have u0 : w9.cell? ⟨w.heap.size, 0, none⟩ = some (.int .i64 0) := by rw [hc9 _ _ (by first | omega | (simp; omega))]; first | assumption | simp [go_sem, *])
          (try have u1 : w9.cell? ⟨w.heap.size, 1, none⟩ = some (.string ⟨#[]⟩) := by rw [hc9 _ _ (by first | omega | (simp; omega))]; first | assumption | simp [go_sem, *])
          (try have u2 : w9.cell? ⟨w.heap.size, 2, none⟩ = some (.string ⟨#[]⟩) := by rw [hc9 _ _ (by first | omega | (simp; omega))]; first | assumption | simp [go_sem, *])
          (try have u3 : w9.cell? ⟨w.heap.size, 3, none⟩ = some (.int .i64 0) := by rw [hc9 _ _ (by first | omega | (simp; omega))]; first | assumption | simp [go_sem, *])
          refine bodyPost_ret (v := orZ none) (by first | (simp [results, Tryd.results25, go_sem, orZ, u0, u1, u2, u3]; done) | (simp [results, Tryd.results25, go_sem, orZ, t0, t1, t2, t3]; done) | simp [results, Tryd.results25, go_sem, orZ, *]) rfl ⟨rfl, ?_⟩
          (repeat' (first | with_reducible exact Below.refl _ _ | with_reducible assumption | with_reducible refine Below.drew ?_ | with_reducible refine below_drewN' ?_ _ | with_reducible refine Below.alloc ?_ ?_ _ | with_reducible refine Below.setCell ?_ ?_ _ | with_reducible refine below_step (by assumption) ?_ ?_ | omega | (simp; done) | (simp; omega)))
    | p0 :: p1 :: p2 :: r =>
      have hn2 : p2.size ≤ 100000 := Nat.le_trans (hp1 p2 (by simp)) hY
      have HN2 := Lib.hid (fun V : World => number_any p2 (by omega) V)
      have hnx : (numV p2).1 = numI p2 := rfl
      rw [hnx] at HN2
      have hRs : (if rightE ⟨ν, p0, p1, if 2 < (p0 :: p1 :: p2 :: r).length then numI p2 else 0⟩ = true ∧ lineE ⟨ν, p0, p1, if 2 < (p0 :: p1 :: p2 :: r).length then numI p2 else 0⟩ = t then some (Ev.mk ν p0 p1 (if 2 < (p0 :: p1 :: p2 :: r).length then numI p2 else 0)) else none) = Rs := hRs
      rw [if_pos (show 2 < (p0 :: p1 :: p2 :: r).length by simp)] at hRs
      obtain ⟨κ, hκ⟩ : ∃ κ, numI p2 = κ := ⟨_, rfl⟩
      rw [hκ] at hRs HN2
      have HRR := Lib.hid (fun V : World => right_any ⟨ν, p0, p1, κ⟩ V)
      obtain ⟨z, hz⟩ : ∃ z, (p0 :: p1 :: p2 :: r).length = z := ⟨_, rfl⟩
      have hz3 : 3 ≤ z := by rw [← hz]; simp
      have g1 : decide (1 < (z : Int)) = true := decide_eq_true (by omega)
      have g2 : decide (2 < (z : Int)) = true := decide_eq_true (by omega)
      rw [hz] at hS
      have HS := Lib.hid hS
      clear hS hp1 hp2 hz hnx hκ
      cases hr : rightE ⟨ν, p0, p1, κ⟩
      · rw [hr] at HRR
        obtain rfl : Rs = none := by rw [← hRs, if_neg (fun h => by rw [hr] at h; cases h.1)]
        clear hr hRs
        go_enter Tryd.func25, Tryd.ntmps25
        go_wp2_with (first
          | (go_at_call 24; (with_reducible refine (HC.out _ (show Below w.heap.size w _ from by (repeat' (first | with_reducible exact Below.refl _ _ | with_reducible assumption | with_reducible refine Below.drew ?_ | with_reducible refine below_drewN' ?_ _ | with_reducible refine Below.alloc ?_ ?_ _ | with_reducible refine Below.setCell ?_ ?_ _ | with_reducible refine below_step (by assumption) ?_ ?_ | omega | (simp; done) | (simp; omega))))).mono ?_); rintro e w1 ⟨rfl, hb1⟩; obtain ⟨hc1, hf1⟩ := bcell hb1; have hz1 := hb1.size; (try simp at hz1); have z1_0 : w.heap.size < w1.heap.size := (by omega); have y1_0 : w.heap.size ≤ w1.heap.size := (by omega)) | (go_at_call 39; (with_reducible refine (HS.out _ (show Below w.heap.size w _ from by (repeat' (first | with_reducible exact Below.refl _ _ | with_reducible assumption | with_reducible refine Below.drew ?_ | with_reducible refine below_drewN' ?_ _ | with_reducible refine Below.alloc ?_ ?_ _ | with_reducible refine Below.setCell ?_ ?_ _ | with_reducible refine below_step (by assumption) ?_ ?_ | omega | (simp; done) | (simp; omega))))).mono ?_); rintro e w2 ⟨⟨a, cp, rfl, hx⟩, hb2⟩; obtain ⟨b, o, rfl, hbb, hcs⟩ := hx (by simp); (try have pc0 : w2.cell? ⟨b, o, none⟩ = some (.string p0) := (hcs 0 _ rfl 0 (by decide))); (try have pc1 : w2.cell? ⟨b, o + 1, none⟩ = some (.string p1) := (hcs 1 _ rfl 0 (by decide))); (try have pc2 : w2.cell? ⟨b, o + 2, none⟩ = some (.string p2) := (hcs 2 _ rfl 0 (by decide))); clear hcs hx; obtain ⟨hc2, hf2⟩ := bcell hb2; have hz2 := hb2.size; (try simp at hz2); have z2_0 : w.heap.size < w2.heap.size := (by omega); have y2_0 : w.heap.size ≤ w2.heap.size := (by omega)) | (go_at_call 40; (with_reducible first | refine (HN0.out _).mono ?_ | refine (HN2.out _).mono ?_); rintro e w3 ⟨rfl, hb3⟩; obtain ⟨hc3, hf3⟩ := bcell hb3; have hz3 := hb3.size; (try simp at hz3); have z3_0 : w.heap.size < w3.heap.size := (by omega); have y3_0 : w.heap.size ≤ w3.heap.size := (by omega); have z3_1 : w2.heap.size < w3.heap.size := (by omega); have y3_1 : w2.heap.size ≤ w3.heap.size := (by omega))
          | (go_at_call 14; (with_reducible refine (HRR.out _).mono ?_); rintro e w8 ⟨rfl, hb8⟩; obtain ⟨hc8, hf8⟩ := bcell hb8; have hz8 := hb8.size; (try simp at hz8); have z8_0 : w.heap.size < w8.heap.size := (by omega); have y8_0 : w.heap.size ≤ w8.heap.size := (by omega)))
        (try have n1 : ¬ (w.heap.size = w2.heap.size) := by omega)
        (try have n2 : ¬ (w2.heap.size = w.heap.size) := by omega)
        (try have r0 : w2.cell? ⟨w.heap.size, 0, none⟩ = some (.int .i64 0) := by simp [go_sem, *])
        (try have r1 : w2.cell? ⟨w.heap.size, 1, none⟩ = some (.string ⟨#[]⟩) := by simp [go_sem, *])
        (try have r2 : w2.cell? ⟨w.heap.size, 2, none⟩ = some (.string ⟨#[]⟩) := by simp [go_sem, *])
        (try have r3 : w2.cell? ⟨w.heap.size, 3, none⟩ = some (.int .i64 0) := by simp [go_sem, *])
        (try have s0 : w3.cell? ⟨w.heap.size, 0, none⟩ = some (.int .i64 0) := by rw [hc3 _ _ (by first | omega | (simp; omega))]; first | assumption | simp [go_sem, *])
        (try have s1 : w3.cell? ⟨w.heap.size, 1, none⟩ = some (.string ⟨#[]⟩) := by rw [hc3 _ _ (by first | omega | (simp; omega))]; first | assumption | simp [go_sem, *])
        (try have s2 : w3.cell? ⟨w.heap.size, 2, none⟩ = some (.string ⟨#[]⟩) := by rw [hc3 _ _ (by first | omega | (simp; omega))]; first | assumption | simp [go_sem, *])
        (try have s3 : w3.cell? ⟨w.heap.size, 3, none⟩ = some (.int .i64 0) := by rw [hc3 _ _ (by first | omega | (simp; omega))]; first | assumption | simp [go_sem, *])
        (try have t0 : w8.cell? ⟨w.heap.size, 0, none⟩ = some (.int .i64 0) := by rw [hc8 _ _ (by first | omega | (simp; omega))]; first | assumption | simp [go_sem, *])
        (try have t1 : w8.cell? ⟨w.heap.size, 1, none⟩ = some (.string ⟨#[]⟩) := by rw [hc8 _ _ (by first | omega | (simp; omega))]; first | assumption | simp [go_sem, *])
        (try have t2 : w8.cell? ⟨w.heap.size, 2, none⟩ = some (.string ⟨#[]⟩) := by rw [hc8 _ _ (by first | omega | (simp; omega))]; first | assumption | simp [go_sem, *])
        (try have t3 : w8.cell? ⟨w.heap.size, 3, none⟩ = some (.int .i64 0) := by rw [hc8 _ _ (by first | omega | (simp; omega))]; first | assumption | simp [go_sem, *])
        (try have u0 : w9.cell? ⟨w.heap.size, 0, none⟩ = some (.int .i64 0) := by rw [hc9 _ _ (by first | omega | (simp; omega))]; first | assumption | simp [go_sem, *])
        (try have u1 : w9.cell? ⟨w.heap.size, 1, none⟩ = some (.string ⟨#[]⟩) := by rw [hc9 _ _ (by first | omega | (simp; omega))]; first | assumption | simp [go_sem, *])
        (try have u2 : w9.cell? ⟨w.heap.size, 2, none⟩ = some (.string ⟨#[]⟩) := by rw [hc9 _ _ (by first | omega | (simp; omega))]; first | assumption | simp [go_sem, *])
        (try have u3 : w9.cell? ⟨w.heap.size, 3, none⟩ = some (.int .i64 0) := by rw [hc9 _ _ (by first | omega | (simp; omega))]; first | assumption | simp [go_sem, *])
        refine bodyPost_ret (v := orZ none) (by first | (simp [results, Tryd.results25, go_sem, orZ, u0, u1, u2, u3]; done) | (simp [results, Tryd.results25, go_sem, orZ, t0, t1, t2, t3]; done) | simp [results, Tryd.results25, go_sem, orZ, *]) rfl ⟨rfl, ?_⟩
        (repeat' (first | with_reducible exact Below.refl _ _ | with_reducible assumption | with_reducible refine Below.drew ?_ | with_reducible refine below_drewN' ?_ _ | with_reducible refine Below.alloc ?_ ?_ _ | with_reducible refine Below.setCell ?_ ?_ _ | with_reducible refine below_step (by assumption) ?_ ?_ | omega | (simp; done) | (simp; omega)))
      · rw [hr] at HRR
        have hri := right_is hr
        have HRL := Lib.hid (fun (V : World) (hV : Below w.heap.size w V) => line_any ⟨ν, p0, p1, κ⟩ hri V (HT.out.mono hV))
        by_cases hle : lineE ⟨ν, p0, p1, κ⟩ = t
        · have q := tnt_str hle
          obtain rfl : Rs = some ⟨ν, p0, p1, κ⟩ := by rw [← hRs, if_pos ⟨hr, hle⟩]
          obtain ⟨L, hL⟩ : ∃ L, lineE ⟨ν, p0, p1, κ⟩ = L := ⟨_, rfl⟩
          rw [hL] at HRL q
          clear hr hRs hle hri hL
          go_enter Tryd.func25, Tryd.ntmps25
          go_wp2_with (first
            | (go_at_call 24; (with_reducible refine (HC.out _ (show Below w.heap.size w _ from by (repeat' (first | with_reducible exact Below.refl _ _ | with_reducible assumption | with_reducible refine Below.drew ?_ | with_reducible refine below_drewN' ?_ _ | with_reducible refine Below.alloc ?_ ?_ _ | with_reducible refine Below.setCell ?_ ?_ _ | with_reducible refine below_step (by assumption) ?_ ?_ | omega | (simp; done) | (simp; omega))))).mono ?_); rintro e w1 ⟨rfl, hb1⟩; obtain ⟨hc1, hf1⟩ := bcell hb1; have hz1 := hb1.size; (try simp at hz1); have z1_0 : w.heap.size < w1.heap.size := (by omega); have y1_0 : w.heap.size ≤ w1.heap.size := (by omega)) | (go_at_call 39; (with_reducible refine (HS.out _ (show Below w.heap.size w _ from by (repeat' (first | with_reducible exact Below.refl _ _ | with_reducible assumption | with_reducible refine Below.drew ?_ | with_reducible refine below_drewN' ?_ _ | with_reducible refine Below.alloc ?_ ?_ _ | with_reducible refine Below.setCell ?_ ?_ _ | with_reducible refine below_step (by assumption) ?_ ?_ | omega | (simp; done) | (simp; omega))))).mono ?_); rintro e w2 ⟨⟨a, cp, rfl, hx⟩, hb2⟩; obtain ⟨b, o, rfl, hbb, hcs⟩ := hx (by simp); (try have pc0 : w2.cell? ⟨b, o, none⟩ = some (.string p0) := (hcs 0 _ rfl 0 (by decide))); (try have pc1 : w2.cell? ⟨b, o + 1, none⟩ = some (.string p1) := (hcs 1 _ rfl 0 (by decide))); (try have pc2 : w2.cell? ⟨b, o + 2, none⟩ = some (.string p2) := (hcs 2 _ rfl 0 (by decide))); clear hcs hx; obtain ⟨hc2, hf2⟩ := bcell hb2; have hz2 := hb2.size; (try simp at hz2); have z2_0 : w.heap.size < w2.heap.size := (by omega); have y2_0 : w.heap.size ≤ w2.heap.size := (by omega)) | (go_at_call 40; (with_reducible first | refine (HN0.out _).mono ?_ | refine (HN2.out _).mono ?_); rintro e w3 ⟨rfl, hb3⟩; obtain ⟨hc3, hf3⟩ := bcell hb3; have hz3 := hb3.size; (try simp at hz3); have z3_0 : w.heap.size < w3.heap.size := (by omega); have y3_0 : w.heap.size ≤ w3.heap.size := (by omega); have z3_1 : w2.heap.size < w3.heap.size := (by omega); have y3_1 : w2.heap.size ≤ w3.heap.size := (by omega))
            | (go_at_call 14; (with_reducible refine (HRR.out _).mono ?_); rintro e w8 ⟨rfl, hb8⟩; obtain ⟨hc8, hf8⟩ := bcell hb8; have hz8 := hb8.size; (try simp at hz8); have z8_0 : w.heap.size < w8.heap.size := (by omega); have y8_0 : w.heap.size ≤ w8.heap.size := (by omega); have z8_1 : w2.heap.size < w8.heap.size := (by omega); have y8_1 : w2.heap.size ≤ w8.heap.size := (by omega))
            | (go_at_call 32; (with_reducible refine (HRL.out _ (show Below w.heap.size w _ from by (repeat' (first | with_reducible exact Below.refl _ _ | with_reducible assumption | with_reducible refine Below.drew ?_ | with_reducible refine below_drewN' ?_ _ | with_reducible refine Below.alloc ?_ ?_ _ | with_reducible refine Below.setCell ?_ ?_ _ | with_reducible refine below_step (by assumption) ?_ ?_ | omega | (simp; done) | (simp; omega))))).mono ?_); rintro e w9 ⟨rfl, hb9⟩; obtain ⟨hc9, hf9⟩ := bcell hb9; have hz9 := hb9.size; (try simp at hz9); have z9_0 : w.heap.size < w9.heap.size := (by omega); have y9_0 : w.heap.size ≤ w9.heap.size := (by omega); have z9_1 : w2.heap.size < w9.heap.size := (by omega); have y9_1 : w2.heap.size ≤ w9.heap.size := (by omega)))
          (try have n1 : ¬ (w.heap.size = w2.heap.size) := by omega)
          (try have n2 : ¬ (w2.heap.size = w.heap.size) := by omega)
          (try have r0 : w2.cell? ⟨w.heap.size, 0, none⟩ = some (.int .i64 0) := by simp [go_sem, *])
          (try have r1 : w2.cell? ⟨w.heap.size, 1, none⟩ = some (.string ⟨#[]⟩) := by simp [go_sem, *])
          (try have r2 : w2.cell? ⟨w.heap.size, 2, none⟩ = some (.string ⟨#[]⟩) := by simp [go_sem, *])
          (try have r3 : w2.cell? ⟨w.heap.size, 3, none⟩ = some (.int .i64 0) := by simp [go_sem, *])
          (try have s0 : w3.cell? ⟨w.heap.size, 0, none⟩ = some (.int .i64 0) := by rw [hc3 _ _ (by first | omega | (simp; omega))]; first | assumption | simp [go_sem, *])
          (try have s1 : w3.cell? ⟨w.heap.size, 1, none⟩ = some (.string ⟨#[]⟩) := by rw [hc3 _ _ (by first | omega | (simp; omega))]; first | assumption | simp [go_sem, *])
          (try have s2 : w3.cell? ⟨w.heap.size, 2, none⟩ = some (.string ⟨#[]⟩) := by rw [hc3 _ _ (by first | omega | (simp; omega))]; first | assumption | simp [go_sem, *])
          (try have s3 : w3.cell? ⟨w.heap.size, 3, none⟩ = some (.int .i64 0) := by rw [hc3 _ _ (by first | omega | (simp; omega))]; first | assumption | simp [go_sem, *])
          (try have t0 : w8.cell? ⟨w.heap.size, 0, none⟩ = some (.int .i64 0) := by rw [hc8 _ _ (by first | omega | (simp; omega))]; first | assumption | simp [go_sem, *])
          (try have t1 : w8.cell? ⟨w.heap.size, 1, none⟩ = some (.string ⟨#[]⟩) := by rw [hc8 _ _ (by first | omega | (simp; omega))]; first | assumption | simp [go_sem, *])
          (try have t2 : w8.cell? ⟨w.heap.size, 2, none⟩ = some (.string ⟨#[]⟩) := by rw [hc8 _ _ (by first | omega | (simp; omega))]; first | assumption | simp [go_sem, *])
          (try have t3 : w8.cell? ⟨w.heap.size, 3, none⟩ = some (.int .i64 0) := by rw [hc8 _ _ (by first | omega | (simp; omega))]; first | assumption | simp [go_sem, *])
          (try have u0 : w9.cell? ⟨w.heap.size, 0, none⟩ = some (.int .i64 0) := by rw [hc9 _ _ (by first | omega | (simp; omega))]; first | assumption | simp [go_sem, *])
          (try have u1 : w9.cell? ⟨w.heap.size, 1, none⟩ = some (.string ⟨#[]⟩) := by rw [hc9 _ _ (by first | omega | (simp; omega))]; first | assumption | simp [go_sem, *])
          (try have u2 : w9.cell? ⟨w.heap.size, 2, none⟩ = some (.string ⟨#[]⟩) := by rw [hc9 _ _ (by first | omega | (simp; omega))]; first | assumption | simp [go_sem, *])
          (try have u3 : w9.cell? ⟨w.heap.size, 3, none⟩ = some (.int .i64 0) := by rw [hc9 _ _ (by first | omega | (simp; omega))]; first | assumption | simp [go_sem, *])
          refine bodyPost_ret (v := orZ (some ⟨ν, p0, p1, κ⟩)) (by first | (simp [results, Tryd.results25, go_sem, orZ, u0, u1, u2, u3]; done) | (simp [results, Tryd.results25, go_sem, orZ, t0, t1, t2, t3]; done) | simp [results, Tryd.results25, go_sem, orZ, *]) rfl ⟨rfl, ?_⟩
          (repeat' (first | with_reducible exact Below.refl _ _ | with_reducible assumption | with_reducible refine Below.drew ?_ | with_reducible refine below_drewN' ?_ _ | with_reducible refine Below.alloc ?_ ?_ _ | with_reducible refine Below.setCell ?_ ?_ _ | with_reducible refine below_step (by assumption) ?_ ?_ | omega | (simp; done) | (simp; omega)))
        · have q := tnt_strn hle
          obtain rfl : Rs = none := by rw [← hRs, if_neg (fun h => hle h.2)]
          obtain ⟨L, hL⟩ : ∃ L, lineE ⟨ν, p0, p1, κ⟩ = L := ⟨_, rfl⟩
          rw [hL] at HRL q
          clear hr hRs hle hri hL
          go_enter Tryd.func25, Tryd.ntmps25
          go_wp2_with (first
            | (go_at_call 24; (with_reducible refine (HC.out _ (show Below w.heap.size w _ from by (repeat' (first | with_reducible exact Below.refl _ _ | with_reducible assumption | with_reducible refine Below.drew ?_ | with_reducible refine below_drewN' ?_ _ | with_reducible refine Below.alloc ?_ ?_ _ | with_reducible refine Below.setCell ?_ ?_ _ | with_reducible refine below_step (by assumption) ?_ ?_ | omega | (simp; done) | (simp; omega))))).mono ?_); rintro e w1 ⟨rfl, hb1⟩; obtain ⟨hc1, hf1⟩ := bcell hb1; have hz1 := hb1.size; (try simp at hz1); have z1_0 : w.heap.size < w1.heap.size := (by omega); have y1_0 : w.heap.size ≤ w1.heap.size := (by omega)) | (go_at_call 39; (with_reducible refine (HS.out _ (show Below w.heap.size w _ from by (repeat' (first | with_reducible exact Below.refl _ _ | with_reducible assumption | with_reducible refine Below.drew ?_ | with_reducible refine below_drewN' ?_ _ | with_reducible refine Below.alloc ?_ ?_ _ | with_reducible refine Below.setCell ?_ ?_ _ | with_reducible refine below_step (by assumption) ?_ ?_ | omega | (simp; done) | (simp; omega))))).mono ?_); rintro e w2 ⟨⟨a, cp, rfl, hx⟩, hb2⟩; obtain ⟨b, o, rfl, hbb, hcs⟩ := hx (by simp); (try have pc0 : w2.cell? ⟨b, o, none⟩ = some (.string p0) := (hcs 0 _ rfl 0 (by decide))); (try have pc1 : w2.cell? ⟨b, o + 1, none⟩ = some (.string p1) := (hcs 1 _ rfl 0 (by decide))); (try have pc2 : w2.cell? ⟨b, o + 2, none⟩ = some (.string p2) := (hcs 2 _ rfl 0 (by decide))); clear hcs hx; obtain ⟨hc2, hf2⟩ := bcell hb2; have hz2 := hb2.size; (try simp at hz2); have z2_0 : w.heap.size < w2.heap.size := (by omega); have y2_0 : w.heap.size ≤ w2.heap.size := (by omega)) | (go_at_call 40; (with_reducible first | refine (HN0.out _).mono ?_ | refine (HN2.out _).mono ?_); rintro e w3 ⟨rfl, hb3⟩; obtain ⟨hc3, hf3⟩ := bcell hb3; have hz3 := hb3.size; (try simp at hz3); have z3_0 : w.heap.size < w3.heap.size := (by omega); have y3_0 : w.heap.size ≤ w3.heap.size := (by omega); have z3_1 : w2.heap.size < w3.heap.size := (by omega); have y3_1 : w2.heap.size ≤ w3.heap.size := (by omega))
            | (go_at_call 14; (with_reducible refine (HRR.out _).mono ?_); rintro e w8 ⟨rfl, hb8⟩; obtain ⟨hc8, hf8⟩ := bcell hb8; have hz8 := hb8.size; (try simp at hz8); have z8_0 : w.heap.size < w8.heap.size := (by omega); have y8_0 : w.heap.size ≤ w8.heap.size := (by omega); have z8_1 : w2.heap.size < w8.heap.size := (by omega); have y8_1 : w2.heap.size ≤ w8.heap.size := (by omega))
            | (go_at_call 32; (with_reducible refine (HRL.out _ (show Below w.heap.size w _ from by (repeat' (first | with_reducible exact Below.refl _ _ | with_reducible assumption | with_reducible refine Below.drew ?_ | with_reducible refine below_drewN' ?_ _ | with_reducible refine Below.alloc ?_ ?_ _ | with_reducible refine Below.setCell ?_ ?_ _ | with_reducible refine below_step (by assumption) ?_ ?_ | omega | (simp; done) | (simp; omega))))).mono ?_); rintro e w9 ⟨rfl, hb9⟩; obtain ⟨hc9, hf9⟩ := bcell hb9; have hz9 := hb9.size; (try simp at hz9); have z9_0 : w.heap.size < w9.heap.size := (by omega); have y9_0 : w.heap.size ≤ w9.heap.size := (by omega); have z9_1 : w2.heap.size < w9.heap.size := (by omega); have y9_1 : w2.heap.size ≤ w9.heap.size := (by omega)))
          (try have n1 : ¬ (w.heap.size = w2.heap.size) := by omega)
          (try have n2 : ¬ (w2.heap.size = w.heap.size) := by omega)
          (try have r0 : w2.cell? ⟨w.heap.size, 0, none⟩ = some (.int .i64 0) := by simp [go_sem, *])
          (try have r1 : w2.cell? ⟨w.heap.size, 1, none⟩ = some (.string ⟨#[]⟩) := by simp [go_sem, *])
          (try have r2 : w2.cell? ⟨w.heap.size, 2, none⟩ = some (.string ⟨#[]⟩) := by simp [go_sem, *])
          (try have r3 : w2.cell? ⟨w.heap.size, 3, none⟩ = some (.int .i64 0) := by simp [go_sem, *])
          (try have s0 : w3.cell? ⟨w.heap.size, 0, none⟩ = some (.int .i64 0) := by rw [hc3 _ _ (by first | omega | (simp; omega))]; first | assumption | simp [go_sem, *])
          (try have s1 : w3.cell? ⟨w.heap.size, 1, none⟩ = some (.string ⟨#[]⟩) := by rw [hc3 _ _ (by first | omega | (simp; omega))]; first | assumption | simp [go_sem, *])
          (try have s2 : w3.cell? ⟨w.heap.size, 2, none⟩ = some (.string ⟨#[]⟩) := by rw [hc3 _ _ (by first | omega | (simp; omega))]; first | assumption | simp [go_sem, *])
          (try have s3 : w3.cell? ⟨w.heap.size, 3, none⟩ = some (.int .i64 0) := by rw [hc3 _ _ (by first | omega | (simp; omega))]; first | assumption | simp [go_sem, *])
          (try have t0 : w8.cell? ⟨w.heap.size, 0, none⟩ = some (.int .i64 0) := by rw [hc8 _ _ (by first | omega | (simp; omega))]; first | assumption | simp [go_sem, *])
          (try have t1 : w8.cell? ⟨w.heap.size, 1, none⟩ = some (.string ⟨#[]⟩) := by rw [hc8 _ _ (by first | omega | (simp; omega))]; first | assumption | simp [go_sem, *])
          (try have t2 : w8.cell? ⟨w.heap.size, 2, none⟩ = some (.string ⟨#[]⟩) := by rw [hc8 _ _ (by first | omega | (simp; omega))]; first | assumption | simp [go_sem, *])
          (try have t3 : w8.cell? ⟨w.heap.size, 3, none⟩ = some (.int .i64 0) := by rw [hc8 _ _ (by first | omega | (simp; omega))]; first | assumption | simp [go_sem, *])
          (try have u0 : w9.cell? ⟨w.heap.size, 0, none⟩ = some (.int .i64 0) := by rw [hc9 _ _ (by first | omega | (simp; omega))]; first | assumption | simp [go_sem, *])
          (try have u1 : w9.cell? ⟨w.heap.size, 1, none⟩ = some (.string ⟨#[]⟩) := by rw [hc9 _ _ (by first | omega | (simp; omega))]; first | assumption | simp [go_sem, *])
          (try have u2 : w9.cell? ⟨w.heap.size, 2, none⟩ = some (.string ⟨#[]⟩) := by rw [hc9 _ _ (by first | omega | (simp; omega))]; first | assumption | simp [go_sem, *])
          (try have u3 : w9.cell? ⟨w.heap.size, 3, none⟩ = some (.int .i64 0) := by rw [hc9 _ _ (by first | omega | (simp; omega))]; first | assumption | simp [go_sem, *])
          refine bodyPost_ret (v := orZ none) (by first | (simp [results, Tryd.results25, go_sem, orZ, u0, u1, u2, u3]; done) | (simp [results, Tryd.results25, go_sem, orZ, t0, t1, t2, t3]; done) | simp [results, Tryd.results25, go_sem, orZ, *]) rfl ⟨rfl, ?_⟩
          (repeat' (first | with_reducible exact Below.refl _ _ | with_reducible assumption | with_reducible refine Below.drew ?_ | with_reducible refine below_drewN' ?_ _ | with_reducible refine Below.alloc ?_ ?_ _ | with_reducible refine Below.setCell ?_ ?_ _ | with_reducible refine below_step (by assumption) ?_ ?_ | omega | (simp; done) | (simp; omega)))
end Go.Proofs.YtaehcnoendieaaaDoor
