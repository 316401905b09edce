/-
  The contract of triremelaw23.known.
-/
import Derived.Test.YtdlebpobkkndaaaCap4
import Derived.Deep.Cut
namespace Go.Proofs.Ytdlebpobkkndaaa
open Go.RowKit
set_option linter.unusedVariables false

theorem roomc_any (c0 c1 c2 : Int) (hc : rightC c0 c1 c2 = true) (c : Option Addr) (kc : Nat) (ms : List Mac) (like : Mac) (w : World) (hF : MacsAt w c ms) (hok : MacsOk ms) (hlk : MacsOk [like]) (hm : ms.length ≤ 1000000) :
    Calls Try.prog 12 #[.agg #[.int .i64 c0, .int .i64 c1, .int .i64 c2], .slice c ms.length kc, .agg #[.string (like).nm, .string (like).gp, .int .i64 (like).r0, .int .i64 (like).r1, .int .i64 (like).r2, .int .i64 (like).r3, .int .i64 (like).r4, .slice (like).la (like).labs.length (like).lk, .slice (like).ta (like).tnts.length (like).tk, .bool (like).rd]] w fun e w' => e = .returned (.int .i64 (roomV c0 c1 c2 ms like)) ∧ Below w.heap.size w w' := by
  cases hw : withinB c0 c1 c2 ms
  · have h := room_no c0 c1 c2 hc c kc ms like w hF hok hm hw
    have e : roomV c0 c1 c2 ms like = 0 := by unfold roomV; rw [hw]; rfl
    rw [e]
    exact h
  · exact room_yes c0 c1 c2 hc c kc ms like w hF hok hlk hm hw

def km : Mac := ⟨⟨#[]⟩, ⟨#[]⟩, 1000, 0, 0, 0, 0, none, 0, [], none, 0, [], false⟩
theorem km_ok : MacsOk [km] := fun x hx => by
  obtain rfl : x = km := by simpa using hx
  decide
theorem km_ok2 : MacsOk [km, km] := fun x hx => by
  have : x = km := by simpa using hx
  subst this
  decide
theorem kv1 : roomV 5 4000 0 [km, km] km = 2 := by decide +kernel
theorem kv2 : roomV 0 0 0 [km, km] km = 198 := by decide +kernel
theorem kv3 : withinB 2 0 0 [km, km] = true := by decide +kernel
theorem kv4 : withinB 1 0 0 [km, km] = false := by decide +kernel
theorem kv5 : rightC 0 0 0 = true := by decide +kernel
theorem kv6 : rightC 0 0 (-1) = false := by decide +kernel
theorem kv7 : roomV 0 2500 0 [km, km] km = 0 := by decide +kernel

set_option maxRecDepth 100000 in
set_option maxHeartbeats 4000000 in
theorem known_any (w : World) :
    Calls Try.prog 9 #[] w fun e w' => e = .returned (.bool true) ∧ Below w.heap.size w w' := by
  obtain ⟨W, hW⟩ : ∃ W, W = (w.alloc (.cells #[.string ⟨#[]⟩, .string ⟨#[]⟩, .int .i64 1000, .int .i64 0, .int .i64 0, .int .i64 0, .int .i64 0, .slice none 0 0, .slice none 0 0, .bool false] 30)).alloc (.cells #[.string ⟨#[]⟩, .string ⟨#[]⟩, .int .i64 1000, .int .i64 0, .int .i64 0, .int .i64 0, .int .i64 0, .slice none 0 0, .slice none 0 0, .bool false, .string ⟨#[]⟩, .string ⟨#[]⟩, .int .i64 1000, .int .i64 0, .int .i64 0, .int .i64 0, .int .i64 0, .slice none 0 0, .slice none 0 0, .bool false] 30) := ⟨_, rfl⟩
  have HB := Lib.hid (show Below w.heap.size w W by rw [hW]; (repeat' (first | with_reducible exact Below.refl _ _ | with_reducible assumption | with_reducible refine Below.drew ?_ | with_reducible refine below_drewN' ?_ _ | with_reducible refine Below.alloc ?_ ?_ _ | with_reducible refine Below.setCell ?_ ?_ _ | with_reducible refine below_step (by assumption) ?_ ?_ | omega | (simp; done) | (simp; omega))))
  have HM : MacsAt W (some ⟨w.heap.size + 1, 0, none⟩) [km, km] := by
    rw [hW]
    have h := RowsAt.new mcs_len (w.alloc (.cells #[.string ⟨#[]⟩, .string ⟨#[]⟩, .int .i64 1000, .int .i64 0, .int .i64 0, .int .i64 0, .int .i64 0, .slice none 0 0, .slice none 0 0, .bool false] 30)) [km, km] 30
    have e : (w.alloc (.cells #[.string ⟨#[]⟩, .string ⟨#[]⟩, .int .i64 1000, .int .i64 0, .int .i64 0, .int .i64 0, .int .i64 0, .slice none 0 0, .slice none 0 0, .bool false] 30)).heap.size = w.heap.size + 1 := by simp
    rw [e] at h
    exact h
  have A1 := fun n : Held W => roomc_any 5 4000 0 (by decide +kernel) _ 2 [km, km] km n.w (HM.mono n.below) km_ok2 km_ok (by decide)
  have A2 := fun n : Held W => roomc_any 0 0 0 (by decide +kernel) _ 2 [km, km] km n.w (HM.mono n.below) km_ok2 km_ok (by decide)
  have A3 := fun n : Held W => within_any 2 0 0 (by decide +kernel) _ 2 [km, km] n.w (HM.mono n.below) km_ok2 (by decide)
  have A4 := fun n : Held W => within_any 1 0 0 (by decide +kernel) _ 2 [km, km] n.w (HM.mono n.below) km_ok2 (by decide)
  have A5 := fun n : Held W => rightc_any 0 0 0 n.w
  have A6 := fun n : Held W => rightc_any 0 0 (-1) n.w
  have A7 := fun n : Held W => roomc_any 0 2500 0 (by decide +kernel) _ 2 [km, km] km n.w (HM.mono n.below) km_ok2 km_ok (by decide)
  simp only [kv1] at A1
  simp only [kv2] at A2
  simp only [kv3] at A3
  simp only [kv4] at A4
  simp only [kv5] at A5
  simp only [kv6] at A6
  simp only [kv7] at A7
  simp only [km, List.length_cons, List.length_nil, Nat.zero_add, Nat.reduceAdd] at A1 A2 A3 A4 A7
  have HA1 := Lib.hid A1
  have HA2 := Lib.hid A2
  have HA3 := Lib.hid A3
  have HA4 := Lib.hid A4
  have HA5 := Lib.hid A5
  have HA6 := Lib.hid A6
  have HA7 := Lib.hid A7
  have hWz : w.heap.size < W.heap.size := by rw [hW]; simp; omega
  have x0 : W.cell? ⟨w.heap.size, 0, none⟩ = some (.string ⟨#[]⟩) := by rw [hW]; simp [go_sem]
  have x1 : W.cell? ⟨w.heap.size, 1, none⟩ = some (.string ⟨#[]⟩) := by rw [hW]; simp [go_sem]
  have x2 : W.cell? ⟨w.heap.size, 2, none⟩ = some (.int .i64 1000) := by rw [hW]; simp [go_sem]
  have x3 : W.cell? ⟨w.heap.size, 3, none⟩ = some (.int .i64 0) := by rw [hW]; simp [go_sem]
  have x4 : W.cell? ⟨w.heap.size, 4, none⟩ = some (.int .i64 0) := by rw [hW]; simp [go_sem]
  have x5 : W.cell? ⟨w.heap.size, 5, none⟩ = some (.int .i64 0) := by rw [hW]; simp [go_sem]
  have x6 : W.cell? ⟨w.heap.size, 6, none⟩ = some (.int .i64 0) := by rw [hW]; simp [go_sem]
  have x7 : W.cell? ⟨w.heap.size, 7, none⟩ = some (.slice none 0 0) := by rw [hW]; simp [go_sem]
  have x8 : W.cell? ⟨w.heap.size, 8, none⟩ = some (.slice none 0 0) := by rw [hW]; simp [go_sem]
  have x9 : W.cell? ⟨w.heap.size, 9, none⟩ = some (.bool false) := by rw [hW]; simp [go_sem]
  clear A1 A2 A3 A4 A5 A6 A7 HM
  go_enter Try.func9, Try.ntmps9
  go_upto_region 3 with (fail)
  rw [← hW]
  clear hW
  go_wp2_with (first
    | ((with_reducible refine (HA1.out ⟨_, ?_⟩).mono ?_); rotate_left; (rintro e w1 ⟨rfl, hb1⟩; dsimp only at hb1; obtain ⟨hc1, hf1⟩ := bcell hb1; have hz1 := hb1.size; have hy1 : w.heap.size < w1.heap.size := (by omega)); rotate_left; ((repeat' (first | with_reducible exact Below.refl _ _ | with_reducible assumption | with_reducible refine Below.drew ?_ | with_reducible refine below_drewN' ?_ _ | with_reducible refine Below.alloc ?_ ?_ _ | with_reducible refine Below.setCell ?_ ?_ _ | with_reducible refine below_step (by assumption) ?_ ?_ | omega | (simp; done) | (simp; omega)))))
    | ((with_reducible refine (HA2.out ⟨_, ?_⟩).mono ?_); rotate_left; (rintro e w2 ⟨rfl, hb2⟩; dsimp only at hb2; obtain ⟨hc2, hf2⟩ := bcell hb2; have hz2 := hb2.size; have hy2 : w.heap.size < w2.heap.size := (by omega)); rotate_left; ((repeat' (first | with_reducible exact Below.refl _ _ | with_reducible assumption | with_reducible refine Below.drew ?_ | with_reducible refine below_drewN' ?_ _ | with_reducible refine Below.alloc ?_ ?_ _ | with_reducible refine Below.setCell ?_ ?_ _ | with_reducible refine below_step (by assumption) ?_ ?_ | omega | (simp; done) | (simp; omega)))))
    | ((with_reducible refine (HA3.out ⟨_, ?_⟩).mono ?_); rotate_left; (rintro e w3 ⟨rfl, hb3⟩; dsimp only at hb3; obtain ⟨hc3, hf3⟩ := bcell hb3; have hz3 := hb3.size; have hy3 : w.heap.size < w3.heap.size := (by omega)); rotate_left; ((repeat' (first | with_reducible exact Below.refl _ _ | with_reducible assumption | with_reducible refine Below.drew ?_ | with_reducible refine below_drewN' ?_ _ | with_reducible refine Below.alloc ?_ ?_ _ | with_reducible refine Below.setCell ?_ ?_ _ | with_reducible refine below_step (by assumption) ?_ ?_ | omega | (simp; done) | (simp; omega)))))
    | ((with_reducible refine (HA4.out ⟨_, ?_⟩).mono ?_); rotate_left; (rintro e w4 ⟨rfl, hb4⟩; dsimp only at hb4; obtain ⟨hc4, hf4⟩ := bcell hb4; have hz4 := hb4.size; have hy4 : w.heap.size < w4.heap.size := (by omega)); rotate_left; ((repeat' (first | with_reducible exact Below.refl _ _ | with_reducible assumption | with_reducible refine Below.drew ?_ | with_reducible refine below_drewN' ?_ _ | with_reducible refine Below.alloc ?_ ?_ _ | with_reducible refine Below.setCell ?_ ?_ _ | with_reducible refine below_step (by assumption) ?_ ?_ | omega | (simp; done) | (simp; omega)))))
    | ((with_reducible refine (HA5.out ⟨_, ?_⟩).mono ?_); rotate_left; (rintro e w5 ⟨rfl, hb5⟩; dsimp only at hb5; obtain ⟨hc5, hf5⟩ := bcell hb5; have hz5 := hb5.size; have hy5 : w.heap.size < w5.heap.size := (by omega)); rotate_left; ((repeat' (first | with_reducible exact Below.refl _ _ | with_reducible assumption | with_reducible refine Below.drew ?_ | with_reducible refine below_drewN' ?_ _ | with_reducible refine Below.alloc ?_ ?_ _ | with_reducible refine Below.setCell ?_ ?_ _ | with_reducible refine below_step (by assumption) ?_ ?_ | omega | (simp; done) | (simp; omega)))))
    | ((with_reducible refine (HA6.out ⟨_, ?_⟩).mono ?_); rotate_left; (rintro e w6 ⟨rfl, hb6⟩; dsimp only at hb6; obtain ⟨hc6, hf6⟩ := bcell hb6; have hz6 := hb6.size; have hy6 : w.heap.size < w6.heap.size := (by omega)); rotate_left; ((repeat' (first | with_reducible exact Below.refl _ _ | with_reducible assumption | with_reducible refine Below.drew ?_ | with_reducible refine below_drewN' ?_ _ | with_reducible refine Below.alloc ?_ ?_ _ | with_reducible refine Below.setCell ?_ ?_ _ | with_reducible refine below_step (by assumption) ?_ ?_ | omega | (simp; done) | (simp; omega)))))
    | ((with_reducible refine (HA7.out ⟨_, ?_⟩).mono ?_); rotate_left; (rintro e w7 ⟨rfl, hb7⟩; dsimp only at hb7; have hz7 := hb7.size); rotate_left; ((repeat' (first | with_reducible exact Below.refl _ _ | with_reducible assumption | with_reducible refine Below.drew ?_ | with_reducible refine below_drewN' ?_ _ | with_reducible refine Below.alloc ?_ ?_ _ | with_reducible refine Below.setCell ?_ ?_ _ | with_reducible refine below_step (by assumption) ?_ ?_ | omega | (simp; done) | (simp; omega))))))
  go_ret
  have hbW := HB.out
  exact ⟨rfl, hbW.trans (by (repeat' (first | with_reducible exact Below.refl _ _ | with_reducible assumption | with_reducible refine Below.drew ?_ | with_reducible refine below_drewN' ?_ _ | with_reducible refine Below.alloc ?_ ?_ _ | with_reducible refine Below.setCell ?_ ?_ _ | with_reducible refine below_step (by assumption) ?_ ?_ | omega | (simp; done) | (simp; omega))))⟩
end Go.Proofs.Ytdlebpobkkndaaa
