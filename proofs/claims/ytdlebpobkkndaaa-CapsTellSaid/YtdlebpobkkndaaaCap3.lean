/-
  The contract of caps.Room.
-/
import Derived.Test.YtdlebpobkkndaaaCap2
namespace Go.Proofs.Ytdlebpobkkndaaa
open Go.RowKit
set_option linter.unusedVariables false

def stepQ (q : Nat) (c : Int) (ms : List Mac) (like : Mac) (n : Int) : Int := if c ≠ 0 ∧ 0 < amt q like then (if roomL c (ms.map (amt q)) / amt q like < n then roomL c (ms.map (amt q)) / amt q like else n) else n
def stepsTo (c0 c1 c2 : Int) (ms : List Mac) (like : Mac) : Nat → Int
  | 0 => 200 - ms.length
  | 1 => stepQ 0 c0 ms like (200 - ms.length)
  | 2 => stepQ 1 c1 ms like (stepQ 0 c0 ms like (200 - ms.length))
  | _ => stepQ 2 c2 ms like (stepQ 1 c1 ms like (stepQ 0 c0 ms like (200 - ms.length)))
def roomV (c0 c1 c2 : Int) (ms : List Mac) (like : Mac) : Int := if withinB c0 c1 c2 ms = true then (if stepsTo c0 c1 c2 ms like 3 < 0 then 0 else stepsTo c0 c1 c2 ms like 3) else 0
theorem step_cases (q : Nat) (c : Int) (ms : List Mac) (like : Mac) (n : Int) : ((c != 0) = false ∧ stepQ q c ms like n = n) ∨ ((c != 0) = true ∧ ¬ 0 < amt q like ∧ stepQ q c ms like n = n) ∨
    ((c != 0) = true ∧ 0 < amt q like ∧ roomL c (ms.map (amt q)) / amt q like < n ∧ stepQ q c ms like n = roomL c (ms.map (amt q)) / amt q like) ∨ ((c != 0) = true ∧ 0 < amt q like ∧ ¬ roomL c (ms.map (amt q)) / amt q like < n ∧ stepQ q c ms like n = n) := by
  unfold stepQ
  by_cases h : c = 0
  · exact .inl ⟨by simp [h], by simp [h]⟩
  · by_cases h2 : 0 < amt q like
    · rw [if_pos ⟨h, h2⟩]
      by_cases h3 : roomL c (ms.map (amt q)) / amt q like < n
      · exact .inr (.inr (.inl ⟨by simpa using h, h2, h3, if_pos h3⟩))
      · exact .inr (.inr (.inr ⟨by simpa using h, h2, h3, if_neg h3⟩))
    · exact .inr (.inl ⟨by simpa using h, h2, if_neg fun x => h2 x.2⟩)
theorem roomL_le : ∀ (l : List Int) (r : Int), (∀ a ∈ l, 0 ≤ a) → roomL r l ≤ r
  | [], r, _ => Int.le_refl r
  | a :: l, r, h => by
    have h1 := h a List.mem_cons_self
    unfold roomL
    split
    · omega
    · have := roomL_le l (r - a) fun x hx => h x (List.mem_cons_of_mem _ hx)
      omega
theorem within_room {c0 c1 c2 : Int} {ms : List Mac} (h : withinB c0 c1 c2 ms = true) : (c0 ≠ 0 → 0 ≤ roomL c0 (ms.map (amt 0))) ∧ (c1 ≠ 0 → 0 ≤ roomL c1 (ms.map (amt 1))) ∧ (c2 ≠ 0 → 0 ≤ roomL c2 (ms.map (amt 2))) := by
  unfold withinB keepB at h
  simp only [Bool.and_eq_true, Bool.or_eq_true, decide_eq_true_eq, Bool.not_eq_true', decide_eq_false_iff_not] at h
  obtain ⟨⟨h0, h1⟩, h2⟩ := h
  refine ⟨fun e => ?_, fun e => ?_, fun e => ?_⟩
  · rcases h0 with h | h
    · exact absurd h e
    · omega
  · rcases h1 with h | h
    · exact absurd h e
    · omega
  · rcases h2 with h | h
    · exact absurd h e
    · omega

def CellsM (m : Mac) (b : Nat) (w : World) : Prop := b < w.heap.size ∧ ∀ r, r < 10 → w.cell? ⟨b, 0 + r, none⟩ = (mcs m)[r]?
theorem CellsM.mono {m : Mac} {b : Nat} {w w' : World} (h : CellsM m b w) (hb : Below w.heap.size w w') : CellsM m b w' := by
  obtain ⟨h0, h1⟩ := h
  have := hb.size
  exact ⟨by omega, fun r hr => by rw [hb.cell (p := ⟨b, 0 + r, none⟩) h0]; exact h1 r hr⟩

set_option maxRecDepth 100000 in
theorem limits_any (c0 c1 c2 : Int) (w : World) :
    Calls Try.prog 14 #[.agg #[.int .i64 c0, .int .i64 c1, .int .i64 c2]] w fun e w' => e = .returned (.slice (some ⟨w.heap.size + 1, 0, none⟩) 3 3) ∧ w' = (w.alloc (.cells #[.int .i64 c0, .int .i64 c1, .int .i64 c2] 23)).alloc (.cells #[.int .i64 c0, .func (.func 20) #[] #[], .int .i64 c1, .func (.func 21) #[] #[], .int .i64 c2, .func (.func 22) #[] #[]] 40) := by
  go_enter Try.func14, Try.ntmps14
  go_wp2
  go_ret
  exact ⟨rfl, rfl⟩
set_option maxRecDepth 100000 in
theorem node_any (m : Mac) (w : World) : Calls Try.prog 20 #[.agg #[.string (m).nm, .string (m).gp, .int .i64 (m).r0, .int .i64 (m).r1, .int .i64 (m).r2, .int .i64 (m).r3, .int .i64 (m).r4, .slice (m).la (m).labs.length (m).lk, .slice (m).ta (m).tnts.length (m).tk, .bool (m).rd]] w fun e w' => e = .returned (.int .i64 1) ∧ Below w.heap.size w w' := by
  go_enter Try.func20, Try.ntmps20
  go_wp2
  go_ret
  exact ⟨rfl, by (repeat' (first | with_reducible exact Below.refl _ _ | with_reducible assumption | with_reducible refine Below.drew ?_ | with_reducible refine below_drewN' ?_ _ | with_reducible refine Below.alloc ?_ ?_ _ | with_reducible refine Below.setCell ?_ ?_ _ | with_reducible refine below_step (by assumption) ?_ ?_ | omega | (simp; done) | (simp; omega)))⟩
set_option maxRecDepth 100000 in
theorem cpu_any (m : Mac) (w : World) : Calls Try.prog 21 #[.agg #[.string (m).nm, .string (m).gp, .int .i64 (m).r0, .int .i64 (m).r1, .int .i64 (m).r2, .int .i64 (m).r3, .int .i64 (m).r4, .slice (m).la (m).labs.length (m).lk, .slice (m).ta (m).tnts.length (m).tk, .bool (m).rd]] w fun e w' => e = .returned (.int .i64 m.r0) ∧ Below w.heap.size w w' := by
  go_enter Try.func21, Try.ntmps21
  go_wp2
  go_ret
  exact ⟨rfl, by (repeat' (first | with_reducible exact Below.refl _ _ | with_reducible assumption | with_reducible refine Below.drew ?_ | with_reducible refine below_drewN' ?_ _ | with_reducible refine Below.alloc ?_ ?_ _ | with_reducible refine Below.setCell ?_ ?_ _ | with_reducible refine below_step (by assumption) ?_ ?_ | omega | (simp; done) | (simp; omega)))⟩
set_option maxRecDepth 100000 in
theorem mem_any (m : Mac) (w : World) : Calls Try.prog 22 #[.agg #[.string (m).nm, .string (m).gp, .int .i64 (m).r0, .int .i64 (m).r1, .int .i64 (m).r2, .int .i64 (m).r3, .int .i64 (m).r4, .slice (m).la (m).labs.length (m).lk, .slice (m).ta (m).tnts.length (m).tk, .bool (m).rd]] w fun e w' => e = .returned (.int .i64 m.r1) ∧ Below w.heap.size w w' := by
  go_enter Try.func22, Try.ntmps22
  go_wp2
  go_ret
  exact ⟨rfl, by (repeat' (first | with_reducible exact Below.refl _ _ | with_reducible assumption | with_reducible refine Below.drew ?_ | with_reducible refine below_drewN' ?_ _ | with_reducible refine Below.alloc ?_ ?_ _ | with_reducible refine Below.setCell ?_ ?_ _ | with_reducible refine below_step (by assumption) ?_ ?_ | omega | (simp; done) | (simp; omega)))⟩
theorem quo_in {r a : Int} (hr : 0 ≤ r) (hr1 : r ≤ 288230376151711744) (ha : 0 < a) : Int.tdiv r a = r / a ∧ IntKind.i64.wrap (r / a) = r / a ∧ 0 ≤ r / a ∧ r / a ≤ 288230376151711744 := by
  have h1 : 0 ≤ r / a := Int.ediv_nonneg hr (Int.le_of_lt ha)
  have h2 : r / a ≤ r := Int.ediv_le_self a hr
  exact ⟨Int.tdiv_eq_ediv_of_nonneg hr, wrap_in (by omega) (by omega), h1, by omega⟩

set_option maxRecDepth 100000 in
set_option maxHeartbeats 8000000 in
theorem room_no (c0 c1 c2 : Int) (hc : rightC c0 c1 c2 = true) (c : Option Addr) (kc : Nat) (ms : List Mac) (like : Mac) (w : World) (hF : MacsAt w c ms) (hok : MacsOk ms) (hm : ms.length ≤ 1000000) (hw : withinB c0 c1 c2 ms = false) :
    Calls Try.prog 12 #[.agg #[.int .i64 c0, .int .i64 c1, .int .i64 c2], .slice c ms.length kc, .agg #[.string (like).nm, .string (like).gp, .int .i64 (like).r0, .int .i64 (like).r1, .int .i64 (like).r2, .int .i64 (like).r3, .int .i64 (like).r4, .slice (like).la (like).labs.length (like).lk, .slice (like).ta (like).tnts.length (like).tk, .bool (like).rd]] w fun e w' => e = .returned (.int .i64 0) ∧ Below w.heap.size w w' := by
  have HF := Lib.hid hF
  have Hw := Lib.hid hw
  clear hF hw
  go_enter Try.func12, Try.ntmps12
  go_wp2_with (go_at_call 10; (with_reducible refine (within_any c0 c1 c2 hc c kc ms _ (HF.out.mono (by (repeat' (first | with_reducible exact Below.refl _ _ | with_reducible assumption | with_reducible refine Below.drew ?_ | with_reducible refine below_drewN' ?_ _ | with_reducible refine Below.alloc ?_ ?_ _ | with_reducible refine Below.setCell ?_ ?_ _ | with_reducible refine below_step (by assumption) ?_ ?_ | omega | (simp; done) | (simp; omega))))) hok hm).mono ?_); rw [Hw.out]; rintro e w1 ⟨rfl, hb1⟩; have hz1 := hb1.size; (try simp at hz1))
  go_ret
  exact ⟨rfl, by (repeat' (first | with_reducible exact Below.refl _ _ | with_reducible assumption | with_reducible refine Below.drew ?_ | with_reducible refine below_drewN' ?_ _ | with_reducible refine Below.alloc ?_ ?_ _ | with_reducible refine Below.setCell ?_ ?_ _ | with_reducible refine below_step (by assumption) ?_ ?_ | omega | (simp; done) | (simp; omega)))⟩

set_option maxRecDepth 100000 in
set_option maxHeartbeats 8000000 in
theorem room_yes (c0 c1 c2 : Int) (hc : rightC c0 c1 c2 = true) (c : Option Addr) (kc : Nat) (ms : List Mac) (like : Mac) (w : World) (hF : MacsAt w c ms) (hok : MacsOk ms) (hlk : MacsOk [like]) (hm : ms.length ≤ 1000000) (hw : withinB c0 c1 c2 ms = true) :
    Calls Try.prog 12 #[.agg #[.int .i64 c0, .int .i64 c1, .int .i64 c2], .slice c ms.length kc, .agg #[.string (like).nm, .string (like).gp, .int .i64 (like).r0, .int .i64 (like).r1, .int .i64 (like).r2, .int .i64 (like).r3, .int .i64 (like).r4, .slice (like).la (like).labs.length (like).lk, .slice (like).ta (like).tnts.length (like).tk, .bool (like).rd]] w fun e w' => e = .returned (.int .i64 (roomV c0 c1 c2 ms like)) ∧ Below w.heap.size w w' := by
  have hcc := hc
  unfold rightC capB at hcc
  rw [Bool.and_eq_true, Bool.and_eq_true, decide_eq_true_eq, decide_eq_true_eq, decide_eq_true_eq] at hcc
  obtain ⟨⟨⟨l0, u0⟩, l1, u1⟩, l2, u2⟩ := hcc
  have Hv := Lib.hid (show roomV c0 c1 c2 ms like = (if stepsTo c0 c1 c2 ms like 3 < 0 then 0 else stepsTo c0 c1 c2 ms like 3) from if_pos hw)
  have Hwr := Lib.hid (within_room hw)
  have HF := Lib.hid hF
  have Hw := Lib.hid hw
  have Hok := Lib.hid hok
  obtain ⟨⟨lr0, ur0⟩, lr1, ur1⟩ := hlk like List.mem_cons_self
  clear hF hw hok hlk
  go_enter Try.func12, Try.ntmps12
  go_wp2_with (first | (go_at_call 14; (with_reducible refine (limits_any c0 c1 c2 _).mono ?_); rintro e w2 ⟨rfl, rfl⟩) | (go_at_call 10; (with_reducible refine (within_any c0 c1 c2 hc c kc ms _ (HF.out.mono (by (repeat' (first | with_reducible exact Below.refl _ _ | with_reducible assumption | with_reducible refine Below.drew ?_ | with_reducible refine below_drewN' ?_ _ | with_reducible refine Below.alloc ?_ ?_ _ | with_reducible refine Below.setCell ?_ ?_ _ | with_reducible refine below_step (by assumption) ?_ ?_ | omega | (simp; done) | (simp; omega))))) Hok.out hm).mono ?_); rw [Hw.out]; rintro e w1 ⟨rfl, hb1⟩; have HB1 := Lib.hid hb1; obtain ⟨hc1, hf1⟩ := bcell hb1; have hz1 := hb1.size; (try simp at hz1); have hx1 : w.heap.size + 1 < w1.heap.size := (by omega); have hx0 : w.heap.size < w1.heap.size := (by omega)))
  obtain ⟨W, hW⟩ : ∃ W, W = (w1.alloc (.cells #[.int .i64 c0, .int .i64 c1, .int .i64 c2] 23)).alloc (.cells #[.int .i64 c0, .func (.func 20) #[] #[], .int .i64 c1, .func (.func 21) #[] #[], .int .i64 c2, .func (.func 22) #[] #[]] 40) := ⟨_, rfl⟩
  rw [← hW]
  have HB := Lib.hid (show Below w.heap.size w W by rw [hW]; exact Below.trans (b := w1) (by (repeat' (first | with_reducible exact Below.refl _ _ | with_reducible assumption | with_reducible refine Below.drew ?_ | with_reducible refine below_drewN' ?_ _ | with_reducible refine Below.alloc ?_ ?_ _ | with_reducible refine Below.setCell ?_ ?_ _ | with_reducible refine below_step (by assumption) ?_ ?_ | omega | (simp; done) | (simp; omega)))) (by (repeat' (first | with_reducible exact Below.refl _ _ | with_reducible assumption | with_reducible refine Below.drew ?_ | with_reducible refine below_drewN' ?_ _ | with_reducible refine Below.alloc ?_ ?_ _ | with_reducible refine Below.setCell ?_ ?_ _ | with_reducible refine below_step (by assumption) ?_ ?_ | omega | (simp; done) | (simp; omega)))))
  have hWz : w1.heap.size + 1 < W.heap.size := by rw [hW]; simp
  have hWy : w.heap.size + 1 < W.heap.size := by omega
  have s0 : W.cell? ⟨w1.heap.size + 1, 0, none⟩ = some (.int .i64 c0) := by rw [hW]; simp [go_sem]
  have s1 : W.cell? ⟨w1.heap.size + 1, 1, none⟩ = some (.func (.func 20) #[] #[]) := by rw [hW]; simp [go_sem]
  have s2 : W.cell? ⟨w1.heap.size + 1, 2, none⟩ = some (.int .i64 c1) := by rw [hW]; simp [go_sem]
  have s3 : W.cell? ⟨w1.heap.size + 1, 3, none⟩ = some (.func (.func 21) #[] #[]) := by rw [hW]; simp [go_sem]
  have s4 : W.cell? ⟨w1.heap.size + 1, 4, none⟩ = some (.int .i64 c2) := by rw [hW]; simp [go_sem]
  have s5 : W.cell? ⟨w1.heap.size + 1, 5, none⟩ = some (.func (.func 22) #[] #[]) := by rw [hW]; simp [go_sem]
  have HM : CellsM like (w.heap.size + 1) W := by
    rw [hW]
    refine CellsM.mono (w := w1) ?_ (by (repeat' (first | with_reducible exact Below.refl _ _ | with_reducible assumption | with_reducible refine Below.drew ?_ | with_reducible refine below_drewN' ?_ _ | with_reducible refine Below.alloc ?_ ?_ _ | with_reducible refine Below.setCell ?_ ?_ _ | with_reducible refine below_step (by assumption) ?_ ?_ | omega | (simp; done) | (simp; omega))))
    refine CellsM.mono ?_ HB1.out
    refine ⟨by simp, fun r hr => ?_⟩
    rcases (show r = 0 ∨ r = 1 ∨ r = 2 ∨ r = 3 ∨ r = 4 ∨ r = 5 ∨ r = 6 ∨ r = 7 ∨ r = 8 ∨ r = 9 by omega) with rfl | rfl | rfl | rfl | rfl | rfl | rfl | rfl | rfl | rfl <;> simp [go_sem, mcs]
  obtain ⟨_, hmc⟩ := HM
  obtain ⟨m0, m1, m2, m3, m4, m5, m6, m7, m8, m9⟩ := mac_cells hmc
  simp only [Nat.zero_add] at m1 m2 m3 m4 m5 m6 m7 m8 m9
  have HFW := Lib.hid (HF.out.mono HB.out)
  clear hW hb1 hc1 hf1 hmc hz1 hx0 hx1 HB1
  go_loopw [7, 21] (fun v i wr => ∃ k : Nat, k ≤ 3 ∧ i = .int .i64 k ∧ v = .int .i64 (stepsTo c0 c1 c2 ms like k) ∧ Below W.heap.size W wr) (fun _ i _ => 3 - (intOf i).toNat)
  case atStart => exact ⟨0, by omega, rfl, rfl, by (repeat' (first | with_reducible exact Below.refl _ _ | with_reducible assumption | with_reducible refine Below.drew ?_ | with_reducible refine below_drewN' ?_ _ | with_reducible refine Below.alloc ?_ ?_ _ | with_reducible refine Below.setCell ?_ ?_ _ | with_reducible refine below_step (by assumption) ?_ ?_ | omega | (simp; done) | (simp; omega)))⟩
  case round =>
    obtain ⟨k, hk, rfl, rfl, hB⟩ := hrel
    obtain ⟨hcB, hfB⟩ := bcell hB
    have hbz := hB.size
    have HBr := Lib.hid hB
    have HFr := Lib.hid (HFW.out.mono hB)
    have hww : w1.heap.size + 1 < wr.heap.size := by omega
    have hwy : w.heap.size + 1 < wr.heap.size := by omega
    obtain ⟨rl0, rl1, rl2⟩ := Hwr.out
    rcases (show k = 0 ∨ k = 1 ∨ k = 2 ∨ k = 3 by omega) with rfl | rfl | rfl | rfl
    · obtain ⟨n0, hn0⟩ : ∃ n, stepsTo c0 c1 c2 ms like 0 = n := ⟨_, rfl⟩
      have hs := step_cases 0 c0 ms like n0
      have hst : stepsTo c0 c1 c2 ms like 1 = stepQ 0 c0 ms like n0 := by rw [← hn0]; rfl
      rw [hn0]
      clear hn0
      obtain ⟨r, hr⟩ : ∃ r, roomL c0 (ms.map (amt 0)) = r := ⟨_, rfl⟩
      have hr1 : r ≤ 288230376151711744 := by rw [← hr]; exact Int.le_trans (roomL_le _ _ fun a ha => by obtain ⟨x, hx, rfl⟩ := List.mem_map.1 ha; exact (Hok.out.amt0 x hx).1) u0
      rw [hr] at hs rl0
      have Hr := Lib.hid hr
      clear hr
      have he : amt 0 like = 1 := rfl
      rw [he] at hs
      clear he
      rcases hs with ⟨k1, e⟩ | ⟨k1, k2, e⟩ | ⟨k1, k2, k3, e⟩ | ⟨k1, k2, k3, e⟩
      · skip
        have He := Lib.hid (hst.trans e)
        clear hst e
        go_wp2_with (first
          | (go_at_call 20; (with_reducible refine (node_any like _).mono ?_); rintro e w4 ⟨rfl, hb4⟩; have hz4 := hb4.size; (try simp at hz4); obtain ⟨hc4, hf4⟩ := bcell hb4; have hx4 : wr.heap.size < w4.heap.size := (by omega))
          | (go_at_call 18; (with_reducible refine (room0_any c0 l0 u0 c kc ms _ (HFr.out.mono (by (repeat' (first | with_reducible exact Below.refl _ _ | with_reducible assumption | with_reducible refine Below.drew ?_ | with_reducible refine below_drewN' ?_ _ | with_reducible refine Below.alloc ?_ ?_ _ | with_reducible refine Below.setCell ?_ ?_ _ | with_reducible refine below_step (by assumption) ?_ ?_ | omega | (simp; done) | (simp; omega))))) Hok.out.amt0 hm).mono ?_); rw [Hr.out]; rintro e w5 ⟨rfl, hb5⟩; have hz5 := hb5.size; (try simp at hz5)))
        go_roundw
        case rel => exact ⟨1, by omega, by go_num, by first | (rw [He.out]; done) | (rw [He.out]; simp), HBr.out.trans (by (repeat' (first | with_reducible exact Below.refl _ _ | with_reducible assumption | with_reducible refine Below.drew ?_ | with_reducible refine below_drewN' ?_ _ | with_reducible refine Below.alloc ?_ ?_ _ | with_reducible refine Below.setCell ?_ ?_ _ | with_reducible refine below_step (by assumption) ?_ ?_ | omega | (simp; done) | (simp; omega))))⟩
        case measure => simp [intOf]
      · exact absurd (by decide : (0 : Int) < 1) k2
      · have q1 := rl0 (by simpa using k1)
        obtain ⟨g1, g2, g3, g4⟩ := quo_in (r := r) (a := 1) q1 hr1 k2
        have g0 : ¬ (1 : Int) = 0 := by omega
        have He := Lib.hid (hst.trans e)
        clear hst e
        go_wp2_with (first
          | (go_at_call 20; (with_reducible refine (node_any like _).mono ?_); rintro e w4 ⟨rfl, hb4⟩; have hz4 := hb4.size; (try simp at hz4); obtain ⟨hc4, hf4⟩ := bcell hb4; have hx4 : wr.heap.size < w4.heap.size := (by omega))
          | (go_at_call 18; (with_reducible refine (room0_any c0 l0 u0 c kc ms _ (HFr.out.mono (by (repeat' (first | with_reducible exact Below.refl _ _ | with_reducible assumption | with_reducible refine Below.drew ?_ | with_reducible refine below_drewN' ?_ _ | with_reducible refine Below.alloc ?_ ?_ _ | with_reducible refine Below.setCell ?_ ?_ _ | with_reducible refine below_step (by assumption) ?_ ?_ | omega | (simp; done) | (simp; omega))))) Hok.out.amt0 hm).mono ?_); rw [Hr.out]; rintro e w5 ⟨rfl, hb5⟩; have hz5 := hb5.size; (try simp at hz5)))
        go_roundw
        case rel => exact ⟨1, by omega, by go_num, by first | (rw [He.out]; done) | (rw [He.out]; simp), HBr.out.trans (by (repeat' (first | with_reducible exact Below.refl _ _ | with_reducible assumption | with_reducible refine Below.drew ?_ | with_reducible refine below_drewN' ?_ _ | with_reducible refine Below.alloc ?_ ?_ _ | with_reducible refine Below.setCell ?_ ?_ _ | with_reducible refine below_step (by assumption) ?_ ?_ | omega | (simp; done) | (simp; omega))))⟩
        case measure => simp [intOf]
      · have q1 := rl0 (by simpa using k1)
        obtain ⟨g1, g2, g3, g4⟩ := quo_in (r := r) (a := 1) q1 hr1 k2
        have g0 : ¬ (1 : Int) = 0 := by omega
        have He := Lib.hid (hst.trans e)
        clear hst e
        go_wp2_with (first
          | (go_at_call 20; (with_reducible refine (node_any like _).mono ?_); rintro e w4 ⟨rfl, hb4⟩; have hz4 := hb4.size; (try simp at hz4); obtain ⟨hc4, hf4⟩ := bcell hb4; have hx4 : wr.heap.size < w4.heap.size := (by omega))
          | (go_at_call 18; (with_reducible refine (room0_any c0 l0 u0 c kc ms _ (HFr.out.mono (by (repeat' (first | with_reducible exact Below.refl _ _ | with_reducible assumption | with_reducible refine Below.drew ?_ | with_reducible refine below_drewN' ?_ _ | with_reducible refine Below.alloc ?_ ?_ _ | with_reducible refine Below.setCell ?_ ?_ _ | with_reducible refine below_step (by assumption) ?_ ?_ | omega | (simp; done) | (simp; omega))))) Hok.out.amt0 hm).mono ?_); rw [Hr.out]; rintro e w5 ⟨rfl, hb5⟩; have hz5 := hb5.size; (try simp at hz5)))
        go_roundw
        case rel => exact ⟨1, by omega, by go_num, by first | (rw [He.out]; done) | (rw [He.out]; simp), HBr.out.trans (by (repeat' (first | with_reducible exact Below.refl _ _ | with_reducible assumption | with_reducible refine Below.drew ?_ | with_reducible refine below_drewN' ?_ _ | with_reducible refine Below.alloc ?_ ?_ _ | with_reducible refine Below.setCell ?_ ?_ _ | with_reducible refine below_step (by assumption) ?_ ?_ | omega | (simp; done) | (simp; omega))))⟩
        case measure => simp [intOf]
    · obtain ⟨n0, hn0⟩ : ∃ n, stepsTo c0 c1 c2 ms like 1 = n := ⟨_, rfl⟩
      have hs := step_cases 1 c1 ms like n0
      have hst : stepsTo c0 c1 c2 ms like 2 = stepQ 1 c1 ms like n0 := by rw [← hn0]; rfl
      rw [hn0]
      clear hn0
      obtain ⟨r, hr⟩ : ∃ r, roomL c1 (ms.map (amt 1)) = r := ⟨_, rfl⟩
      have hr1 : r ≤ 288230376151711744 := by rw [← hr]; exact Int.le_trans (roomL_le _ _ fun a ha => by obtain ⟨x, hx, rfl⟩ := List.mem_map.1 ha; exact (Hok.out.amt1 x hx).1) u1
      rw [hr] at hs rl1
      have Hr := Lib.hid hr
      clear hr
      have he : amt 1 like = like.r0 := rfl
      rw [he] at hs
      clear he
      rcases hs with ⟨k1, e⟩ | ⟨k1, k2, e⟩ | ⟨k1, k2, k3, e⟩ | ⟨k1, k2, k3, e⟩
      · skip
        have He := Lib.hid (hst.trans e)
        clear hst e
        go_wp2_with (first
          | (go_at_call 21; (with_reducible refine (cpu_any like _).mono ?_); rintro e w4 ⟨rfl, hb4⟩; have hz4 := hb4.size; (try simp at hz4); obtain ⟨hc4, hf4⟩ := bcell hb4; have hx4 : wr.heap.size < w4.heap.size := (by omega))
          | (go_at_call 18; (with_reducible refine (room1_any c1 l1 u1 c kc ms _ (HFr.out.mono (by (repeat' (first | with_reducible exact Below.refl _ _ | with_reducible assumption | with_reducible refine Below.drew ?_ | with_reducible refine below_drewN' ?_ _ | with_reducible refine Below.alloc ?_ ?_ _ | with_reducible refine Below.setCell ?_ ?_ _ | with_reducible refine below_step (by assumption) ?_ ?_ | omega | (simp; done) | (simp; omega))))) Hok.out.amt1 hm).mono ?_); rw [Hr.out]; rintro e w5 ⟨rfl, hb5⟩; have hz5 := hb5.size; (try simp at hz5)))
        go_roundw
        case rel => exact ⟨2, by omega, by go_num, by first | (rw [He.out]; done) | (rw [He.out]; simp), HBr.out.trans (by (repeat' (first | with_reducible exact Below.refl _ _ | with_reducible assumption | with_reducible refine Below.drew ?_ | with_reducible refine below_drewN' ?_ _ | with_reducible refine Below.alloc ?_ ?_ _ | with_reducible refine Below.setCell ?_ ?_ _ | with_reducible refine below_step (by assumption) ?_ ?_ | omega | (simp; done) | (simp; omega))))⟩
        case measure => simp [intOf]
      · skip
        have He := Lib.hid (hst.trans e)
        clear hst e
        go_wp2_with (first
          | (go_at_call 21; (with_reducible refine (cpu_any like _).mono ?_); rintro e w4 ⟨rfl, hb4⟩; have hz4 := hb4.size; (try simp at hz4); obtain ⟨hc4, hf4⟩ := bcell hb4; have hx4 : wr.heap.size < w4.heap.size := (by omega))
          | (go_at_call 18; (with_reducible refine (room1_any c1 l1 u1 c kc ms _ (HFr.out.mono (by (repeat' (first | with_reducible exact Below.refl _ _ | with_reducible assumption | with_reducible refine Below.drew ?_ | with_reducible refine below_drewN' ?_ _ | with_reducible refine Below.alloc ?_ ?_ _ | with_reducible refine Below.setCell ?_ ?_ _ | with_reducible refine below_step (by assumption) ?_ ?_ | omega | (simp; done) | (simp; omega))))) Hok.out.amt1 hm).mono ?_); rw [Hr.out]; rintro e w5 ⟨rfl, hb5⟩; have hz5 := hb5.size; (try simp at hz5)))
        go_roundw
        case rel => exact ⟨2, by omega, by go_num, by first | (rw [He.out]; done) | (rw [He.out]; simp), HBr.out.trans (by (repeat' (first | with_reducible exact Below.refl _ _ | with_reducible assumption | with_reducible refine Below.drew ?_ | with_reducible refine below_drewN' ?_ _ | with_reducible refine Below.alloc ?_ ?_ _ | with_reducible refine Below.setCell ?_ ?_ _ | with_reducible refine below_step (by assumption) ?_ ?_ | omega | (simp; done) | (simp; omega))))⟩
        case measure => simp [intOf]
      · have q1 := rl1 (by simpa using k1)
        obtain ⟨g1, g2, g3, g4⟩ := quo_in (r := r) (a := like.r0) q1 hr1 k2
        have g0 : ¬ (like.r0 : Int) = 0 := by omega
        have He := Lib.hid (hst.trans e)
        clear hst e
        go_wp2_with (first
          | (go_at_call 21; (with_reducible refine (cpu_any like _).mono ?_); rintro e w4 ⟨rfl, hb4⟩; have hz4 := hb4.size; (try simp at hz4); obtain ⟨hc4, hf4⟩ := bcell hb4; have hx4 : wr.heap.size < w4.heap.size := (by omega))
          | (go_at_call 18; (with_reducible refine (room1_any c1 l1 u1 c kc ms _ (HFr.out.mono (by (repeat' (first | with_reducible exact Below.refl _ _ | with_reducible assumption | with_reducible refine Below.drew ?_ | with_reducible refine below_drewN' ?_ _ | with_reducible refine Below.alloc ?_ ?_ _ | with_reducible refine Below.setCell ?_ ?_ _ | with_reducible refine below_step (by assumption) ?_ ?_ | omega | (simp; done) | (simp; omega))))) Hok.out.amt1 hm).mono ?_); rw [Hr.out]; rintro e w5 ⟨rfl, hb5⟩; have hz5 := hb5.size; (try simp at hz5)))
        go_roundw
        case rel => exact ⟨2, by omega, by go_num, by first | (rw [He.out]; done) | (rw [He.out]; simp), HBr.out.trans (by (repeat' (first | with_reducible exact Below.refl _ _ | with_reducible assumption | with_reducible refine Below.drew ?_ | with_reducible refine below_drewN' ?_ _ | with_reducible refine Below.alloc ?_ ?_ _ | with_reducible refine Below.setCell ?_ ?_ _ | with_reducible refine below_step (by assumption) ?_ ?_ | omega | (simp; done) | (simp; omega))))⟩
        case measure => simp [intOf]
      · have q1 := rl1 (by simpa using k1)
        obtain ⟨g1, g2, g3, g4⟩ := quo_in (r := r) (a := like.r0) q1 hr1 k2
        have g0 : ¬ (like.r0 : Int) = 0 := by omega
        have He := Lib.hid (hst.trans e)
        clear hst e
        go_wp2_with (first
          | (go_at_call 21; (with_reducible refine (cpu_any like _).mono ?_); rintro e w4 ⟨rfl, hb4⟩; have hz4 := hb4.size; (try simp at hz4); obtain ⟨hc4, hf4⟩ := bcell hb4; have hx4 : wr.heap.size < w4.heap.size := (by omega))
          | (go_at_call 18; (with_reducible refine (room1_any c1 l1 u1 c kc ms _ (HFr.out.mono (by (repeat' (first | with_reducible exact Below.refl _ _ | with_reducible assumption | with_reducible refine Below.drew ?_ | with_reducible refine below_drewN' ?_ _ | with_reducible refine Below.alloc ?_ ?_ _ | with_reducible refine Below.setCell ?_ ?_ _ | with_reducible refine below_step (by assumption) ?_ ?_ | omega | (simp; done) | (simp; omega))))) Hok.out.amt1 hm).mono ?_); rw [Hr.out]; rintro e w5 ⟨rfl, hb5⟩; have hz5 := hb5.size; (try simp at hz5)))
        go_roundw
        case rel => exact ⟨2, by omega, by go_num, by first | (rw [He.out]; done) | (rw [He.out]; simp), HBr.out.trans (by (repeat' (first | with_reducible exact Below.refl _ _ | with_reducible assumption | with_reducible refine Below.drew ?_ | with_reducible refine below_drewN' ?_ _ | with_reducible refine Below.alloc ?_ ?_ _ | with_reducible refine Below.setCell ?_ ?_ _ | with_reducible refine below_step (by assumption) ?_ ?_ | omega | (simp; done) | (simp; omega))))⟩
        case measure => simp [intOf]
    · obtain ⟨n0, hn0⟩ : ∃ n, stepsTo c0 c1 c2 ms like 2 = n := ⟨_, rfl⟩
      have hs := step_cases 2 c2 ms like n0
      have hst : stepsTo c0 c1 c2 ms like 3 = stepQ 2 c2 ms like n0 := by rw [← hn0]; rfl
      rw [hn0]
      clear hn0
      obtain ⟨r, hr⟩ : ∃ r, roomL c2 (ms.map (amt 2)) = r := ⟨_, rfl⟩
      have hr1 : r ≤ 288230376151711744 := by rw [← hr]; exact Int.le_trans (roomL_le _ _ fun a ha => by obtain ⟨x, hx, rfl⟩ := List.mem_map.1 ha; exact (Hok.out.amt2 x hx).1) u2
      rw [hr] at hs rl2
      have Hr := Lib.hid hr
      clear hr
      have he : amt 2 like = like.r1 := rfl
      rw [he] at hs
      clear he
      rcases hs with ⟨k1, e⟩ | ⟨k1, k2, e⟩ | ⟨k1, k2, k3, e⟩ | ⟨k1, k2, k3, e⟩
      · skip
        have He := Lib.hid (hst.trans e)
        clear hst e
        go_wp2_with (first
          | (go_at_call 22; (with_reducible refine (mem_any like _).mono ?_); rintro e w4 ⟨rfl, hb4⟩; have hz4 := hb4.size; (try simp at hz4); obtain ⟨hc4, hf4⟩ := bcell hb4; have hx4 : wr.heap.size < w4.heap.size := (by omega))
          | (go_at_call 18; (with_reducible refine (room2_any c2 l2 u2 c kc ms _ (HFr.out.mono (by (repeat' (first | with_reducible exact Below.refl _ _ | with_reducible assumption | with_reducible refine Below.drew ?_ | with_reducible refine below_drewN' ?_ _ | with_reducible refine Below.alloc ?_ ?_ _ | with_reducible refine Below.setCell ?_ ?_ _ | with_reducible refine below_step (by assumption) ?_ ?_ | omega | (simp; done) | (simp; omega))))) Hok.out.amt2 hm).mono ?_); rw [Hr.out]; rintro e w5 ⟨rfl, hb5⟩; have hz5 := hb5.size; (try simp at hz5)))
        go_roundw
        case rel => exact ⟨3, by omega, by go_num, by first | (rw [He.out]; done) | (rw [He.out]; simp), HBr.out.trans (by (repeat' (first | with_reducible exact Below.refl _ _ | with_reducible assumption | with_reducible refine Below.drew ?_ | with_reducible refine below_drewN' ?_ _ | with_reducible refine Below.alloc ?_ ?_ _ | with_reducible refine Below.setCell ?_ ?_ _ | with_reducible refine below_step (by assumption) ?_ ?_ | omega | (simp; done) | (simp; omega))))⟩
        case measure => simp [intOf]
      · skip
        have He := Lib.hid (hst.trans e)
        clear hst e
        go_wp2_with (first
          | (go_at_call 22; (with_reducible refine (mem_any like _).mono ?_); rintro e w4 ⟨rfl, hb4⟩; have hz4 := hb4.size; (try simp at hz4); obtain ⟨hc4, hf4⟩ := bcell hb4; have hx4 : wr.heap.size < w4.heap.size := (by omega))
          | (go_at_call 18; (with_reducible refine (room2_any c2 l2 u2 c kc ms _ (HFr.out.mono (by (repeat' (first | with_reducible exact Below.refl _ _ | with_reducible assumption | with_reducible refine Below.drew ?_ | with_reducible refine below_drewN' ?_ _ | with_reducible refine Below.alloc ?_ ?_ _ | with_reducible refine Below.setCell ?_ ?_ _ | with_reducible refine below_step (by assumption) ?_ ?_ | omega | (simp; done) | (simp; omega))))) Hok.out.amt2 hm).mono ?_); rw [Hr.out]; rintro e w5 ⟨rfl, hb5⟩; have hz5 := hb5.size; (try simp at hz5)))
        go_roundw
        case rel => exact ⟨3, by omega, by go_num, by first | (rw [He.out]; done) | (rw [He.out]; simp), HBr.out.trans (by (repeat' (first | with_reducible exact Below.refl _ _ | with_reducible assumption | with_reducible refine Below.drew ?_ | with_reducible refine below_drewN' ?_ _ | with_reducible refine Below.alloc ?_ ?_ _ | with_reducible refine Below.setCell ?_ ?_ _ | with_reducible refine below_step (by assumption) ?_ ?_ | omega | (simp; done) | (simp; omega))))⟩
        case measure => simp [intOf]
      · have q1 := rl2 (by simpa using k1)
        obtain ⟨g1, g2, g3, g4⟩ := quo_in (r := r) (a := like.r1) q1 hr1 k2
        have g0 : ¬ (like.r1 : Int) = 0 := by omega
        have He := Lib.hid (hst.trans e)
        clear hst e
        go_wp2_with (first
          | (go_at_call 22; (with_reducible refine (mem_any like _).mono ?_); rintro e w4 ⟨rfl, hb4⟩; have hz4 := hb4.size; (try simp at hz4); obtain ⟨hc4, hf4⟩ := bcell hb4; have hx4 : wr.heap.size < w4.heap.size := (by omega))
          | (go_at_call 18; (with_reducible refine (room2_any c2 l2 u2 c kc ms _ (HFr.out.mono (by (repeat' (first | with_reducible exact Below.refl _ _ | with_reducible assumption | with_reducible refine Below.drew ?_ | with_reducible refine below_drewN' ?_ _ | with_reducible refine Below.alloc ?_ ?_ _ | with_reducible refine Below.setCell ?_ ?_ _ | with_reducible refine below_step (by assumption) ?_ ?_ | omega | (simp; done) | (simp; omega))))) Hok.out.amt2 hm).mono ?_); rw [Hr.out]; rintro e w5 ⟨rfl, hb5⟩; have hz5 := hb5.size; (try simp at hz5)))
        go_roundw
        case rel => exact ⟨3, by omega, by go_num, by first | (rw [He.out]; done) | (rw [He.out]; simp), HBr.out.trans (by (repeat' (first | with_reducible exact Below.refl _ _ | with_reducible assumption | with_reducible refine Below.drew ?_ | with_reducible refine below_drewN' ?_ _ | with_reducible refine Below.alloc ?_ ?_ _ | with_reducible refine Below.setCell ?_ ?_ _ | with_reducible refine below_step (by assumption) ?_ ?_ | omega | (simp; done) | (simp; omega))))⟩
        case measure => simp [intOf]
      · have q1 := rl2 (by simpa using k1)
        obtain ⟨g1, g2, g3, g4⟩ := quo_in (r := r) (a := like.r1) q1 hr1 k2
        have g0 : ¬ (like.r1 : Int) = 0 := by omega
        have He := Lib.hid (hst.trans e)
        clear hst e
        go_wp2_with (first
          | (go_at_call 22; (with_reducible refine (mem_any like _).mono ?_); rintro e w4 ⟨rfl, hb4⟩; have hz4 := hb4.size; (try simp at hz4); obtain ⟨hc4, hf4⟩ := bcell hb4; have hx4 : wr.heap.size < w4.heap.size := (by omega))
          | (go_at_call 18; (with_reducible refine (room2_any c2 l2 u2 c kc ms _ (HFr.out.mono (by (repeat' (first | with_reducible exact Below.refl _ _ | with_reducible assumption | with_reducible refine Below.drew ?_ | with_reducible refine below_drewN' ?_ _ | with_reducible refine Below.alloc ?_ ?_ _ | with_reducible refine Below.setCell ?_ ?_ _ | with_reducible refine below_step (by assumption) ?_ ?_ | omega | (simp; done) | (simp; omega))))) Hok.out.amt2 hm).mono ?_); rw [Hr.out]; rintro e w5 ⟨rfl, hb5⟩; have hz5 := hb5.size; (try simp at hz5)))
        go_roundw
        case rel => exact ⟨3, by omega, by go_num, by first | (rw [He.out]; done) | (rw [He.out]; simp), HBr.out.trans (by (repeat' (first | with_reducible exact Below.refl _ _ | with_reducible assumption | with_reducible refine Below.drew ?_ | with_reducible refine below_drewN' ?_ _ | with_reducible refine Below.alloc ?_ ?_ _ | with_reducible refine Below.setCell ?_ ?_ _ | with_reducible refine below_step (by assumption) ?_ ?_ | omega | (simp; done) | (simp; omega))))⟩
        case measure => simp [intOf]
    · obtain ⟨n3, hn3⟩ : ∃ n, stepsTo c0 c1 c2 ms like 3 = n := ⟨_, rfl⟩
      have hv := Hv.out
      rw [hn3] at hv ⊢
      have Hv3 := Lib.hid hv
      clear hn3 hv
      by_cases hneg : n3 < 0
      · have Hv4 := Lib.hid (Hv3.out.trans (if_pos hneg))
        go_wp2
        go_ret
        exact ⟨by rw [Hv4.out]; rfl, HB.out.trans (HBr.out.mono (by omega))⟩
      · have Hv4 := Lib.hid (Hv3.out.trans (if_neg hneg))
        go_wp2
        go_ret
        exact ⟨by rw [Hv4.out]; rfl, HB.out.trans (HBr.out.mono (by omega))⟩
end Go.Proofs.Ytdlebpobkkndaaa
