/-
  CloudPlays' does: one thing is done to both.
-/
import Derived.Test.YtcfdejlbchdciaaGreatDoorClPs
import Derived.Test.YtcfdejlbchdciaaGreatDoorClA
import Derived.Deep.RegionHeld3
namespace Go.Proofs.YtcfdejlbchdciaaGreatDoor
open Go.ChangeShapes Go.WideShapes Go.ChangeAt Go.RowKit
set_option linter.unusedVariables false
set_option linter.unusedSimpArgs false

/-- What one thing that is done leaves. -/
def Did (w0 : World) (c : Nat) (ga : Option Addr) (gka : Nat) (Gr : List Gp) (m : Nat) (e : Ending) (w' : World) : Prop :=
  ∃ b s, e = .returned (.tuple #[.pointer (some ⟨b, 0, none⟩), .bool true]) ∧ P2 w0 b c ga gka Gr s s (m + 1) (m + 1) [] w'

set_option maxRecDepth 100000 in
set_option maxHeartbeats 8000000 in
theorem does_any (w0 : World) (b c m : Nat) (ga : Option Addr) (gka : Nat) (Gr : List Gp) (s : CS) (o : Opn) (w : World) (h : P2 w0 b c ga gka Gr s s m m [] w) (hm : m ≤ 50) (hT : Tab10 w0) (ho : OpIn w0 o) :
    Calls Tryz.prog 8 #[.pointer (some ⟨b, 0, none⟩), .pointer (some ⟨c, 0, none⟩), .agg #[.int .i64 o.k, .string o.nm, .string o.gp, .int .i64 o.n, .bool o.is]] w (Did w0 c ga gka Gr m) := by
  obtain ⟨k, nm, gp, n, is⟩ := o
  dsimp only
  have hb1 : Below w.heap.size w (w.alloc (.cells #[.int .i64 k, .string nm, .string gp, .int .i64 n, .bool is] 36)) := (Below.refl _ _).alloc (Nat.le_refl _) _
  have HPW := Lib.hid (show P2 w0 b c ga gka Gr s s m m [w.heap.size] (w.alloc (.cells #[.int .i64 k, .string nm, .string gp, .int .i64 n, .bool is] 36)) from (h.add hb1 (F' := [w.heap.size]) fun z hz => by
    obtain rfl := List.mem_singleton.1 hz
    exact ⟨Nat.le_refl _, by simp⟩))
  have HXW := Lib.hid (Blk.new w 36 [.int .i64 k, .string nm, .string gp, .int .i64 n, .bool is])
  have HT := Lib.hid hT
  have HO := Lib.hid ho
  clear h hT ho hb1
  by_cases z : k = 0
  · skip
    subst z
    go_enter Tryz.func8, Tryz.ntmps8
    go_wp2
    obtain ⟨X, hXe⟩ : ∃ X, X = w.heap.size := ⟨_, rfl⟩
    obtain ⟨W, hW⟩ : ∃ W, W = w.alloc (.cells #[.int .i64 0, .string nm, .string gp, .int .i64 n, .bool is] 36) := ⟨_, rfl⟩
    (try rw [← hW])
    (try rw [← hXe])
    rw [← hW, ← hXe] at HPW HXW
    clear hW hXe
    have hX := HXW.out.lt
    (have x1 : W.cell? ⟨X, 2, none⟩ = some (.string gp) := HXW.out.cell 2; have x2 : W.cell? ⟨X, 3, none⟩ = some (.int .i64 n) := HXW.out.cell 3)
    obtain ⟨q, hq⟩ : ∃ q, (s.inc gp n) = q := ⟨_, rfl⟩
    have F1 := Lib.hid (show ∀ V', Below W.heap.size W V' → Calls Tryz.prog 13 #[.pointer (some ⟨b, 0, none⟩), .string gp, .int .i64 n] V' (fun e w' => e = .returned (.int .i64 q.2) ∧ P2 w0 b c ga gka Gr q.1 s (m + 1) m [X] w' ∧ Kept [X] V' w') from fun V' hb => by (have h := (((HPW.out.below hb).inc1 (by omega) HT.out gp n HO.out.1 HO.out.2)); rw [hq] at h; exact h))
    have F2 := Lib.hid (show ∀ V', P2 w0 b c ga gka Gr q.1 s (m + 1) m [X] V' → Calls Tryz.prog 25 #[.pointer (some ⟨c, 0, none⟩), .string gp, .int .i64 n] V' (fun e w' => e = .returned (.int .i64 q.2) ∧ P2 w0 b c ga gka Gr q.1 q.1 (m + 1) (m + 1) [X] w' ∧ Kept [X] V' w') from fun V' hP => by (have h := ((hP.inc2 (by omega) gp n HO.out.1 HO.out.2)); rw [hq] at h; exact h))
    clear hq
    go_region_held3 (fun w' => w'.cell? ⟨X, 2, none⟩ = some (.string gp) ∧ w'.cell? ⟨X, 3, none⟩ = some (.int .i64 n))
      (first | exact ⟨y1, y2⟩ | go_keep | exact ⟨v1, v2⟩)
      ((first | (go_at_call 13; refine (F1.out _ (by (repeat' (first | with_reducible exact Below.refl _ _ | with_reducible assumption | with_reducible refine Below.drew ?_ | with_reducible refine below_drewN' ?_ _ | with_reducible refine Below.alloc ?_ ?_ _ | with_reducible refine Below.setCell ?_ ?_ _ | with_reducible refine below_step (by assumption) ?_ ?_ | omega | (simp; done) | (simp; omega))))).mono ?_; rintro e w3 ⟨rfl, hP3, hK3⟩; have HP3 := Lib.hid hP3; have HX3 := Lib.hid ((HXW.out.below (show Below W.heap.size W _ by (repeat' (first | with_reducible exact Below.refl _ _ | with_reducible assumption | with_reducible refine Below.drew ?_ | with_reducible refine below_drewN' ?_ _ | with_reducible refine Below.alloc ?_ ?_ _ | with_reducible refine Below.setCell ?_ ?_ _ | with_reducible refine below_step (by assumption) ?_ ?_ | omega | (simp; done) | (simp; omega))))).same (hK3.2 X (by simp))); (have v1 : w3.cell? ⟨X, 2, none⟩ = some (.string gp) := HX3.out.cell 2; have v2 : w3.cell? ⟨X, 3, none⟩ = some (.int .i64 n) := HX3.out.cell 3); clear hP3 hK3) | (go_at_call 25; refine (F2.out _ HP3.out).mono ?_; rintro e V ⟨rfl, hP4, hK4⟩; have HP4 := Lib.hid hP4; have HX4 := Lib.hid (HX3.out.same (hK4.2 X (by simp))); (have y1 : V.cell? ⟨X, 2, none⟩ = some (.string gp) := HX4.out.cell 2; have y2 : V.cell? ⟨X, 3, none⟩ = some (.int .i64 n) := HX4.out.cell 3); clear hP4 hK4)))
    go_wp2
    go_ret2
    exact ⟨b, q.1, rfl, HP4.out.drop (fun z hz => by cases hz)⟩
  · have n0 : (k == 0) = false := by simpa using z
    clear z
    by_cases z : k = 1
    · skip
      subst z
      go_enter Tryz.func8, Tryz.ntmps8
      go_wp2
      obtain ⟨X, hXe⟩ : ∃ X, X = w.heap.size := ⟨_, rfl⟩
      obtain ⟨W, hW⟩ : ∃ W, W = w.alloc (.cells #[.int .i64 1, .string nm, .string gp, .int .i64 n, .bool is] 36) := ⟨_, rfl⟩
      (try rw [← hW])
      (try rw [← hXe])
      rw [← hW, ← hXe] at HPW HXW
      clear hW hXe
      have hX := HXW.out.lt
      (have x1 : W.cell? ⟨X, 1, none⟩ = some (.string nm) := HXW.out.cell 1)
      obtain ⟨q, hq⟩ : ∃ q, (s.del nm) = q := ⟨_, rfl⟩
      have F1 := Lib.hid (show ∀ V', Below W.heap.size W V' → Calls Tryz.prog 15 #[.pointer (some ⟨b, 0, none⟩), .string nm] V' (fun e w' => e = .returned (.int .i64 q.2) ∧ P2 w0 b c ga gka Gr q.1 s (m + 1) m [X] w' ∧ Kept [X] V' w') from fun V' hb => by (have h := (((HPW.out.below hb).del1 (by omega) nm)); rw [hq] at h; exact h))
      have F2 := Lib.hid (show ∀ V', P2 w0 b c ga gka Gr q.1 s (m + 1) m [X] V' → Calls Tryz.prog 26 #[.pointer (some ⟨c, 0, none⟩), .string nm] V' (fun e w' => e = .returned (.int .i64 q.2) ∧ P2 w0 b c ga gka Gr q.1 q.1 (m + 1) (m + 1) [X] w' ∧ Kept [X] V' w') from fun V' hP => by (have h := ((hP.del2 (by omega) nm)); rw [hq] at h; exact h))
      clear hq
      go_region_held3 (fun w' => w'.cell? ⟨X, 1, none⟩ = some (.string nm))
        (first | exact y1 | go_keep | exact v1)
        ((first | (go_at_call 15; refine (F1.out _ (by (repeat' (first | with_reducible exact Below.refl _ _ | with_reducible assumption | with_reducible refine Below.drew ?_ | with_reducible refine below_drewN' ?_ _ | with_reducible refine Below.alloc ?_ ?_ _ | with_reducible refine Below.setCell ?_ ?_ _ | with_reducible refine below_step (by assumption) ?_ ?_ | omega | (simp; done) | (simp; omega))))).mono ?_; rintro e w3 ⟨rfl, hP3, hK3⟩; have HP3 := Lib.hid hP3; have HX3 := Lib.hid ((HXW.out.below (show Below W.heap.size W _ by (repeat' (first | with_reducible exact Below.refl _ _ | with_reducible assumption | with_reducible refine Below.drew ?_ | with_reducible refine below_drewN' ?_ _ | with_reducible refine Below.alloc ?_ ?_ _ | with_reducible refine Below.setCell ?_ ?_ _ | with_reducible refine below_step (by assumption) ?_ ?_ | omega | (simp; done) | (simp; omega))))).same (hK3.2 X (by simp))); (have v1 : w3.cell? ⟨X, 1, none⟩ = some (.string nm) := HX3.out.cell 1); clear hP3 hK3) | (go_at_call 26; refine (F2.out _ HP3.out).mono ?_; rintro e V ⟨rfl, hP4, hK4⟩; have HP4 := Lib.hid hP4; have HX4 := Lib.hid (HX3.out.same (hK4.2 X (by simp))); (have y1 : V.cell? ⟨X, 1, none⟩ = some (.string nm) := HX4.out.cell 1); clear hP4 hK4)))
      go_wp2
      go_ret2
      exact ⟨b, q.1, rfl, HP4.out.drop (fun z hz => by cases hz)⟩
    · have n1 : (k == 1) = false := by simpa using z
      clear z
      by_cases z : k = 2
      · skip
        subst z
        go_enter Tryz.func8, Tryz.ntmps8
        go_wp2
        obtain ⟨X, hXe⟩ : ∃ X, X = w.heap.size := ⟨_, rfl⟩
        obtain ⟨W, hW⟩ : ∃ W, W = w.alloc (.cells #[.int .i64 2, .string nm, .string gp, .int .i64 n, .bool is] 36) := ⟨_, rfl⟩
        (try rw [← hW])
        (try rw [← hXe])
        rw [← hW, ← hXe] at HPW HXW
        clear hW hXe
        have hX := HXW.out.lt
        (have x1 : W.cell? ⟨X, 2, none⟩ = some (.string gp) := HXW.out.cell 2; have x2 : W.cell? ⟨X, 3, none⟩ = some (.int .i64 n) := HXW.out.cell 3)
        obtain ⟨q, hq⟩ : ∃ q, (s.dec gp n) = q := ⟨_, rfl⟩
        have F1 := Lib.hid (show ∀ V', Below W.heap.size W V' → Calls Tryz.prog 19 #[.pointer (some ⟨b, 0, none⟩), .string gp, .int .i64 n] V' (fun e w' => e = .returned (.int .i64 q.2) ∧ P2 w0 b c ga gka Gr q.1 s (m + 1) m [X] w' ∧ Kept [X] V' w') from fun V' hb => by (have h := (((HPW.out.below hb).dec1 (by omega) gp n HO.out.1 HO.out.2)); rw [hq] at h; exact h))
        have F2 := Lib.hid (show ∀ V', P2 w0 b c ga gka Gr q.1 s (m + 1) m [X] V' → Calls Tryz.prog 27 #[.pointer (some ⟨c, 0, none⟩), .string gp, .int .i64 n] V' (fun e w' => e = .returned (.int .i64 q.2) ∧ P2 w0 b c ga gka Gr q.1 q.1 (m + 1) (m + 1) [X] w' ∧ Kept [X] V' w') from fun V' hP => by (have h := ((hP.dec2 (by omega) gp n HO.out.1 HO.out.2)); rw [hq] at h; exact h))
        clear hq
        go_region_held3 (fun w' => w'.cell? ⟨X, 2, none⟩ = some (.string gp) ∧ w'.cell? ⟨X, 3, none⟩ = some (.int .i64 n))
          (first | exact ⟨y1, y2⟩ | go_keep | exact ⟨v1, v2⟩)
          ((first | (go_at_call 19; refine (F1.out _ (by (repeat' (first | with_reducible exact Below.refl _ _ | with_reducible assumption | with_reducible refine Below.drew ?_ | with_reducible refine below_drewN' ?_ _ | with_reducible refine Below.alloc ?_ ?_ _ | with_reducible refine Below.setCell ?_ ?_ _ | with_reducible refine below_step (by assumption) ?_ ?_ | omega | (simp; done) | (simp; omega))))).mono ?_; rintro e w3 ⟨rfl, hP3, hK3⟩; have HP3 := Lib.hid hP3; have HX3 := Lib.hid ((HXW.out.below (show Below W.heap.size W _ by (repeat' (first | with_reducible exact Below.refl _ _ | with_reducible assumption | with_reducible refine Below.drew ?_ | with_reducible refine below_drewN' ?_ _ | with_reducible refine Below.alloc ?_ ?_ _ | with_reducible refine Below.setCell ?_ ?_ _ | with_reducible refine below_step (by assumption) ?_ ?_ | omega | (simp; done) | (simp; omega))))).same (hK3.2 X (by simp))); (have v1 : w3.cell? ⟨X, 2, none⟩ = some (.string gp) := HX3.out.cell 2; have v2 : w3.cell? ⟨X, 3, none⟩ = some (.int .i64 n) := HX3.out.cell 3); clear hP3 hK3) | (go_at_call 27; refine (F2.out _ HP3.out).mono ?_; rintro e V ⟨rfl, hP4, hK4⟩; have HP4 := Lib.hid hP4; have HX4 := Lib.hid (HX3.out.same (hK4.2 X (by simp))); (have y1 : V.cell? ⟨X, 2, none⟩ = some (.string gp) := HX4.out.cell 2; have y2 : V.cell? ⟨X, 3, none⟩ = some (.int .i64 n) := HX4.out.cell 3); clear hP4 hK4)))
        go_wp2
        go_ret2
        exact ⟨b, q.1, rfl, HP4.out.drop (fun z hz => by cases hz)⟩
      · have n2 : (k == 2) = false := by simpa using z
        clear z
        by_cases z : k = 3
        · skip
          subst z
          go_enter Tryz.func8, Tryz.ntmps8
          go_wp2
          obtain ⟨X, hXe⟩ : ∃ X, X = w.heap.size := ⟨_, rfl⟩
          obtain ⟨W, hW⟩ : ∃ W, W = w.alloc (.cells #[.int .i64 3, .string nm, .string gp, .int .i64 n, .bool is] 36) := ⟨_, rfl⟩
          (try rw [← hW])
          (try rw [← hXe])
          rw [← hW, ← hXe] at HPW HXW
          clear hW hXe
          have hX := HXW.out.lt
          (have x1 : W.cell? ⟨X, 2, none⟩ = some (.string gp) := HXW.out.cell 2; have x2 : W.cell? ⟨X, 4, none⟩ = some (.bool is) := HXW.out.cell 4)
          obtain ⟨q, hq⟩ : ∃ q, (s.brk gp is) = q := ⟨_, rfl⟩
          have F1 := Lib.hid (show ∀ V', Below W.heap.size W V' → Calls Tryz.prog 28 #[.pointer (some ⟨b, 0, none⟩), .string gp, .bool is] V' (fun e w' => e = .returned (.int .i64 q.2) ∧ P2 w0 b c ga gka Gr q.1 s (m + 1) m [X] w' ∧ Kept [X] V' w') from fun V' hb => by (have h := (((HPW.out.below hb).brk1 (by omega) gp is)); rw [hq] at h; exact h))
          have F2 := Lib.hid (show ∀ V', P2 w0 b c ga gka Gr q.1 s (m + 1) m [X] V' → Calls Tryz.prog 29 #[.pointer (some ⟨c, 0, none⟩), .string gp, .bool is] V' (fun e w' => e = .returned (.int .i64 q.2) ∧ P2 w0 b c ga gka Gr q.1 q.1 (m + 1) (m + 1) [X] w' ∧ Kept [X] V' w') from fun V' hP => by (have h := ((hP.brk2 (by omega) gp is)); rw [hq] at h; exact h))
          clear hq
          go_region_held3 (fun w' => w'.cell? ⟨X, 2, none⟩ = some (.string gp) ∧ w'.cell? ⟨X, 4, none⟩ = some (.bool is))
            (first | exact ⟨y1, y2⟩ | go_keep | exact ⟨v1, v2⟩)
            ((first | (go_at_call 28; refine (F1.out _ (by (repeat' (first | with_reducible exact Below.refl _ _ | with_reducible assumption | with_reducible refine Below.drew ?_ | with_reducible refine below_drewN' ?_ _ | with_reducible refine Below.alloc ?_ ?_ _ | with_reducible refine Below.setCell ?_ ?_ _ | with_reducible refine below_step (by assumption) ?_ ?_ | omega | (simp; done) | (simp; omega))))).mono ?_; rintro e w3 ⟨rfl, hP3, hK3⟩; have HP3 := Lib.hid hP3; have HX3 := Lib.hid ((HXW.out.below (show Below W.heap.size W _ by (repeat' (first | with_reducible exact Below.refl _ _ | with_reducible assumption | with_reducible refine Below.drew ?_ | with_reducible refine below_drewN' ?_ _ | with_reducible refine Below.alloc ?_ ?_ _ | with_reducible refine Below.setCell ?_ ?_ _ | with_reducible refine below_step (by assumption) ?_ ?_ | omega | (simp; done) | (simp; omega))))).same (hK3.2 X (by simp))); (have v1 : w3.cell? ⟨X, 2, none⟩ = some (.string gp) := HX3.out.cell 2; have v2 : w3.cell? ⟨X, 4, none⟩ = some (.bool is) := HX3.out.cell 4); clear hP3 hK3) | (go_at_call 29; refine (F2.out _ HP3.out).mono ?_; rintro e V ⟨rfl, hP4, hK4⟩; have HP4 := Lib.hid hP4; have HX4 := Lib.hid (HX3.out.same (hK4.2 X (by simp))); (have y1 : V.cell? ⟨X, 2, none⟩ = some (.string gp) := HX4.out.cell 2; have y2 : V.cell? ⟨X, 4, none⟩ = some (.bool is) := HX4.out.cell 4); clear hP4 hK4)))
          go_wp2
          go_ret2
          exact ⟨b, q.1, rfl, HP4.out.drop (fun z hz => by cases hz)⟩
        · have n3 : (k == 3) = false := by simpa using z
          clear z
          by_cases z : k = 4
          · skip
            subst z
            go_enter Tryz.func8, Tryz.ntmps8
            go_wp2
            obtain ⟨X, hXe⟩ : ∃ X, X = w.heap.size := ⟨_, rfl⟩
            obtain ⟨W, hW⟩ : ∃ W, W = w.alloc (.cells #[.int .i64 4, .string nm, .string gp, .int .i64 n, .bool is] 36) := ⟨_, rfl⟩
            (try rw [← hW])
            (try rw [← hXe])
            rw [← hW, ← hXe] at HPW HXW
            clear hW hXe
            have hX := HXW.out.lt
            (have x1 : W.cell? ⟨X, 1, none⟩ = some (.string nm) := HXW.out.cell 1)
            obtain ⟨q, hq⟩ : ∃ q, (s.fail nm) = q := ⟨_, rfl⟩
            have F1 := Lib.hid (show ∀ V', Below W.heap.size W V' → Calls Tryz.prog 30 #[.pointer (some ⟨b, 0, none⟩), .string nm] V' (fun e w' => e = .returned (.int .i64 q.2) ∧ P2 w0 b c ga gka Gr q.1 s (m + 1) m [X] w' ∧ Kept [X] V' w') from fun V' hb => by (have h := (((HPW.out.below hb).fail1 (by omega) nm)); rw [hq] at h; exact h))
            have F2 := Lib.hid (show ∀ V', P2 w0 b c ga gka Gr q.1 s (m + 1) m [X] V' → Calls Tryz.prog 31 #[.pointer (some ⟨c, 0, none⟩), .string nm] V' (fun e w' => e = .returned (.int .i64 q.2) ∧ P2 w0 b c ga gka Gr q.1 q.1 (m + 1) (m + 1) [X] w' ∧ Kept [X] V' w') from fun V' hP => by (have h := ((hP.fail2 (by omega) nm)); rw [hq] at h; exact h))
            clear hq
            go_region_held3 (fun w' => w'.cell? ⟨X, 1, none⟩ = some (.string nm))
              (first | exact y1 | go_keep | exact v1)
              ((first | (go_at_call 30; refine (F1.out _ (by (repeat' (first | with_reducible exact Below.refl _ _ | with_reducible assumption | with_reducible refine Below.drew ?_ | with_reducible refine below_drewN' ?_ _ | with_reducible refine Below.alloc ?_ ?_ _ | with_reducible refine Below.setCell ?_ ?_ _ | with_reducible refine below_step (by assumption) ?_ ?_ | omega | (simp; done) | (simp; omega))))).mono ?_; rintro e w3 ⟨rfl, hP3, hK3⟩; have HP3 := Lib.hid hP3; have HX3 := Lib.hid ((HXW.out.below (show Below W.heap.size W _ by (repeat' (first | with_reducible exact Below.refl _ _ | with_reducible assumption | with_reducible refine Below.drew ?_ | with_reducible refine below_drewN' ?_ _ | with_reducible refine Below.alloc ?_ ?_ _ | with_reducible refine Below.setCell ?_ ?_ _ | with_reducible refine below_step (by assumption) ?_ ?_ | omega | (simp; done) | (simp; omega))))).same (hK3.2 X (by simp))); (have v1 : w3.cell? ⟨X, 1, none⟩ = some (.string nm) := HX3.out.cell 1); clear hP3 hK3) | (go_at_call 31; refine (F2.out _ HP3.out).mono ?_; rintro e V ⟨rfl, hP4, hK4⟩; have HP4 := Lib.hid hP4; have HX4 := Lib.hid (HX3.out.same (hK4.2 X (by simp))); (have y1 : V.cell? ⟨X, 1, none⟩ = some (.string nm) := HX4.out.cell 1); clear hP4 hK4)))
            go_wp2
            go_ret2
            exact ⟨b, q.1, rfl, HP4.out.drop (fun z hz => by cases hz)⟩
          · have n4 : (k == 4) = false := by simpa using z
            clear z
            by_cases z : k = 5
            · subst z
              have F1 := Lib.hid (HPW.out.tick1 (by omega))
              go_enter Tryz.func8, Tryz.ntmps8
              go_wp2_with (first
                | (go_at_call 14; (with_reducible refine F1.out.mono ?_); rintro e w3 ⟨rfl, hP3, hK3⟩; have HP3 := Lib.hid hP3; clear hP3 hK3)
                | (go_at_call 32; (with_reducible refine (HP3.out.tick2 (by omega)).mono ?_); rintro e w4 ⟨rfl, hP4, hK4⟩; have HP4 := Lib.hid hP4; clear hP4 hK4))
              go_ret2
              exact ⟨b, s.tick, rfl, HP4.out.drop (fun z hz => by cases hz)⟩
            · have n5 : (k == 5) = false := by simpa using z
              clear z
              have F1 := Lib.hid (HPW.out.copy (by omega))
              have hz0 := HPW.out.lts.2.2.2.2
              have HOk := Lib.hid (HPW.out.ok1.up (Nat.le_succ m))
              go_enter Tryz.func8, Tryz.ntmps8
              go_wp2_with (first
                | (go_at_call 33; (with_reducible refine F1.out.mono ?_); rintro e w3 ⟨X2, rfl, hA, hP3⟩; have HP3 := Lib.hid hP3; have HA := Lib.hid hA; clear hA hP3)
                | (go_at_call 14; (with_reducible refine (HP3.out.tick1 (by omega)).mono ?_); rintro e w4 ⟨rfl, hP4, hK4⟩; have HP4 := Lib.hid hP4; have HK4 := Lib.hid hK4; clear hP4 hK4))
              obtain ⟨N0, hN0⟩ : ∃ N0, N0 = (w.alloc (.cells #[.int .i64 k, .string nm, .string gp, .int .i64 n, .bool is] 36)).heap.size := ⟨_, rfl⟩
              obtain ⟨FF, hFF⟩ : ∃ FF, FF = List.range' N0 (w3.heap.size - N0) ++ [w.heap.size] := ⟨_, rfl⟩
              rw [← hN0, ← hFF] at HP3 HP4 HK4
              rw [← hN0] at HA hz0
              have HFF := Lib.hid (show ∀ z, N0 ≤ z → z < w3.heap.size → z ∈ FF from fun z z1 z2 => by
                rw [hFF]
                exact List.mem_append.2 (.inl (List.mem_range'_1.2 ⟨z1, by omega⟩)))
              obtain ⟨gn, hgn⟩ : ∃ gn, Gr.length = gn := ⟨_, rfl⟩
              have hg16 : gn ≤ 16 := by rw [← hgn]; exact HP3.out.len
              have Hgn := Lib.hid hgn
              clear hN0 hFF hgn HPW HXW F1
              go_loopw [9] (fun i wr => ∃ (j : Nat) (s' : CS), j ≤ gn ∧ i = .int .i64 j ∧ P2 w0 b c ga gka Gr s' s (m + 1 + 2 * j) m FF wr ∧ Kept FF w3 wr) (fun i _ => gn - (intOf i).toNat)
              case atStart => exact ⟨0, _, Nat.zero_le _, rfl, HP4.out, HK4.out⟩
              case round =>
                clear HP4 HK4 HP3
                obtain ⟨j, s', hj, rfl, hP, hK⟩ := hrel
                have HP := Lib.hid hP
                have HK := Lib.hid hK
                have r0 := hP.rcell.1
                rw [Hgn.out] at r0
                have hbz := hP.lts
                clear hP hK
                by_cases hlt : j < gn
                · obtain ⟨g, p, qt, kt, gb, go, hg, hp, e4, d1, d0, d3, l1, l4⟩ := HP.out.at (j := j) (by rw [Hgn.out]; exact hlt)
                  subst e4
                  have hji : (j : Int) < (gn : Int) := by omega
                  have hj0 : (0 : Int) ≤ (j : Int) := by omega
                  have HG := Lib.hid (show ∀ V, Below w0.heap.size wr V → V.cell? ⟨gb, go + j * 15, none⟩ = some (.string g.nm) from fun V hV => (hV.cell (p := ⟨gb, go + j * 15, none⟩) l4).trans d3)
                  clear hg hp d1 d0 l1
                  go_wp2_with (first
                    | (go_at_call 13; (with_reducible refine (HP.out.inc1 (by omega) HT.out g.nm 1 (by decide) (by decide)).mono ?_); rintro e w5 ⟨rfl, hP5, hK5⟩; have HP5 := Lib.hid hP5; have HK5 := Lib.hid (HK.out.trans hK5); have v0 := hP5.rcell.1; rw [Hgn.out] at v0; have v1 : w5.cell? ⟨gb, go + j * 15, none⟩ = some (.string g.nm) := (hP5.bl.cell (p := ⟨gb, go + j * 15, none⟩) l4).trans ((HP.out.bl.cell (p := ⟨gb, go + j * 15, none⟩) l4).symm.trans d3); clear hP5 hK5)
                    | (go_at_call 28; (with_reducible refine (HP5.out.brk1 (by omega) g.nm true).mono ?_); rintro e w6 ⟨rfl, hP6, hK6⟩; have HP6 := Lib.hid hP6; have HK6 := Lib.hid (HK5.out.trans hK6); clear hP6 hK6))
                  go_roundw
                  case rel => exact ⟨j + 1, _, by omega, by go_num, HP6.out, HK6.out⟩
                  case measure => simp [intOf]; omega
                · obtain rfl : j = gn := by omega
                  go_wp2
                  go_ret2
                  exact ⟨X2, s, rfl, (HP.out.swap HA.out hz0 HFF.out HK.out.2 HK.out.1 HOk.out).up (Nat.le_refl _) (Nat.le_succ m)⟩
end Go.Proofs.YtcfdejlbchdciaaGreatDoor
