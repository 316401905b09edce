/-
  Words of the document.
-/
import Derived.Test.YtmkdfcggjlhcpaaGreatDoorMBx
namespace Go.Proofs.YtmkdfcggjlhcpaaGreatDoor
open Go.RowKit
set_option linter.unusedVariables false
set_option linter.unusedSimpArgs false
theorem wrap_in {x : Int} (h : -9223372036854775808 ≤ x) (h' : x < 9223372036854775808) : IntKind.i64.wrap x = x := by simp [IntKind.wrap, IntKind.bits, IntKind.signed]; omega
theorem str_ixk (s : ByteArray) (p k b : Nat) (h : p + k < s.size) (hb : (s.get! (p + k)).toNat = b) (w : World) : (Instr.index 9 (.string s) (.int .i64 ((p : Int) + (k : Int)))).run Tryz.prog w = .ok (.int .u8 (b : Int)) w := by
  have := str_ix s (p + k) h w
  rw [hb, Int.natCast_add] at this
  exact this
theorem more_at (s : ByteArray) (p k : Nat) (w : World) : Calls Tryz.prog 77 #[.string s, .int .i64 ((p : Int) + (k : Int))] w fun e w' => e = .returned (.bool (moreB s (p + k))) ∧ Below w.heap.size w w' := by
  have := more_any s (p + k) w
  rw [Int.natCast_add] at this
  exact this
set_option maxRecDepth 100000 in
set_option maxHeartbeats 4000000 in
theorem refrune_any (s : ByteArray) (p : Nat) (hp : p < s.size) (hs : s.size ≤ 1000000000) (w : World) :
    Calls Tryz.prog 61 #[.string s, .int .i64 (p : Int)] w fun e w' => e = .returned (.tuple #[.int .i64 (runeC s p), .int .i64 (runeW s p)]) ∧ Below w.heap.size w w' := by
  obtain ⟨b0, e0⟩ : ∃ b, (s.get! p).toNat = b := ⟨_, rfl⟩
  obtain ⟨b1, e1⟩ : ∃ b, (s.get! (p + 1)).toNat = b := ⟨_, rfl⟩
  obtain ⟨b2, e2⟩ : ∃ b, (s.get! (p + 2)).toNat = b := ⟨_, rfl⟩
  obtain ⟨b3, e3⟩ : ∃ b, (s.get! (p + 3)).toNat = b := ⟨_, rfl⟩
  have hx0 := fun w => str_ix s p hp w
  rw [e0] at hx0
  have hx1 : p + 1 < s.size → ∀ w : World, (Instr.index 9 (.string s) (.int .i64 ((p : Int) + 1))).run Tryz.prog w = .ok (.int .u8 (b1 : Int)) w := fun h w => str_ixk s p 1 b1 h e1 w
  have hx2 : p + 2 < s.size → ∀ w : World, (Instr.index 9 (.string s) (.int .i64 ((p : Int) + 2))).run Tryz.prog w = .ok (.int .u8 (b2 : Int)) w := fun h w => str_ixk s p 2 b2 h e2 w
  have hx3 : p + 3 < s.size → ∀ w : World, (Instr.index 9 (.string s) (.int .i64 ((p : Int) + 3))).run Tryz.prog w = .ok (.int .u8 (b3 : Int)) w := fun h w => str_ixk s p 3 b3 h e3 w
  have M1 := Lib.hid (show ∀ w : World, Calls Tryz.prog 77 #[.string s, .int .i64 ((p : Int) + 1)] w fun e w' => e = .returned (.bool (moreB s (p + 1))) ∧ Below w.heap.size w w' from fun w => more_at s p 1 w)
  have M2 := Lib.hid (show ∀ w : World, Calls Tryz.prog 77 #[.string s, .int .i64 ((p : Int) + 2)] w fun e w' => e = .returned (.bool (moreB s (p + 2))) ∧ Below w.heap.size w w' from fun w => more_at s p 2 w)
  have M3 := Lib.hid (show ∀ w : World, Calls Tryz.prog 77 #[.string s, .int .i64 ((p : Int) + 3)] w fun e w' => e = .returned (.bool (moreB s (p + 3))) ∧ Below w.heap.size w w' from fun w => more_at s p 3 w)
  have hc := rune_cases s p b0 b1 b2 b3 e0 e1 e2 e3
  clear e0 e1 e2 e3
  rcases hc with ⟨h1, r1, r2⟩ | ⟨h1, h2, r1, r2⟩ | ⟨h1, h2, m1, r1, r2⟩ | ⟨h1, h2, m1, h3, h4, h5, h6, r1, r2⟩ | ⟨h1, h2, m1, h3, h4, h5, h6, r1, r2⟩ | hc
  all_goals first | rw [r1, r2] | skip
  all_goals first | clear r1 r2 | skip
  · go_enter Tryz.func61, Tryz.ntmps61
    go_wp2
    go_ret2
    exact ⟨rfl, by (repeat' (first | with_reducible exact Below.refl _ _ | with_reducible assumption | with_reducible refine Below.drew ?_ | with_reducible refine below_drewN' ?_ _ | with_reducible refine Below.alloc ?_ ?_ _ | with_reducible refine Below.setCell ?_ ?_ _ | with_reducible refine below_step (by assumption) ?_ ?_ | omega | (simp; done) | (simp; omega)))⟩
  · go_enter Tryz.func61, Tryz.ntmps61
    go_wp2
    go_ret2
    exact ⟨rfl, by (repeat' (first | with_reducible exact Below.refl _ _ | with_reducible assumption | with_reducible refine Below.drew ?_ | with_reducible refine below_drewN' ?_ _ | with_reducible refine Below.alloc ?_ ?_ _ | with_reducible refine Below.setCell ?_ ?_ _ | with_reducible refine below_step (by assumption) ?_ ?_ | omega | (simp; done) | (simp; omega)))⟩
  · go_enter Tryz.func61, Tryz.ntmps61
    go_wp2_with (first | ((with_reducible refine (M1.out _).mono ?_); rw [m1]; rintro e w5 ⟨rfl, hb5⟩; have hz5 := hb5.size) | ((with_reducible refine (M2.out _).mono ?_); rw [m2]; rintro e w6 ⟨rfl, hb6⟩; have hz6 := hb6.size) | ((with_reducible refine (M3.out _).mono ?_); rw [m3]; rintro e w7 ⟨rfl, hb7⟩; have hz7 := hb7.size))
    go_ret2
    exact ⟨rfl, by (repeat' (first | with_reducible exact Below.refl _ _ | with_reducible assumption | with_reducible refine Below.drew ?_ | with_reducible refine below_drewN' ?_ _ | with_reducible refine Below.alloc ?_ ?_ _ | with_reducible refine Below.setCell ?_ ?_ _ | with_reducible refine below_step (by assumption) ?_ ?_ | omega | (simp; done) | (simp; omega)))⟩
  · go_enter Tryz.func61, Tryz.ntmps61
    go_wp2_with (first | ((with_reducible refine (M1.out _).mono ?_); rw [m1]; rintro e w5 ⟨rfl, hb5⟩; have hz5 := hb5.size) | ((with_reducible refine (M2.out _).mono ?_); rw [m2]; rintro e w6 ⟨rfl, hb6⟩; have hz6 := hb6.size) | ((with_reducible refine (M3.out _).mono ?_); rw [m3]; rintro e w7 ⟨rfl, hb7⟩; have hz7 := hb7.size))
    go_ret2
    exact ⟨rfl, by (repeat' (first | with_reducible exact Below.refl _ _ | with_reducible assumption | with_reducible refine Below.drew ?_ | with_reducible refine below_drewN' ?_ _ | with_reducible refine Below.alloc ?_ ?_ _ | with_reducible refine Below.setCell ?_ ?_ _ | with_reducible refine below_step (by assumption) ?_ ?_ | omega | (simp; done) | (simp; omega)))⟩
  · go_enter Tryz.func61, Tryz.ntmps61
    go_wp2_with (first | ((with_reducible refine (M1.out _).mono ?_); rw [m1]; rintro e w5 ⟨rfl, hb5⟩; have hz5 := hb5.size) | ((with_reducible refine (M2.out _).mono ?_); rw [m2]; rintro e w6 ⟨rfl, hb6⟩; have hz6 := hb6.size) | ((with_reducible refine (M3.out _).mono ?_); rw [m3]; rintro e w7 ⟨rfl, hb7⟩; have hz7 := hb7.size))
    go_ret2
    exact ⟨rfl, by (repeat' (first | with_reducible exact Below.refl _ _ | with_reducible assumption | with_reducible refine Below.drew ?_ | with_reducible refine below_drewN' ?_ _ | with_reducible refine Below.alloc ?_ ?_ _ | with_reducible refine Below.setCell ?_ ?_ _ | with_reducible refine below_step (by assumption) ?_ ?_ | omega | (simp; done) | (simp; omega)))⟩
  · rcases hc with ⟨h1, h2, m1, r1, r2⟩ | ⟨h1, h2, m1, m2, r1, r2⟩ | ⟨h1, h2, m1, m2, h3, h4, h5, h6, h7, v, rfl, ⟨h8, r1, r2⟩ | ⟨h8, h9, r1, r2⟩ | ⟨h8, h9, h10, r1, r2⟩ | ⟨h8, h9, h10, r1, r2⟩⟩ | ⟨h1, h2, m1, r1, r2⟩ | ⟨h1, h2, m1, m2, r1, r2⟩ | ⟨h1, h2, m1, m2, m3, r1, r2⟩ | ⟨h1, h2, m1, m2, m3, h3, h4, h5, h6, h7, h8, h11, v, rfl, ⟨h9, r1, r2⟩ | ⟨h9, h10, r1, r2⟩ | ⟨h9, h10, r1, r2⟩⟩ | ⟨h1, h1x, r1, r2⟩
    · skip
      rw [r1, r2]
      clear r1 r2
      go_enter Tryz.func61, Tryz.ntmps61
      go_wp2_with (first | ((with_reducible refine (M1.out _).mono ?_); rw [m1]; rintro e w5 ⟨rfl, hb5⟩; have hz5 := hb5.size) | ((with_reducible refine (M2.out _).mono ?_); rw [m2]; rintro e w6 ⟨rfl, hb6⟩; have hz6 := hb6.size) | ((with_reducible refine (M3.out _).mono ?_); rw [m3]; rintro e w7 ⟨rfl, hb7⟩; have hz7 := hb7.size))
      go_ret2
      exact ⟨rfl, by (repeat' (first | with_reducible exact Below.refl _ _ | with_reducible assumption | with_reducible refine Below.drew ?_ | with_reducible refine below_drewN' ?_ _ | with_reducible refine Below.alloc ?_ ?_ _ | with_reducible refine Below.setCell ?_ ?_ _ | with_reducible refine below_step (by assumption) ?_ ?_ | omega | (simp; done) | (simp; omega)))⟩
    · skip
      rw [r1, r2]
      clear r1 r2
      go_enter Tryz.func61, Tryz.ntmps61
      go_wp2_with (first | ((with_reducible refine (M1.out _).mono ?_); rw [m1]; rintro e w5 ⟨rfl, hb5⟩; have hz5 := hb5.size) | ((with_reducible refine (M2.out _).mono ?_); rw [m2]; rintro e w6 ⟨rfl, hb6⟩; have hz6 := hb6.size) | ((with_reducible refine (M3.out _).mono ?_); rw [m3]; rintro e w7 ⟨rfl, hb7⟩; have hz7 := hb7.size))
      go_ret2
      exact ⟨rfl, by (repeat' (first | with_reducible exact Below.refl _ _ | with_reducible assumption | with_reducible refine Below.drew ?_ | with_reducible refine below_drewN' ?_ _ | with_reducible refine Below.alloc ?_ ?_ _ | with_reducible refine Below.setCell ?_ ?_ _ | with_reducible refine below_step (by assumption) ?_ ?_ | omega | (simp; done) | (simp; omega)))⟩
    · skip
      rw [r1, r2]
      clear r1 r2
      have hy1 := hx1 (by omega)
      have hy2 := hx2 (by omega)
      first | (have hy3 := hx3 (by omega)) | skip
      clear hx1 hx2 hx3
      have f0 := wrap_in (x := (p : Int) + 1) (by omega) (by omega)
      have f1 := wrap_in (x := (p : Int) + 2) (by omega) (by omega)
      have f2 := wrap_in (x := (p : Int) + 3) (by omega) (by omega)
      have f3 := wrap_in (x := (b1 : Int)) (by omega) (by omega)
      have f4 := wrap_in (x := (b2 : Int)) (by omega) (by omega)
      have f5 := wrap_in (x := (b1 : Int) - 128) (by omega) (by omega)
      have f6 := wrap_in (x := ((b1 : Int) - 128) * 64) (by omega) (by omega)
      have f7 := wrap_in (x := (b0 : Int) - 224) (by omega) (by omega)
      have f8 := wrap_in (x := ((b0 : Int) - 224) * 4096) (by omega) (by omega)
      have f9 := wrap_in (x := ((b0 : Int) - 224) * 4096 + ((b1 : Int) - 128) * 64) (by omega) (by omega)
      have fa := wrap_in (x := ((b0 : Int) - 224) * 4096 + ((b1 : Int) - 128) * 64 + b2) (by omega) (by omega)
      have fb := wrap_in (x := ((b0 : Int) - 224) * 4096 + ((b1 : Int) - 128) * 64 + b2 - 128) (by omega) (by omega)
      have fc := wrap_in (x := (b0 : Int) - 240) (by omega) (by omega)
      have fd := wrap_in (x := ((b0 : Int) - 240) * 262144) (by omega) (by omega)
      have fe := wrap_in (x := ((b1 : Int) - 128) * 4096) (by omega) (by omega)
      have ff := wrap_in (x := ((b0 : Int) - 240) * 262144 + ((b1 : Int) - 128) * 4096) (by omega) (by omega)
      have fg := wrap_in (x := (b2 : Int) - 128) (by omega) (by omega)
      have fh := wrap_in (x := ((b2 : Int) - 128) * 64) (by omega) (by omega)
      have fi := wrap_in (x := ((b0 : Int) - 240) * 262144 + ((b1 : Int) - 128) * 4096 + ((b2 : Int) - 128) * 64) (by omega) (by omega)
      first | (have fj := wrap_in (x := (b3 : Int)) (by omega) (by omega)) | skip
      first | (have fk := wrap_in (x := ((b0 : Int) - 240) * 262144 + ((b1 : Int) - 128) * 4096 + ((b2 : Int) - 128) * 64 + b3) (by omega) (by omega)) | skip
      first | (have fl := wrap_in (x := ((b0 : Int) - 240) * 262144 + ((b1 : Int) - 128) * 4096 + ((b2 : Int) - 128) * 64 + b3 - 128) (by omega) (by omega)) | skip
      go_enter Tryz.func61, Tryz.ntmps61
      go_wp2_with (first | ((with_reducible refine (M1.out _).mono ?_); rw [m1]; rintro e w5 ⟨rfl, hb5⟩; have hz5 := hb5.size) | ((with_reducible refine (M2.out _).mono ?_); rw [m2]; rintro e w6 ⟨rfl, hb6⟩; have hz6 := hb6.size) | ((with_reducible refine (M3.out _).mono ?_); rw [m3]; rintro e w7 ⟨rfl, hb7⟩; have hz7 := hb7.size))
      have hcH := held_cell
      refine region_rel (by kernel_rfl) (by kernel_rfl) ?_
      repeat
        ((with_reducible refine relStep (fun K hK => ?_))
         (have HK := Lib.hid hK)
         clear hK
         (first
           | (apply relInl
              · intro r n hf
                have Hf := Lib.hid hf
                clear hf
                unfold relAt
                go_simp
                (first | (refine relUpon_val ?_ (Below.refl _ _); exact rfl) | exact rfl | (refine relUpon_enter ?_; fail))
              (simp only [Act.put, List.setIfInBounds_toArray, List.set_cons_zero, List.set_cons_succ])
              (with_reducible refine HK.out _ _ ?_)
              clear HK K)
           | (fail)))
      refine relNil ?_
      intro r8 n8 hx8
      clear hcH
      (try simp only [List.nil_append, List.cons_append, List.mem_cons, List.not_mem_nil, or_false, forall_eq_or_imp, forall_eq, false_implies, implies_true] at hx8)
      obtain ⟨w8, hb8⟩ := n8
      (try dsimp only)
      obtain ⟨hc8, hf8⟩ := bcell hb8
      have hz8 := hb8.size
      (try simp at hz8)
      go_wp2
      go_ret2
      exact ⟨rfl, by (repeat' (first | with_reducible exact Below.refl _ _ | with_reducible assumption | with_reducible refine Below.drew ?_ | with_reducible refine below_drewN' ?_ _ | with_reducible refine Below.alloc ?_ ?_ _ | with_reducible refine Below.setCell ?_ ?_ _ | with_reducible refine below_step (by assumption) ?_ ?_ | omega | (simp; done) | (simp; omega)))⟩
    · skip
      rw [r1, r2]
      clear r1 r2
      have hy1 := hx1 (by omega)
      have hy2 := hx2 (by omega)
      first | (have hy3 := hx3 (by omega)) | skip
      clear hx1 hx2 hx3
      have f0 := wrap_in (x := (p : Int) + 1) (by omega) (by omega)
      have f1 := wrap_in (x := (p : Int) + 2) (by omega) (by omega)
      have f2 := wrap_in (x := (p : Int) + 3) (by omega) (by omega)
      have f3 := wrap_in (x := (b1 : Int)) (by omega) (by omega)
      have f4 := wrap_in (x := (b2 : Int)) (by omega) (by omega)
      have f5 := wrap_in (x := (b1 : Int) - 128) (by omega) (by omega)
      have f6 := wrap_in (x := ((b1 : Int) - 128) * 64) (by omega) (by omega)
      have f7 := wrap_in (x := (b0 : Int) - 224) (by omega) (by omega)
      have f8 := wrap_in (x := ((b0 : Int) - 224) * 4096) (by omega) (by omega)
      have f9 := wrap_in (x := ((b0 : Int) - 224) * 4096 + ((b1 : Int) - 128) * 64) (by omega) (by omega)
      have fa := wrap_in (x := ((b0 : Int) - 224) * 4096 + ((b1 : Int) - 128) * 64 + b2) (by omega) (by omega)
      have fb := wrap_in (x := ((b0 : Int) - 224) * 4096 + ((b1 : Int) - 128) * 64 + b2 - 128) (by omega) (by omega)
      have fc := wrap_in (x := (b0 : Int) - 240) (by omega) (by omega)
      have fd := wrap_in (x := ((b0 : Int) - 240) * 262144) (by omega) (by omega)
      have fe := wrap_in (x := ((b1 : Int) - 128) * 4096) (by omega) (by omega)
      have ff := wrap_in (x := ((b0 : Int) - 240) * 262144 + ((b1 : Int) - 128) * 4096) (by omega) (by omega)
      have fg := wrap_in (x := (b2 : Int) - 128) (by omega) (by omega)
      have fh := wrap_in (x := ((b2 : Int) - 128) * 64) (by omega) (by omega)
      have fi := wrap_in (x := ((b0 : Int) - 240) * 262144 + ((b1 : Int) - 128) * 4096 + ((b2 : Int) - 128) * 64) (by omega) (by omega)
      first | (have fj := wrap_in (x := (b3 : Int)) (by omega) (by omega)) | skip
      first | (have fk := wrap_in (x := ((b0 : Int) - 240) * 262144 + ((b1 : Int) - 128) * 4096 + ((b2 : Int) - 128) * 64 + b3) (by omega) (by omega)) | skip
      first | (have fl := wrap_in (x := ((b0 : Int) - 240) * 262144 + ((b1 : Int) - 128) * 4096 + ((b2 : Int) - 128) * 64 + b3 - 128) (by omega) (by omega)) | skip
      go_enter Tryz.func61, Tryz.ntmps61
      go_wp2_with (first | ((with_reducible refine (M1.out _).mono ?_); rw [m1]; rintro e w5 ⟨rfl, hb5⟩; have hz5 := hb5.size) | ((with_reducible refine (M2.out _).mono ?_); rw [m2]; rintro e w6 ⟨rfl, hb6⟩; have hz6 := hb6.size) | ((with_reducible refine (M3.out _).mono ?_); rw [m3]; rintro e w7 ⟨rfl, hb7⟩; have hz7 := hb7.size))
      have hcH := held_cell
      refine region_rel (by kernel_rfl) (by kernel_rfl) ?_
      repeat
        ((with_reducible refine relStep (fun K hK => ?_))
         (have HK := Lib.hid hK)
         clear hK
         (first
           | (apply relInl
              · intro r n hf
                have Hf := Lib.hid hf
                clear hf
                unfold relAt
                go_simp
                (first | (refine relUpon_val ?_ (Below.refl _ _); exact rfl) | exact rfl | (refine relUpon_enter ?_; fail))
              (simp only [Act.put, List.setIfInBounds_toArray, List.set_cons_zero, List.set_cons_succ])
              (with_reducible refine HK.out _ _ ?_)
              clear HK K)
           | (fail)))
      refine relNil ?_
      intro r8 n8 hx8
      clear hcH
      (try simp only [List.nil_append, List.cons_append, List.mem_cons, List.not_mem_nil, or_false, forall_eq_or_imp, forall_eq, false_implies, implies_true] at hx8)
      obtain ⟨w8, hb8⟩ := n8
      (try dsimp only)
      obtain ⟨hc8, hf8⟩ := bcell hb8
      have hz8 := hb8.size
      (try simp at hz8)
      go_wp2
      go_ret2
      exact ⟨rfl, by (repeat' (first | with_reducible exact Below.refl _ _ | with_reducible assumption | with_reducible refine Below.drew ?_ | with_reducible refine below_drewN' ?_ _ | with_reducible refine Below.alloc ?_ ?_ _ | with_reducible refine Below.setCell ?_ ?_ _ | with_reducible refine below_step (by assumption) ?_ ?_ | omega | (simp; done) | (simp; omega)))⟩
    · skip
      rw [r1, r2]
      clear r1 r2
      have hy1 := hx1 (by omega)
      have hy2 := hx2 (by omega)
      first | (have hy3 := hx3 (by omega)) | skip
      clear hx1 hx2 hx3
      have f0 := wrap_in (x := (p : Int) + 1) (by omega) (by omega)
      have f1 := wrap_in (x := (p : Int) + 2) (by omega) (by omega)
      have f2 := wrap_in (x := (p : Int) + 3) (by omega) (by omega)
      have f3 := wrap_in (x := (b1 : Int)) (by omega) (by omega)
      have f4 := wrap_in (x := (b2 : Int)) (by omega) (by omega)
      have f5 := wrap_in (x := (b1 : Int) - 128) (by omega) (by omega)
      have f6 := wrap_in (x := ((b1 : Int) - 128) * 64) (by omega) (by omega)
      have f7 := wrap_in (x := (b0 : Int) - 224) (by omega) (by omega)
      have f8 := wrap_in (x := ((b0 : Int) - 224) * 4096) (by omega) (by omega)
      have f9 := wrap_in (x := ((b0 : Int) - 224) * 4096 + ((b1 : Int) - 128) * 64) (by omega) (by omega)
      have fa := wrap_in (x := ((b0 : Int) - 224) * 4096 + ((b1 : Int) - 128) * 64 + b2) (by omega) (by omega)
      have fb := wrap_in (x := ((b0 : Int) - 224) * 4096 + ((b1 : Int) - 128) * 64 + b2 - 128) (by omega) (by omega)
      have fc := wrap_in (x := (b0 : Int) - 240) (by omega) (by omega)
      have fd := wrap_in (x := ((b0 : Int) - 240) * 262144) (by omega) (by omega)
      have fe := wrap_in (x := ((b1 : Int) - 128) * 4096) (by omega) (by omega)
      have ff := wrap_in (x := ((b0 : Int) - 240) * 262144 + ((b1 : Int) - 128) * 4096) (by omega) (by omega)
      have fg := wrap_in (x := (b2 : Int) - 128) (by omega) (by omega)
      have fh := wrap_in (x := ((b2 : Int) - 128) * 64) (by omega) (by omega)
      have fi := wrap_in (x := ((b0 : Int) - 240) * 262144 + ((b1 : Int) - 128) * 4096 + ((b2 : Int) - 128) * 64) (by omega) (by omega)
      first | (have fj := wrap_in (x := (b3 : Int)) (by omega) (by omega)) | skip
      first | (have fk := wrap_in (x := ((b0 : Int) - 240) * 262144 + ((b1 : Int) - 128) * 4096 + ((b2 : Int) - 128) * 64 + b3) (by omega) (by omega)) | skip
      first | (have fl := wrap_in (x := ((b0 : Int) - 240) * 262144 + ((b1 : Int) - 128) * 4096 + ((b2 : Int) - 128) * 64 + b3 - 128) (by omega) (by omega)) | skip
      go_enter Tryz.func61, Tryz.ntmps61
      go_wp2_with (first | ((with_reducible refine (M1.out _).mono ?_); rw [m1]; rintro e w5 ⟨rfl, hb5⟩; have hz5 := hb5.size) | ((with_reducible refine (M2.out _).mono ?_); rw [m2]; rintro e w6 ⟨rfl, hb6⟩; have hz6 := hb6.size) | ((with_reducible refine (M3.out _).mono ?_); rw [m3]; rintro e w7 ⟨rfl, hb7⟩; have hz7 := hb7.size))
      have hcH := held_cell
      refine region_rel (by kernel_rfl) (by kernel_rfl) ?_
      repeat
        ((with_reducible refine relStep (fun K hK => ?_))
         (have HK := Lib.hid hK)
         clear hK
         (first
           | (apply relInl
              · intro r n hf
                have Hf := Lib.hid hf
                clear hf
                unfold relAt
                go_simp
                (first | (refine relUpon_val ?_ (Below.refl _ _); exact rfl) | exact rfl | (refine relUpon_enter ?_; fail))
              (simp only [Act.put, List.setIfInBounds_toArray, List.set_cons_zero, List.set_cons_succ])
              (with_reducible refine HK.out _ _ ?_)
              clear HK K)
           | (fail)))
      refine relNil ?_
      intro r8 n8 hx8
      clear hcH
      (try simp only [List.nil_append, List.cons_append, List.mem_cons, List.not_mem_nil, or_false, forall_eq_or_imp, forall_eq, false_implies, implies_true] at hx8)
      obtain ⟨w8, hb8⟩ := n8
      (try dsimp only)
      obtain ⟨hc8, hf8⟩ := bcell hb8
      have hz8 := hb8.size
      (try simp at hz8)
      go_wp2
      go_ret2
      exact ⟨rfl, by (repeat' (first | with_reducible exact Below.refl _ _ | with_reducible assumption | with_reducible refine Below.drew ?_ | with_reducible refine below_drewN' ?_ _ | with_reducible refine Below.alloc ?_ ?_ _ | with_reducible refine Below.setCell ?_ ?_ _ | with_reducible refine below_step (by assumption) ?_ ?_ | omega | (simp; done) | (simp; omega)))⟩
    · skip
      rw [r1, r2]
      clear r1 r2
      have hy1 := hx1 (by omega)
      have hy2 := hx2 (by omega)
      first | (have hy3 := hx3 (by omega)) | skip
      clear hx1 hx2 hx3
      have f0 := wrap_in (x := (p : Int) + 1) (by omega) (by omega)
      have f1 := wrap_in (x := (p : Int) + 2) (by omega) (by omega)
      have f2 := wrap_in (x := (p : Int) + 3) (by omega) (by omega)
      have f3 := wrap_in (x := (b1 : Int)) (by omega) (by omega)
      have f4 := wrap_in (x := (b2 : Int)) (by omega) (by omega)
      have f5 := wrap_in (x := (b1 : Int) - 128) (by omega) (by omega)
      have f6 := wrap_in (x := ((b1 : Int) - 128) * 64) (by omega) (by omega)
      have f7 := wrap_in (x := (b0 : Int) - 224) (by omega) (by omega)
      have f8 := wrap_in (x := ((b0 : Int) - 224) * 4096) (by omega) (by omega)
      have f9 := wrap_in (x := ((b0 : Int) - 224) * 4096 + ((b1 : Int) - 128) * 64) (by omega) (by omega)
      have fa := wrap_in (x := ((b0 : Int) - 224) * 4096 + ((b1 : Int) - 128) * 64 + b2) (by omega) (by omega)
      have fb := wrap_in (x := ((b0 : Int) - 224) * 4096 + ((b1 : Int) - 128) * 64 + b2 - 128) (by omega) (by omega)
      have fc := wrap_in (x := (b0 : Int) - 240) (by omega) (by omega)
      have fd := wrap_in (x := ((b0 : Int) - 240) * 262144) (by omega) (by omega)
      have fe := wrap_in (x := ((b1 : Int) - 128) * 4096) (by omega) (by omega)
      have ff := wrap_in (x := ((b0 : Int) - 240) * 262144 + ((b1 : Int) - 128) * 4096) (by omega) (by omega)
      have fg := wrap_in (x := (b2 : Int) - 128) (by omega) (by omega)
      have fh := wrap_in (x := ((b2 : Int) - 128) * 64) (by omega) (by omega)
      have fi := wrap_in (x := ((b0 : Int) - 240) * 262144 + ((b1 : Int) - 128) * 4096 + ((b2 : Int) - 128) * 64) (by omega) (by omega)
      first | (have fj := wrap_in (x := (b3 : Int)) (by omega) (by omega)) | skip
      first | (have fk := wrap_in (x := ((b0 : Int) - 240) * 262144 + ((b1 : Int) - 128) * 4096 + ((b2 : Int) - 128) * 64 + b3) (by omega) (by omega)) | skip
      first | (have fl := wrap_in (x := ((b0 : Int) - 240) * 262144 + ((b1 : Int) - 128) * 4096 + ((b2 : Int) - 128) * 64 + b3 - 128) (by omega) (by omega)) | skip
      go_enter Tryz.func61, Tryz.ntmps61
      go_wp2_with (first | ((with_reducible refine (M1.out _).mono ?_); rw [m1]; rintro e w5 ⟨rfl, hb5⟩; have hz5 := hb5.size) | ((with_reducible refine (M2.out _).mono ?_); rw [m2]; rintro e w6 ⟨rfl, hb6⟩; have hz6 := hb6.size) | ((with_reducible refine (M3.out _).mono ?_); rw [m3]; rintro e w7 ⟨rfl, hb7⟩; have hz7 := hb7.size))
      have hcH := held_cell
      refine region_rel (by kernel_rfl) (by kernel_rfl) ?_
      repeat
        ((with_reducible refine relStep (fun K hK => ?_))
         (have HK := Lib.hid hK)
         clear hK
         (first
           | (apply relInl
              · intro r n hf
                have Hf := Lib.hid hf
                clear hf
                unfold relAt
                go_simp
                (first | (refine relUpon_val ?_ (Below.refl _ _); exact rfl) | exact rfl | (refine relUpon_enter ?_; fail))
              (simp only [Act.put, List.setIfInBounds_toArray, List.set_cons_zero, List.set_cons_succ])
              (with_reducible refine HK.out _ _ ?_)
              clear HK K)
           | (fail)))
      refine relNil ?_
      intro r8 n8 hx8
      clear hcH
      (try simp only [List.nil_append, List.cons_append, List.mem_cons, List.not_mem_nil, or_false, forall_eq_or_imp, forall_eq, false_implies, implies_true] at hx8)
      obtain ⟨w8, hb8⟩ := n8
      (try dsimp only)
      obtain ⟨hc8, hf8⟩ := bcell hb8
      have hz8 := hb8.size
      (try simp at hz8)
      go_wp2
      go_ret2
      exact ⟨rfl, by (repeat' (first | with_reducible exact Below.refl _ _ | with_reducible assumption | with_reducible refine Below.drew ?_ | with_reducible refine below_drewN' ?_ _ | with_reducible refine Below.alloc ?_ ?_ _ | with_reducible refine Below.setCell ?_ ?_ _ | with_reducible refine below_step (by assumption) ?_ ?_ | omega | (simp; done) | (simp; omega)))⟩
    · skip
      rw [r1, r2]
      clear r1 r2
      go_enter Tryz.func61, Tryz.ntmps61
      go_wp2_with (first | ((with_reducible refine (M1.out _).mono ?_); rw [m1]; rintro e w5 ⟨rfl, hb5⟩; have hz5 := hb5.size) | ((with_reducible refine (M2.out _).mono ?_); rw [m2]; rintro e w6 ⟨rfl, hb6⟩; have hz6 := hb6.size) | ((with_reducible refine (M3.out _).mono ?_); rw [m3]; rintro e w7 ⟨rfl, hb7⟩; have hz7 := hb7.size))
      go_ret2
      exact ⟨rfl, by (repeat' (first | with_reducible exact Below.refl _ _ | with_reducible assumption | with_reducible refine Below.drew ?_ | with_reducible refine below_drewN' ?_ _ | with_reducible refine Below.alloc ?_ ?_ _ | with_reducible refine Below.setCell ?_ ?_ _ | with_reducible refine below_step (by assumption) ?_ ?_ | omega | (simp; done) | (simp; omega)))⟩
    · skip
      rw [r1, r2]
      clear r1 r2
      go_enter Tryz.func61, Tryz.ntmps61
      go_wp2_with (first | ((with_reducible refine (M1.out _).mono ?_); rw [m1]; rintro e w5 ⟨rfl, hb5⟩; have hz5 := hb5.size) | ((with_reducible refine (M2.out _).mono ?_); rw [m2]; rintro e w6 ⟨rfl, hb6⟩; have hz6 := hb6.size) | ((with_reducible refine (M3.out _).mono ?_); rw [m3]; rintro e w7 ⟨rfl, hb7⟩; have hz7 := hb7.size))
      go_ret2
      exact ⟨rfl, by (repeat' (first | with_reducible exact Below.refl _ _ | with_reducible assumption | with_reducible refine Below.drew ?_ | with_reducible refine below_drewN' ?_ _ | with_reducible refine Below.alloc ?_ ?_ _ | with_reducible refine Below.setCell ?_ ?_ _ | with_reducible refine below_step (by assumption) ?_ ?_ | omega | (simp; done) | (simp; omega)))⟩
    · skip
      rw [r1, r2]
      clear r1 r2
      go_enter Tryz.func61, Tryz.ntmps61
      go_wp2_with (first | ((with_reducible refine (M1.out _).mono ?_); rw [m1]; rintro e w5 ⟨rfl, hb5⟩; have hz5 := hb5.size) | ((with_reducible refine (M2.out _).mono ?_); rw [m2]; rintro e w6 ⟨rfl, hb6⟩; have hz6 := hb6.size) | ((with_reducible refine (M3.out _).mono ?_); rw [m3]; rintro e w7 ⟨rfl, hb7⟩; have hz7 := hb7.size))
      go_ret2
      exact ⟨rfl, by (repeat' (first | with_reducible exact Below.refl _ _ | with_reducible assumption | with_reducible refine Below.drew ?_ | with_reducible refine below_drewN' ?_ _ | with_reducible refine Below.alloc ?_ ?_ _ | with_reducible refine Below.setCell ?_ ?_ _ | with_reducible refine below_step (by assumption) ?_ ?_ | omega | (simp; done) | (simp; omega)))⟩
    · skip
      rw [r1, r2]
      clear r1 r2
      have hy1 := hx1 (by omega)
      have hy2 := hx2 (by omega)
      first | (have hy3 := hx3 (by omega)) | skip
      clear hx1 hx2 hx3
      have f0 := wrap_in (x := (p : Int) + 1) (by omega) (by omega)
      have f1 := wrap_in (x := (p : Int) + 2) (by omega) (by omega)
      have f2 := wrap_in (x := (p : Int) + 3) (by omega) (by omega)
      have f3 := wrap_in (x := (b1 : Int)) (by omega) (by omega)
      have f4 := wrap_in (x := (b2 : Int)) (by omega) (by omega)
      have f5 := wrap_in (x := (b1 : Int) - 128) (by omega) (by omega)
      have f6 := wrap_in (x := ((b1 : Int) - 128) * 64) (by omega) (by omega)
      have f7 := wrap_in (x := (b0 : Int) - 224) (by omega) (by omega)
      have f8 := wrap_in (x := ((b0 : Int) - 224) * 4096) (by omega) (by omega)
      have f9 := wrap_in (x := ((b0 : Int) - 224) * 4096 + ((b1 : Int) - 128) * 64) (by omega) (by omega)
      have fa := wrap_in (x := ((b0 : Int) - 224) * 4096 + ((b1 : Int) - 128) * 64 + b2) (by omega) (by omega)
      have fb := wrap_in (x := ((b0 : Int) - 224) * 4096 + ((b1 : Int) - 128) * 64 + b2 - 128) (by omega) (by omega)
      have fc := wrap_in (x := (b0 : Int) - 240) (by omega) (by omega)
      have fd := wrap_in (x := ((b0 : Int) - 240) * 262144) (by omega) (by omega)
      have fe := wrap_in (x := ((b1 : Int) - 128) * 4096) (by omega) (by omega)
      have ff := wrap_in (x := ((b0 : Int) - 240) * 262144 + ((b1 : Int) - 128) * 4096) (by omega) (by omega)
      have fg := wrap_in (x := (b2 : Int) - 128) (by omega) (by omega)
      have fh := wrap_in (x := ((b2 : Int) - 128) * 64) (by omega) (by omega)
      have fi := wrap_in (x := ((b0 : Int) - 240) * 262144 + ((b1 : Int) - 128) * 4096 + ((b2 : Int) - 128) * 64) (by omega) (by omega)
      first | (have fj := wrap_in (x := (b3 : Int)) (by omega) (by omega)) | skip
      first | (have fk := wrap_in (x := ((b0 : Int) - 240) * 262144 + ((b1 : Int) - 128) * 4096 + ((b2 : Int) - 128) * 64 + b3) (by omega) (by omega)) | skip
      first | (have fl := wrap_in (x := ((b0 : Int) - 240) * 262144 + ((b1 : Int) - 128) * 4096 + ((b2 : Int) - 128) * 64 + b3 - 128) (by omega) (by omega)) | skip
      go_enter Tryz.func61, Tryz.ntmps61
      go_wp2_with (first | ((with_reducible refine (M1.out _).mono ?_); rw [m1]; rintro e w5 ⟨rfl, hb5⟩; have hz5 := hb5.size) | ((with_reducible refine (M2.out _).mono ?_); rw [m2]; rintro e w6 ⟨rfl, hb6⟩; have hz6 := hb6.size) | ((with_reducible refine (M3.out _).mono ?_); rw [m3]; rintro e w7 ⟨rfl, hb7⟩; have hz7 := hb7.size))
      have hcH := held_cell
      refine region_rel (by kernel_rfl) (by kernel_rfl) ?_
      repeat
        ((with_reducible refine relStep (fun K hK => ?_))
         (have HK := Lib.hid hK)
         clear hK
         (first
           | (apply relInl
              · intro r n hf
                have Hf := Lib.hid hf
                clear hf
                unfold relAt
                go_simp
                (first | (refine relUpon_val ?_ (Below.refl _ _); exact rfl) | exact rfl | (refine relUpon_enter ?_; fail))
              (simp only [Act.put, List.setIfInBounds_toArray, List.set_cons_zero, List.set_cons_succ])
              (with_reducible refine HK.out _ _ ?_)
              clear HK K)
           | (fail)))
      refine relNil ?_
      intro r8 n8 hx8
      clear hcH
      (try simp only [List.nil_append, List.cons_append, List.mem_cons, List.not_mem_nil, or_false, forall_eq_or_imp, forall_eq, false_implies, implies_true] at hx8)
      obtain ⟨w8, hb8⟩ := n8
      (try dsimp only)
      obtain ⟨hc8, hf8⟩ := bcell hb8
      have hz8 := hb8.size
      (try simp at hz8)
      go_wp2
      go_ret2
      exact ⟨rfl, by (repeat' (first | with_reducible exact Below.refl _ _ | with_reducible assumption | with_reducible refine Below.drew ?_ | with_reducible refine below_drewN' ?_ _ | with_reducible refine Below.alloc ?_ ?_ _ | with_reducible refine Below.setCell ?_ ?_ _ | with_reducible refine below_step (by assumption) ?_ ?_ | omega | (simp; done) | (simp; omega)))⟩
    · skip
      rw [r1, r2]
      clear r1 r2
      have hy1 := hx1 (by omega)
      have hy2 := hx2 (by omega)
      first | (have hy3 := hx3 (by omega)) | skip
      clear hx1 hx2 hx3
      have f0 := wrap_in (x := (p : Int) + 1) (by omega) (by omega)
      have f1 := wrap_in (x := (p : Int) + 2) (by omega) (by omega)
      have f2 := wrap_in (x := (p : Int) + 3) (by omega) (by omega)
      have f3 := wrap_in (x := (b1 : Int)) (by omega) (by omega)
      have f4 := wrap_in (x := (b2 : Int)) (by omega) (by omega)
      have f5 := wrap_in (x := (b1 : Int) - 128) (by omega) (by omega)
      have f6 := wrap_in (x := ((b1 : Int) - 128) * 64) (by omega) (by omega)
      have f7 := wrap_in (x := (b0 : Int) - 224) (by omega) (by omega)
      have f8 := wrap_in (x := ((b0 : Int) - 224) * 4096) (by omega) (by omega)
      have f9 := wrap_in (x := ((b0 : Int) - 224) * 4096 + ((b1 : Int) - 128) * 64) (by omega) (by omega)
      have fa := wrap_in (x := ((b0 : Int) - 224) * 4096 + ((b1 : Int) - 128) * 64 + b2) (by omega) (by omega)
      have fb := wrap_in (x := ((b0 : Int) - 224) * 4096 + ((b1 : Int) - 128) * 64 + b2 - 128) (by omega) (by omega)
      have fc := wrap_in (x := (b0 : Int) - 240) (by omega) (by omega)
      have fd := wrap_in (x := ((b0 : Int) - 240) * 262144) (by omega) (by omega)
      have fe := wrap_in (x := ((b1 : Int) - 128) * 4096) (by omega) (by omega)
      have ff := wrap_in (x := ((b0 : Int) - 240) * 262144 + ((b1 : Int) - 128) * 4096) (by omega) (by omega)
      have fg := wrap_in (x := (b2 : Int) - 128) (by omega) (by omega)
      have fh := wrap_in (x := ((b2 : Int) - 128) * 64) (by omega) (by omega)
      have fi := wrap_in (x := ((b0 : Int) - 240) * 262144 + ((b1 : Int) - 128) * 4096 + ((b2 : Int) - 128) * 64) (by omega) (by omega)
      first | (have fj := wrap_in (x := (b3 : Int)) (by omega) (by omega)) | skip
      first | (have fk := wrap_in (x := ((b0 : Int) - 240) * 262144 + ((b1 : Int) - 128) * 4096 + ((b2 : Int) - 128) * 64 + b3) (by omega) (by omega)) | skip
      first | (have fl := wrap_in (x := ((b0 : Int) - 240) * 262144 + ((b1 : Int) - 128) * 4096 + ((b2 : Int) - 128) * 64 + b3 - 128) (by omega) (by omega)) | skip
      go_enter Tryz.func61, Tryz.ntmps61
      go_wp2_with (first | ((with_reducible refine (M1.out _).mono ?_); rw [m1]; rintro e w5 ⟨rfl, hb5⟩; have hz5 := hb5.size) | ((with_reducible refine (M2.out _).mono ?_); rw [m2]; rintro e w6 ⟨rfl, hb6⟩; have hz6 := hb6.size) | ((with_reducible refine (M3.out _).mono ?_); rw [m3]; rintro e w7 ⟨rfl, hb7⟩; have hz7 := hb7.size))
      have hcH := held_cell
      refine region_rel (by kernel_rfl) (by kernel_rfl) ?_
      repeat
        ((with_reducible refine relStep (fun K hK => ?_))
         (have HK := Lib.hid hK)
         clear hK
         (first
           | (apply relInl
              · intro r n hf
                have Hf := Lib.hid hf
                clear hf
                unfold relAt
                go_simp
                (first | (refine relUpon_val ?_ (Below.refl _ _); exact rfl) | exact rfl | (refine relUpon_enter ?_; fail))
              (simp only [Act.put, List.setIfInBounds_toArray, List.set_cons_zero, List.set_cons_succ])
              (with_reducible refine HK.out _ _ ?_)
              clear HK K)
           | (fail)))
      refine relNil ?_
      intro r8 n8 hx8
      clear hcH
      (try simp only [List.nil_append, List.cons_append, List.mem_cons, List.not_mem_nil, or_false, forall_eq_or_imp, forall_eq, false_implies, implies_true] at hx8)
      obtain ⟨w8, hb8⟩ := n8
      (try dsimp only)
      obtain ⟨hc8, hf8⟩ := bcell hb8
      have hz8 := hb8.size
      (try simp at hz8)
      go_wp2
      go_ret2
      exact ⟨rfl, by (repeat' (first | with_reducible exact Below.refl _ _ | with_reducible assumption | with_reducible refine Below.drew ?_ | with_reducible refine below_drewN' ?_ _ | with_reducible refine Below.alloc ?_ ?_ _ | with_reducible refine Below.setCell ?_ ?_ _ | with_reducible refine below_step (by assumption) ?_ ?_ | omega | (simp; done) | (simp; omega)))⟩
    · skip
      rw [r1, r2]
      clear r1 r2
      have hy1 := hx1 (by omega)
      have hy2 := hx2 (by omega)
      first | (have hy3 := hx3 (by omega)) | skip
      clear hx1 hx2 hx3
      have f0 := wrap_in (x := (p : Int) + 1) (by omega) (by omega)
      have f1 := wrap_in (x := (p : Int) + 2) (by omega) (by omega)
      have f2 := wrap_in (x := (p : Int) + 3) (by omega) (by omega)
      have f3 := wrap_in (x := (b1 : Int)) (by omega) (by omega)
      have f4 := wrap_in (x := (b2 : Int)) (by omega) (by omega)
      have f5 := wrap_in (x := (b1 : Int) - 128) (by omega) (by omega)
      have f6 := wrap_in (x := ((b1 : Int) - 128) * 64) (by omega) (by omega)
      have f7 := wrap_in (x := (b0 : Int) - 224) (by omega) (by omega)
      have f8 := wrap_in (x := ((b0 : Int) - 224) * 4096) (by omega) (by omega)
      have f9 := wrap_in (x := ((b0 : Int) - 224) * 4096 + ((b1 : Int) - 128) * 64) (by omega) (by omega)
      have fa := wrap_in (x := ((b0 : Int) - 224) * 4096 + ((b1 : Int) - 128) * 64 + b2) (by omega) (by omega)
      have fb := wrap_in (x := ((b0 : Int) - 224) * 4096 + ((b1 : Int) - 128) * 64 + b2 - 128) (by omega) (by omega)
      have fc := wrap_in (x := (b0 : Int) - 240) (by omega) (by omega)
      have fd := wrap_in (x := ((b0 : Int) - 240) * 262144) (by omega) (by omega)
      have fe := wrap_in (x := ((b1 : Int) - 128) * 4096) (by omega) (by omega)
      have ff := wrap_in (x := ((b0 : Int) - 240) * 262144 + ((b1 : Int) - 128) * 4096) (by omega) (by omega)
      have fg := wrap_in (x := (b2 : Int) - 128) (by omega) (by omega)
      have fh := wrap_in (x := ((b2 : Int) - 128) * 64) (by omega) (by omega)
      have fi := wrap_in (x := ((b0 : Int) - 240) * 262144 + ((b1 : Int) - 128) * 4096 + ((b2 : Int) - 128) * 64) (by omega) (by omega)
      first | (have fj := wrap_in (x := (b3 : Int)) (by omega) (by omega)) | skip
      first | (have fk := wrap_in (x := ((b0 : Int) - 240) * 262144 + ((b1 : Int) - 128) * 4096 + ((b2 : Int) - 128) * 64 + b3) (by omega) (by omega)) | skip
      first | (have fl := wrap_in (x := ((b0 : Int) - 240) * 262144 + ((b1 : Int) - 128) * 4096 + ((b2 : Int) - 128) * 64 + b3 - 128) (by omega) (by omega)) | skip
      go_enter Tryz.func61, Tryz.ntmps61
      go_wp2_with (first | ((with_reducible refine (M1.out _).mono ?_); rw [m1]; rintro e w5 ⟨rfl, hb5⟩; have hz5 := hb5.size) | ((with_reducible refine (M2.out _).mono ?_); rw [m2]; rintro e w6 ⟨rfl, hb6⟩; have hz6 := hb6.size) | ((with_reducible refine (M3.out _).mono ?_); rw [m3]; rintro e w7 ⟨rfl, hb7⟩; have hz7 := hb7.size))
      have hcH := held_cell
      refine region_rel (by kernel_rfl) (by kernel_rfl) ?_
      repeat
        ((with_reducible refine relStep (fun K hK => ?_))
         (have HK := Lib.hid hK)
         clear hK
         (first
           | (apply relInl
              · intro r n hf
                have Hf := Lib.hid hf
                clear hf
                unfold relAt
                go_simp
                (first | (refine relUpon_val ?_ (Below.refl _ _); exact rfl) | exact rfl | (refine relUpon_enter ?_; fail))
              (simp only [Act.put, List.setIfInBounds_toArray, List.set_cons_zero, List.set_cons_succ])
              (with_reducible refine HK.out _ _ ?_)
              clear HK K)
           | (fail)))
      refine relNil ?_
      intro r8 n8 hx8
      clear hcH
      (try simp only [List.nil_append, List.cons_append, List.mem_cons, List.not_mem_nil, or_false, forall_eq_or_imp, forall_eq, false_implies, implies_true] at hx8)
      obtain ⟨w8, hb8⟩ := n8
      (try dsimp only)
      obtain ⟨hc8, hf8⟩ := bcell hb8
      have hz8 := hb8.size
      (try simp at hz8)
      go_wp2
      go_ret2
      exact ⟨rfl, by (repeat' (first | with_reducible exact Below.refl _ _ | with_reducible assumption | with_reducible refine Below.drew ?_ | with_reducible refine below_drewN' ?_ _ | with_reducible refine Below.alloc ?_ ?_ _ | with_reducible refine Below.setCell ?_ ?_ _ | with_reducible refine below_step (by assumption) ?_ ?_ | omega | (simp; done) | (simp; omega)))⟩
    · skip
      rw [r1, r2]
      clear r1 r2
      go_enter Tryz.func61, Tryz.ntmps61
      go_wp2_with (first | ((with_reducible refine (M1.out _).mono ?_); rw [m1]; rintro e w5 ⟨rfl, hb5⟩; have hz5 := hb5.size) | ((with_reducible refine (M2.out _).mono ?_); rw [m2]; rintro e w6 ⟨rfl, hb6⟩; have hz6 := hb6.size) | ((with_reducible refine (M3.out _).mono ?_); rw [m3]; rintro e w7 ⟨rfl, hb7⟩; have hz7 := hb7.size))
      go_ret2
      exact ⟨rfl, by (repeat' (first | with_reducible exact Below.refl _ _ | with_reducible assumption | with_reducible refine Below.drew ?_ | with_reducible refine below_drewN' ?_ _ | with_reducible refine Below.alloc ?_ ?_ _ | with_reducible refine Below.setCell ?_ ?_ _ | with_reducible refine below_step (by assumption) ?_ ?_ | omega | (simp; done) | (simp; omega)))⟩
theorem WordSt.fin {s : ByteArray} {pos fuel n : Nat} (h : WordSt s pos fuel n) (hp : ¬ pos < s.size) : wordB s = decide (1 ≤ n ∧ n ≤ 64) := by
  have e : wordFrom s fuel pos = some 0 := by
    cases fuel with
    | zero => rfl
    | succ f => rw [wordFrom, if_neg hp]
  unfold wordB
  rw [h.1, e]
  simp
theorem rune_wid {s : ByteArray} {p : Nat} (h : badAt s p = false) : runeW s p = ((Utf8.decode s p).2 : Int) ∧ runeC s p = ((Utf8.decode s p).1 : Int) := by
  unfold runeW runeC
  rw [h]
  exact ⟨rfl, rfl⟩
theorem rune_wid0 {s : ByteArray} {p : Nat} (h : badAt s p = true) : runeW s p = 0 := by
  unfold runeW
  rw [h]
  rfl
theorem decode_end (s : ByteArray) (p : Nat) (hp : p < s.size) : p + (Utf8.decode s p).2 ≤ s.size := by
  rw [decode_dec]
  unfold dec
  split
  · simp only; omega
  · split
    · split <;> (simp only; omega)
    · split
      · split <;> (simp only; omega)
      · split
        · split <;> (simp only; omega)
        · simp only; omega
set_option maxRecDepth 100000 in
set_option maxHeartbeats 2000000 in
theorem refword_any (s : ByteArray) (hs : s.size ≤ 1000000000) (w : World) :
    Calls Tryz.prog 43 #[.string s] w fun e w' => e = .returned (.bool (wordB s)) ∧ Below w.heap.size w w' := by
  go_enter Tryz.func43, Tryz.ntmps43
  go_wp2
  go_loopw [3, 4] (fun v u wr => ∃ pos fuel n : Nat, v = .int .i64 n ∧ u = .int .i64 pos ∧ n ≤ pos ∧ pos ≤ s.size ∧ WordSt s pos fuel n ∧ Below w.heap.size w wr) (fun _ u _ => s.size - (intOf u).toNat)
  case atStart => exact ⟨0, s.size, 0, rfl, rfl, Nat.le_refl _, Nat.zero_le _, WordSt.start s, by (repeat' (first | with_reducible exact Below.refl _ _ | with_reducible assumption | with_reducible refine Below.drew ?_ | with_reducible refine below_drewN' ?_ _ | with_reducible refine Below.alloc ?_ ?_ _ | with_reducible refine Below.setCell ?_ ?_ _ | with_reducible refine below_step (by assumption) ?_ ?_ | omega | (simp; done) | (simp; omega)))⟩
  case round =>
    obtain ⟨pos, fuel, n, rfl, rfl, hn, hpe, hst, hB⟩ := hrel
    have hbz := hB.size
    have Hst := Lib.hid hst
    clear hst
    by_cases hp : pos < s.size
    · have hwd := Lib.decode_width_pos s pos hp
      have hde := decode_end s pos hp
      obtain ⟨f, rfl⟩ := Hst.out.fuel hp
      cases h2 : badAt s pos
      · obtain ⟨r2, r1⟩ := rune_wid h2
        have R1 := Lib.hid r1
        have R2 := Lib.hid r2
        cases h1 : inW (Utf8.decode s pos).1
        · have hr := Hst.out.odd hp (fun x => by rw [h1] at x; cases x.1)
          have H1 := Lib.hid h1
          clear h1 h2 r1 r2
          go_wp2_with (first | (go_at_call 61; (with_reducible refine (refrune_any s pos hp hs _).mono ?_); rw [R1.out, R2.out]; rintro e w5 ⟨rfl, hb5⟩; have hz5 := hb5.size) | (go_at_call 62; (with_reducible refine (plain_any _ _).mono ?_); rw [H1.out]; rintro e w6 ⟨rfl, hb6⟩; have hz6 := hb6.size))
          go_ret
          exact ⟨by rw [hr]; rfl, by (repeat' (first | with_reducible exact Below.refl _ _ | with_reducible assumption | with_reducible refine Below.drew ?_ | with_reducible refine below_drewN' ?_ _ | with_reducible refine Below.alloc ?_ ?_ _ | with_reducible refine Below.setCell ?_ ?_ _ | with_reducible refine below_step (by assumption) ?_ ?_ | omega | (simp; done) | (simp; omega)))⟩
        · have hs2 := Hst.out.step hp h1 h2
          have Hs2 := Lib.hid hs2
          have H1 := Lib.hid h1
          clear h1 h2 hs2 r1 r2
          have hw0 : (((Utf8.decode s pos).2 : Nat) : Int) ≠ 0 := by omega
          go_wp2_with (first | (go_at_call 61; (with_reducible refine (refrune_any s pos hp hs _).mono ?_); rw [R1.out, R2.out]; rintro e w5 ⟨rfl, hb5⟩; have hz5 := hb5.size) | (go_at_call 62; (with_reducible refine (plain_any _ _).mono ?_); rw [H1.out]; rintro e w6 ⟨rfl, hb6⟩; have hz6 := hb6.size))
          go_roundw
          case rel => exact ⟨pos + (Utf8.decode s pos).2, f, n + 1, by go_num, by rw [Int.natCast_add], by omega, hde, Hs2.out, by (repeat' (first | with_reducible exact Below.refl _ _ | with_reducible assumption | with_reducible refine Below.drew ?_ | with_reducible refine below_drewN' ?_ _ | with_reducible refine Below.alloc ?_ ?_ _ | with_reducible refine Below.setCell ?_ ?_ _ | with_reducible refine below_step (by assumption) ?_ ?_ | omega | (simp; done) | (simp; omega)))⟩
          case measure => simp [intOf]; omega
      · have r2 := rune_wid0 h2
        have hr := Hst.out.odd hp (fun x => by rw [h2] at x; cases x.2)
        have R2 := Lib.hid r2
        clear h2 r2
        go_wp2_with (go_at_call 61; (with_reducible refine (refrune_any s pos hp hs _).mono ?_); rw [R2.out]; rintro e w5 ⟨rfl, hb5⟩; have hz5 := hb5.size)
        go_ret
        exact ⟨by rw [hr]; rfl, by (repeat' (first | with_reducible exact Below.refl _ _ | with_reducible assumption | with_reducible refine Below.drew ?_ | with_reducible refine below_drewN' ?_ _ | with_reducible refine Below.alloc ?_ ?_ _ | with_reducible refine Below.setCell ?_ ?_ _ | with_reducible refine below_step (by assumption) ?_ ?_ | omega | (simp; done) | (simp; omega)))⟩
    · have hr := Hst.out.fin hp
      have hn1 : (1 ≤ n ∧ n ≤ 64) ∨ ¬ (1 ≤ n ∧ n ≤ 64) := Decidable.em _
      rcases hn1 with h1 | h1
      · obtain ⟨h2, h3⟩ := h1
        rw [decide_eq_true (show 1 ≤ n ∧ n ≤ 64 from ⟨h2, h3⟩)] at hr
        have Hr := Lib.hid hr
        clear hr
        go_wp2
        go_ret
        exact ⟨by rw [Hr.out]; first | rfl | (simp; omega), hB⟩
      · rw [decide_eq_false h1] at hr
        have Hr := Lib.hid hr
        clear hr
        have h2 : n = 0 ∨ 64 < n := by omega
        clear h1
        rcases h2 with h2 | h2
        · subst h2
          go_wp2
          go_ret
          exact ⟨by rw [Hr.out]; first | rfl | (simp; omega), hB⟩
        · have h3 : 1 ≤ n := by omega
          go_wp2
          go_ret
          exact ⟨by rw [Hr.out]; first | rfl | (simp; omega), hB⟩
end Go.Proofs.YtmkdfcggjlhcpaaGreatDoor
