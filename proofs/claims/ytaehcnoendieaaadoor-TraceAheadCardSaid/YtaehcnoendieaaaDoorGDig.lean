/-
  The contract of triremeref01.Digits.
-/
import Derived.Test.YtaehcnoendieaaaDoorMF
import Derived.Test.YtaehcnoendieaaaDoorMC
import Derived.Test.YtaehcnoendieaaaDoorMA
import Derived.Laws.IdiomStrings
namespace Go.Proofs.YtaehcnoendieaaaDoor
open Go.RowKit
set_option linter.unusedVariables false
set_option linter.unusedSimpArgs false

/-- A slice of one byte. -/
def IsByte (k : Int) (v : Value) (w : World) : Prop := ∃ b, v = .slice (some ⟨b, 0, none⟩) 1 1 ∧ b < w.heap.size ∧ w.cell? ⟨b, 0, none⟩ = some (.int .u8 k)
theorem IsByte.stays (k : Int) : Stays (IsByte k) := fun v w w' hb ⟨b, e, h1, h2⟩ => ⟨b, e, by have := hb.size; omega, by rw [hb.cell h1]; exact h2⟩
theorem IsByte.new (k : Int) (w : World) (t : TypeId) : IsByte k (.slice (some ⟨w.heap.size, 0, none⟩) 1 1) (w.alloc (.cells #[.int .u8 k] t)) :=
  ⟨w.heap.size, rfl, by show w.heap.size < (w.heap.push _).size; simp, by rw [World.cell?_alloc_mark]; rfl⟩
theorem IsByte.text {k : Int} (h0 : 0 ≤ k) (h1 : k < 256) {v : Value} {w : World} (h : IsByte k v w) : (convert 56 9 v).run Tryd.prog w = .ok (.string ⟨#[UInt8.ofNat k.toNat]⟩) w := by
  obtain ⟨b, rfl, _, hc⟩ := h
  exact run_convert_bytes_back w 56 9 5 ⟨b, 0, none⟩ 1 [UInt8.ofNat k.toNat] Tryd.underlying56 Tryd.underlying5 Tryd.underlying9 (fun j hj => by
    obtain rfl : j = 0 := by simp at hj; omega
    show w.cell? ⟨b, 0, none⟩ = _
    rw [hc]
    simp only [List.getElem_cons_zero]
    rw [UInt8.toNat_ofNat']
    congr 2
    omega)

set_option maxRecDepth 100000 in
set_option maxHeartbeats 4000000 in
theorem digits_any : ∀ (m : Nat) (n : Int), 0 ≤ n → n ≤ 9223372036854775807 → n.toNat ≤ m → ∀ w : World, Calls Tryd.prog 49 #[.int .i64 n] w fun e w' => e = .returned (.string (dgB n.toNat)) ∧ Below w.heap.size w w' := by
  intro m
  induction m using Nat.strongRecOn with
  | ind m ih =>
  intro n h0 h9 hm w
  by_cases h1 : n < 10
  · have e : dgB n.toNat = ⟨#[UInt8.ofNat (48 + n).toNat]⟩ := by
      unfold dgB
      rw [dec_one n.toNat (by omega), show (48 + n).toNat = 48 + n.toNat by omega]
    rw [e]
    have hcv : ∀ V : World, (convert 56 9 (.slice (some ⟨V.heap.size, 0, none⟩) 1 1)).run Tryd.prog (V.alloc (.cells #[.int .u8 (48 + n)] 5)) = .ok (.string ⟨#[UInt8.ofNat (48 + n).toNat]⟩) (V.alloc (.cells #[.int .u8 (48 + n)] 5)) :=
      fun V => (IsByte.new (48 + n) V 5).text (by omega) (by omega)
    have w1 : IntKind.i64.wrap (48 + n) = 48 + n := wrap_in (by omega) (by omega)
    have w2 : IntKind.u8.wrap (48 + n) = 48 + n := by rw [IntKind.wrap_u8]; omega
    clear e
    go_enter Tryd.func49, Tryd.ntmps49
    go_wp2
    go_ret
    exact ⟨rfl, by (repeat' (first | with_reducible exact Below.refl _ _ | with_reducible assumption | with_reducible refine Below.drew ?_ | with_reducible refine below_drewN' ?_ _ | with_reducible refine Below.alloc ?_ ?_ _ | with_reducible refine Below.setCell ?_ ?_ _ | with_reducible refine below_step (by assumption) ?_ ?_ | omega | (simp; done) | (simp; omega)))⟩
  · have e : dgB n.toNat = dgB (n / 10).toNat ++ ⟨#[UInt8.ofNat (48 + n % 10).toNat]⟩ := by
      unfold dgB
      rw [dec_more n.toNat (by omega), show (48 + n % 10).toNat = 48 + n.toNat % 10 by omega, show (n / 10).toNat = n.toNat / 10 by omega]
      exact ByteArray.ext (by simp)
    rw [e]
    have hsz : (dgB (n / 10).toNat).size ≤ 30 := by
      have h := itoaB_size (n / 10) (by omega) (by omega)
      rw [itoa_dg (show 0 ≤ n / 10 by omega)] at h
      omega
    have A := fun V => ih (n / 10).toNat (by omega) (n / 10) (by omega) (by omega) (Nat.le_refl _) V
    have HA := Lib.hid A
    obtain ⟨q, hq⟩ : ∃ q, dgB (n / 10).toNat = q := ⟨_, rfl⟩
    rw [hq] at hsz HA ⊢
    have t1 : Int.tmod n 10 = n % 10 := Int.tmod_eq_emod_of_nonneg (by omega)
    have t2 : Int.tdiv n 10 = n / 10 := Int.tdiv_eq_ediv_of_nonneg (by omega)
    have v1 : IntKind.i64.wrap (n % 10) = n % 10 := wrap_in (by omega) (by omega)
    have v2 : IntKind.i64.wrap (n / 10) = n / 10 := wrap_in (by omega) (by omega)
    have w1 : IntKind.i64.wrap (48 + n % 10) = 48 + n % 10 := wrap_in (by omega) (by omega)
    have w2 : IntKind.u8.wrap (48 + n % 10) = 48 + n % 10 := by rw [IntKind.wrap_u8]; omega
    have hx : 0 ≤ 48 + n % 10 ∧ 48 + n % 10 < 256 := by omega
    obtain ⟨x, ex⟩ : ∃ x, 48 + n % 10 = x := ⟨_, rfl⟩
    rw [ex] at w1 w2 hx ⊢
    have hk : ∀ V : World, (Op.stringOp .add q ⟨#[UInt8.ofNat x.toNat]⟩).run Tryd.prog V = .ok (.string (q ++ ⟨#[UInt8.ofNat x.toNat]⟩)) V := fun V => cat_run q _ (by have e : (⟨#[UInt8.ofNat x.toNat]⟩ : ByteArray).size = 1 := rfl; omega) V
    have HXX := Lib.hid hx
    clear A e hq hx hm ih
    go_enter Tryd.func49, Tryd.ntmps49
    go_wp2
    have hcH := held_cell
    refine region_rel (by kernel_rfl) (by kernel_rfl) ?_
    repeat
      ((with_reducible refine relStep (fun K hK => ?_))
       (have HK := Lib.hid hK)
       clear hK
       (apply relInl
        · intro r n hf
          have Hf := Lib.hid hf
          clear hf
          (first
            | (fail)
            | (unfold relAt
               go_simp
               (first | (refine relUpon_val ?_ (Below.refl _ _); exact rfl) | exact rfl | (refine relUpon_enter ?_; (go_at_call 49; (with_reducible refine (HA.out _).mono ?_); rintro e w1 ⟨rfl, hb⟩; exact ⟨⟨_, rfl, rfl⟩, hb⟩)))))
        (simp only [Act.put, List.setIfInBounds_toArray, List.set_cons_zero, List.set_cons_succ])
        (with_reducible refine HK.out _ _ ?_)
        clear HK K))
    (with_reducible refine relStep (fun K hK => ?_))
    (have HK := Lib.hid hK)
    clear hK
    refine relInr (IsByte x) (IsByte.stays _) (fun r n hf => ?_) ?_
    · have Hf := Lib.hid hf
      clear hf HK K
      unfold relAt
      (skip)
      go_simp
      (exact relUpon_val (IsByte.new x n.w _) ((Below.refl _ _).alloc (Nat.le_refl _) _))
    (simp only [Act.put, List.setIfInBounds_toArray, List.set_cons_zero, List.set_cons_succ])
    (with_reducible refine HK.out _ _ ?_)
    clear HK K
    repeat
      ((with_reducible refine relStep (fun K hK => ?_))
       (have HK := Lib.hid hK)
       clear hK
       (apply relInl
        · intro r n hf
          have Hf := Lib.hid hf
          clear hf
          (first
            | ((have hcx := (given_at Hf.out 0 rfl (by dsimp only; decide +kernel)).text HXX.out.1 HXX.out.2; unfold relAt; go_simp; refine relUpon_val ?_ (Below.refl _ _); exact rfl))
            | (unfold relAt
               go_simp
               (first | (refine relUpon_val ?_ (Below.refl _ _); exact rfl) | exact rfl | (refine relUpon_enter ?_; fail))))
        (simp only [Act.put, List.setIfInBounds_toArray, List.set_cons_zero, List.set_cons_succ])
        (with_reducible refine HK.out _ _ ?_)
        clear HK K))
    refine relNil ?_
    intro r3 n3 hx3
    clear hcH
    (try simp only [List.nil_append, List.cons_append, List.mem_cons, List.not_mem_nil, or_false, forall_eq_or_imp, forall_eq, false_implies, implies_true] at hx3)
    obtain ⟨w3, hb3⟩ := n3
    (try dsimp only)
    obtain ⟨hc3, hf3⟩ := bcell hb3
    have hz3 := hb3.size
    (try simp at hz3)
    go_wp2
    go_ret
    exact ⟨rfl, hb3⟩
end Go.Proofs.YtaehcnoendieaaaDoor
