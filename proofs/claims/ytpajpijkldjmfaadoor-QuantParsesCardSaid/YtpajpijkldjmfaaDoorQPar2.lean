/-
  The contracts of triremeref03.unit, zeros, value, product.
-/
import Derived.Test.YtpajpijkldjmfaaDoorQPar1
namespace Go.Proofs.YtpajpijkldjmfaaDoor
open Go.RowKit
set_option linter.unusedVariables false

theorem uR_bd (q : ByteArray) : uR q ≤ 1099511627776000 := by
  unfold uR
  cases h : uF q with
  | none => decide
  | some x =>
    obtain ⟨fr, n⟩ := x
    have := uF_bd h
    cases fr
    · show 1000 * n.toNat ≤ _
      omega
    · exact (show (1 : Nat) ≤ 1099511627776000 by decide)

set_option maxRecDepth 100000 in
set_option maxHeartbeats 4000000 in
theorem unit_any (r : ByteArray) (w : World) :
    Calls Tryd.prog 32 #[.string r] w fun e w' => e = .returned (.int .i64 (uR r : Int)) ∧ Below w.heap.size w w' := by
  by_cases h0 : r = ⟨#[]⟩
  · subst h0
    rw [show ((uR ⟨#[]⟩ : Nat) : Int) = 1000 by decide +kernel]
    go_enter Tryd.func32, Tryd.ntmps32
    go_wp2
    go_ret
    exact ⟨rfl, by (repeat' (first | with_reducible exact Below.refl _ _ | with_reducible assumption | with_reducible refine Below.drew ?_ | with_reducible refine below_drewN' ?_ _ | with_reducible refine Below.alloc ?_ ?_ _ | with_reducible refine Below.setCell ?_ ?_ _ | with_reducible refine below_step (by assumption) ?_ ?_ | omega | (simp; done) | (simp; omega)))⟩
  obtain ⟨e1, e2, e3, e4⟩ := emp_litn h0
  by_cases h1 : r = uKi
  · clear e1 e2 e3 e4
    subst h1
    clear h0
    rw [show ((uR uKi : Nat) : Int) = 1024000 by decide +kernel]
    go_enter Tryd.func32, Tryd.ntmps32
    go_wp2
    go_ret
    exact ⟨rfl, by (repeat' (first | with_reducible exact Below.refl _ _ | with_reducible assumption | with_reducible refine Below.drew ?_ | with_reducible refine below_drewN' ?_ _ | with_reducible refine Below.alloc ?_ ?_ _ | with_reducible refine Below.setCell ?_ ?_ _ | with_reducible refine below_step (by assumption) ?_ ?_ | omega | (simp; done) | (simp; omega)))⟩
  have g1 := eqs_no [75, 105] rfl h1
  by_cases h2 : r = uMi
  · clear e1 e2 e3 e4
    subst h2
    clear h0
    rw [show ((uR uMi : Nat) : Int) = 1048576000 by decide +kernel]
    go_enter Tryd.func32, Tryd.ntmps32
    go_wp2
    go_ret
    exact ⟨rfl, by (repeat' (first | with_reducible exact Below.refl _ _ | with_reducible assumption | with_reducible refine Below.drew ?_ | with_reducible refine below_drewN' ?_ _ | with_reducible refine Below.alloc ?_ ?_ _ | with_reducible refine Below.setCell ?_ ?_ _ | with_reducible refine below_step (by assumption) ?_ ?_ | omega | (simp; done) | (simp; omega)))⟩
  have g2 := eqs_no [77, 105] rfl h2
  by_cases h3 : r = uGi
  · clear e1 e2 e3 e4
    subst h3
    clear h0
    rw [show ((uR uGi : Nat) : Int) = 1073741824000 by decide +kernel]
    go_enter Tryd.func32, Tryd.ntmps32
    go_wp2
    go_ret
    exact ⟨rfl, by (repeat' (first | with_reducible exact Below.refl _ _ | with_reducible assumption | with_reducible refine Below.drew ?_ | with_reducible refine below_drewN' ?_ _ | with_reducible refine Below.alloc ?_ ?_ _ | with_reducible refine Below.setCell ?_ ?_ _ | with_reducible refine below_step (by assumption) ?_ ?_ | omega | (simp; done) | (simp; omega)))⟩
  have g3 := eqs_no [71, 105] rfl h3
  by_cases h4 : r = uTi
  · clear e1 e2 e3 e4
    subst h4
    clear h0
    rw [show ((uR uTi : Nat) : Int) = 1099511627776000 by decide +kernel]
    go_enter Tryd.func32, Tryd.ntmps32
    go_wp2
    go_ret
    exact ⟨rfl, by (repeat' (first | with_reducible exact Below.refl _ _ | with_reducible assumption | with_reducible refine Below.drew ?_ | with_reducible refine below_drewN' ?_ _ | with_reducible refine Below.alloc ?_ ?_ _ | with_reducible refine Below.setCell ?_ ?_ _ | with_reducible refine below_step (by assumption) ?_ ?_ | omega | (simp; done) | (simp; omega)))⟩
  have g4 := eqs_no [84, 105] rfl h4
  by_cases h5 : r = uk
  · clear e1 e2 e3 e4
    subst h5
    clear h0
    rw [show ((uR uk : Nat) : Int) = 1000000 by decide +kernel]
    go_enter Tryd.func32, Tryd.ntmps32
    go_wp2
    go_ret
    exact ⟨rfl, by (repeat' (first | with_reducible exact Below.refl _ _ | with_reducible assumption | with_reducible refine Below.drew ?_ | with_reducible refine below_drewN' ?_ _ | with_reducible refine Below.alloc ?_ ?_ _ | with_reducible refine Below.setCell ?_ ?_ _ | with_reducible refine below_step (by assumption) ?_ ?_ | omega | (simp; done) | (simp; omega)))⟩
  have g5 := eqs_no [107] rfl h5
  by_cases h6 : r = uM
  · clear e1 e2 e3 e4
    subst h6
    clear h0
    rw [show ((uR uM : Nat) : Int) = 1000000000 by decide +kernel]
    go_enter Tryd.func32, Tryd.ntmps32
    go_wp2
    go_ret
    exact ⟨rfl, by (repeat' (first | with_reducible exact Below.refl _ _ | with_reducible assumption | with_reducible refine Below.drew ?_ | with_reducible refine below_drewN' ?_ _ | with_reducible refine Below.alloc ?_ ?_ _ | with_reducible refine Below.setCell ?_ ?_ _ | with_reducible refine below_step (by assumption) ?_ ?_ | omega | (simp; done) | (simp; omega)))⟩
  have g6 := eqs_no [77] rfl h6
  by_cases h7 : r = uG
  · clear e1 e2 e3 e4
    subst h7
    clear h0
    rw [show ((uR uG : Nat) : Int) = 1000000000000 by decide +kernel]
    go_enter Tryd.func32, Tryd.ntmps32
    go_wp2
    go_ret
    exact ⟨rfl, by (repeat' (first | with_reducible exact Below.refl _ _ | with_reducible assumption | with_reducible refine Below.drew ?_ | with_reducible refine below_drewN' ?_ _ | with_reducible refine Below.alloc ?_ ?_ _ | with_reducible refine Below.setCell ?_ ?_ _ | with_reducible refine below_step (by assumption) ?_ ?_ | omega | (simp; done) | (simp; omega)))⟩
  have g7 := eqs_no [71] rfl h7
  by_cases h8 : r = uT
  · clear e1 e2 e3 e4
    subst h8
    clear h0
    rw [show ((uR uT : Nat) : Int) = 1000000000000000 by decide +kernel]
    go_enter Tryd.func32, Tryd.ntmps32
    go_wp2
    go_ret
    exact ⟨rfl, by (repeat' (first | with_reducible exact Below.refl _ _ | with_reducible assumption | with_reducible refine Below.drew ?_ | with_reducible refine below_drewN' ?_ _ | with_reducible refine Below.alloc ?_ ?_ _ | with_reducible refine Below.setCell ?_ ?_ _ | with_reducible refine below_step (by assumption) ?_ ?_ | omega | (simp; done) | (simp; omega)))⟩
  have g8 := eqs_no [84] rfl h8
  by_cases h9 : r = um
  · clear e1 e2 e3 e4
    subst h9
    clear h0
    rw [show ((uR um : Nat) : Int) = 1 by decide +kernel]
    go_enter Tryd.func32, Tryd.ntmps32
    go_wp2
    go_ret
    exact ⟨rfl, by (repeat' (first | with_reducible exact Below.refl _ _ | with_reducible assumption | with_reducible refine Below.drew ?_ | with_reducible refine below_drewN' ?_ _ | with_reducible refine Below.alloc ?_ ?_ _ | with_reducible refine Below.setCell ?_ ?_ _ | with_reducible refine below_step (by assumption) ?_ ?_ | omega | (simp; done) | (simp; omega)))⟩
  have g9 := eqs_no [109] rfl h9
  have hR : uR r = 0 := by
    have h00 : ¬ r = emp := h0
    unfold uR uF
    rw [if_neg h00, if_neg h1, if_neg h2, if_neg h3, if_neg h4, if_neg h5, if_neg h6, if_neg h7, if_neg h8, if_neg h9]
  rw [hR]
  clear h0 h1 h2 h3 h4 h5 h6 h7 h8 h9 hR
  go_enter Tryd.func32, Tryd.ntmps32
  go_wp2
  go_ret
  exact ⟨rfl, by (repeat' (first | with_reducible exact Below.refl _ _ | with_reducible assumption | with_reducible refine Below.drew ?_ | with_reducible refine below_drewN' ?_ _ | with_reducible refine Below.alloc ?_ ?_ _ | with_reducible refine Below.setCell ?_ ?_ _ | with_reducible refine below_step (by assumption) ?_ ?_ | omega | (simp; done) | (simp; omega)))⟩

def zB (l : List UInt8) : Bool := l.all fun c => c == 48
theorem ls_at (l : List UInt8) (k : Nat) (h : k < l.length) : (lsB l).get! k = l[k] := by
  have := (ls_get l (lsB []) k l[k] (List.getElem?_eq_getElem h)).2
  have e2 : lsB l ++ lsB [] = lsB l := ByteArray.append_empty
  rw [e2] at this
  exact this
set_option maxRecDepth 100000 in
set_option maxHeartbeats 4000000 in
theorem zeros_any (l : List UInt8) (hl : l.length ≤ 1000000) (w : World) :
    Calls Tryd.prog 34 #[.string (lsB l)] w fun e w' => e = .returned (.bool (zB l)) ∧ Below w.heap.size w w' := by
  have hsz := ls_size l
  obtain ⟨s, hs⟩ : ∃ s, lsB l = s := ⟨_, rfl⟩
  have Hs := Lib.hid hs
  rw [hs] at hsz ⊢
  clear hs
  go_enter Tryd.func34, Tryd.ntmps34
  go_wp2
  go_loopw [3] (fun i wr => ∃ k : Nat, k ≤ s.size ∧ i = .int .i64 k ∧ zB l = zB (l.drop k) ∧ Below w.heap.size w wr) (fun i _ => s.size - (intOf i).toNat)
  case atStart => exact ⟨0, Nat.zero_le _, rfl, rfl, by (repeat' (first | with_reducible exact Below.refl _ _ | with_reducible assumption | with_reducible refine Below.drew ?_ | with_reducible refine below_drewN' ?_ _ | with_reducible refine Below.alloc ?_ ?_ _ | with_reducible refine Below.setCell ?_ ?_ _ | with_reducible refine below_step (by assumption) ?_ ?_ | omega | (simp; done) | (simp; omega)))⟩
  case round =>
    obtain ⟨k, hk, rfl, hE, hB⟩ := hrel
    have HE := Lib.hid hE
    have HB := Lib.hid hB
    have hbz := hB.size
    clear hE
    by_cases hlt : k < s.size
    · have hx := str_ix s k hlt
      have hkl : k < l.length := by omega
      have hg : s.get! k = l[k] := by rw [← Hs.out]; exact ls_at l k hkl
      rw [hg] at hx
      have hd : l.drop k = l[k] :: l.drop (k + 1) := List.drop_eq_getElem_cons hkl
      have hE2 := HE.out
      rw [hd] at hE2
      obtain ⟨c, hc⟩ : ∃ c, l[k] = c := ⟨_, rfl⟩
      rw [hc] at hx hE2
      have hz : zB (c :: l.drop (k + 1)) = ((c == 48) && zB (l.drop (k + 1))) := rfl
      rw [hz] at hE2
      by_cases h48 : c = 48
      · have H2 := Lib.hid (show zB l = zB (l.drop (k + 1)) by rw [hE2, h48]; rfl)
        subst h48
        clear hE2 hz hd hg hc
        go_wp2
        go_roundw
        case rel => exact ⟨k + 1, by omega, by go_num, H2.out, by (repeat' (first | with_reducible exact Below.refl _ _ | with_reducible assumption | with_reducible refine Below.drew ?_ | with_reducible refine below_drewN' ?_ _ | with_reducible refine Below.alloc ?_ ?_ _ | with_reducible refine Below.setCell ?_ ?_ _ | with_reducible refine below_step (by assumption) ?_ ?_ | omega | (simp; done) | (simp; omega)))⟩
        case measure => simp [intOf]; omega
      · have hcb : (c == 48) = false := beq_eq_false_iff_ne.2 h48
        have H2 := Lib.hid (show zB l = false by rw [hE2, hcb]; rfl)
        have hn : ((c.toNat : Int) == 48) = false := by
          rw [beq_eq_false_iff_ne]
          exact fun h => h48 (UInt8.toNat_inj.1 (by show c.toNat = 48; omega))
        obtain ⟨p, hp⟩ : ∃ p, c.toNat = p := ⟨_, rfl⟩
        rw [hp] at hx hn
        clear hE2 hz hd hg hc h48 hcb hp
        go_wp2
        go_ret
        exact ⟨by rw [H2.out]; rfl, by (repeat' (first | with_reducible exact Below.refl _ _ | with_reducible assumption | with_reducible refine Below.drew ?_ | with_reducible refine below_drewN' ?_ _ | with_reducible refine Below.alloc ?_ ?_ _ | with_reducible refine Below.setCell ?_ ?_ _ | with_reducible refine below_step (by assumption) ?_ ?_ | omega | (simp; done) | (simp; omega)))⟩
    · have H2 := Lib.hid (show zB l = true by rw [HE.out, List.drop_eq_nil_of_le (by omega)]; rfl)
      go_wp2
      go_ret
      exact ⟨by rw [H2.out]; rfl, by (repeat' (first | with_reducible exact Below.refl _ _ | with_reducible assumption | with_reducible refine Below.drew ?_ | with_reducible refine below_drewN' ?_ _ | with_reducible refine Below.alloc ?_ ?_ _ | with_reducible refine Below.setCell ?_ ?_ _ | with_reducible refine below_step (by assumption) ?_ ?_ | omega | (simp; done) | (simp; omega)))⟩

theorem value_ls (l : List UInt8) (hl : l.length ≤ 1000000) (ha : allIs l) (w : World) :
    Calls Tryd.prog 25 #[.string (lsB l)] w fun e w' => e = .returned (.int .i64 (if 1125899906842624 < numL l then 1125899906842625 else (numL l : Int))) ∧ Below w.heap.size w w' := by
  have h := RefQ.value_any (lsB l) (by rw [ls_size]; omega) (fun i hi => by
    rw [ls_size] at hi
    unfold digB
    rw [ls_at l i hi, ls_size]
    exact decide_eq_true ⟨hi, ha _ (List.getElem_mem hi)⟩) w
  have e2 : lsB l ++ lsB [] = lsB l := ByteArray.append_empty
  have e3 := ls_int l ha (lsB []) (.inl rfl)
  rw [e2] at e3
  rw [e3] at h
  dsimp only at h
  rw [fold_cap l ha] at h
  exact h
end Go.Proofs.YtpajpijkldjmfaaDoor
