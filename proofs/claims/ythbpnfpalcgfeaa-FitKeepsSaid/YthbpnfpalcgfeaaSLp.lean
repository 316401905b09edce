/-
  Suit: less need, fewer pods, in plain words.
-/
import Derived.Test.YthbpnfpalcgfeaaNK
import Derived.Test.YthbpnfpalcgfeaaNI
namespace Go.Proofs.Ythbpnfpalcgfeaa
open Go.RowKit
set_option linter.unusedVariables false
set_option linter.unusedSimpArgs false

def leR (a b : R5) : Prop := a.r0 ≤ b.r0 ∧ a.r1 ≤ b.r1 ∧ a.r2 ≤ b.r2 ∧ a.r3 ≤ b.r3 ∧ a.r4 ≤ b.r4
theorem fits_iff (a b : R5) : Rs.fitsB a.r0 a.r1 a.r2 a.r3 a.r4 b.r0 b.r1 b.r2 b.r3 b.r4 = true ↔ rt5 a = true ∧ rt5 b = true ∧ leR a b := by
  unfold Rs.fitsB Rs.subE rt5 leR
  rw [decide_eq_true_eq]
  constructor
  · intro h
    split at h
    · rename_i h1
      split at h
      · rename_i h2
        exact ⟨h1.2, h1.1, h2⟩
      · cases h
    · cases h
  · rintro ⟨h1, h2, h3⟩
    rw [if_pos ⟨h2, h1⟩, if_pos h3]
theorem usB_err (nm : ByteArray) : ∀ (l : List Bd) (e : Int) (r : R5), e ≠ 0 → (usB nm l e r).1 ≠ 0
  | [], e, r, h => h
  | b :: l, e, r, h => by
    unfold usB
    split
    · split
      · exact usB_err nm l e r h
      · decide
    · exact usB_err nm l e r h
theorem addEP_zero {r : R5} {p : Pd} (h : addEP r p = 0) : rt5 r = true ∧ rtP p = true ∧ addP r p = ⟨r.r0 + p.n0, r.r1 + p.n1, r.r2 + p.n2, r.r3 + p.n3, r.r4 + p.n4⟩ ∧ r.r0 + p.n0 ≤ 1125899906842624 ∧ r.r1 + p.n1 ≤ 1125899906842624 ∧ r.r2 + p.n2 ≤ 1125899906842624 ∧ r.r3 + p.n3 ≤ 1125899906842624 ∧ r.r4 + p.n4 ≤ 1125899906842624 := by
  have h0 := h
  unfold addEP Rs.addE at h0
  split at h0
  · rename_i h1
    split at h0
    · rename_i h2
      refine ⟨h1.1, h1.2, ?_, h2⟩
      unfold addP
      rw [h]
      rfl
    · cases h0
  · cases h0
theorem usB_sub (nm : ByteArray) {l' l : List Bd} (h : l'.Sublist l) : ∀ (r' r : R5), rt5 r' = true → rt5 r = true → leR r' r → (usB nm l 0 r).1 = 0 → (usB nm l' 0 r').1 = 0 ∧ leR (usB nm l' 0 r').2 (usB nm l 0 r).2 := by
  induction h with
  | slnil => intro r' r h1 h2 h3 h4; exact ⟨rfl, h3⟩
  | cons b h ih =>
    rename_i l1 l2
    intro r' r h1 h2 h3 h4
    have e : usB nm (b :: l2) 0 r = if b.on = nm then (if rtP b.p = true then usB nm l2 (addEP r b.p) (addP r b.p) else (12, R5.z)) else usB nm l2 0 r := by
      show (if b.on = nm then (if rtP b.p = true then (if (0 : Int) = 0 then usB nm l2 (addEP r b.p) (addP r b.p) else usB nm l2 0 r) else (12, R5.z)) else usB nm l2 0 r) = _
      rw [if_pos rfl]
    rw [e] at h4 ⊢
    by_cases ho : b.on = nm
    · rw [if_pos ho] at h4 ⊢
      by_cases hr : rtP b.p = true
      · rw [if_pos hr] at h4 ⊢
        by_cases hz : addEP r b.p = 0
        · obtain ⟨g1, g2, g3, g4⟩ := addEP_zero hz
          have gp := (rtB_iff _ _ _ _ _).1 g2
          rw [hz] at h4 ⊢
          refine ih r' _ h1 (addP_right r b.p) ?_ h4
          rw [g3]
          unfold leR at h3 ⊢
          dsimp only
          omega
        · exact absurd h4 (usB_err nm l2 _ _ hz)
      · rw [if_neg hr] at h4
        cases h4
    · rw [if_neg ho] at h4 ⊢
      exact ih r' r h1 h2 h3 h4
  | cons_cons b h ih =>
    rename_i l1 l2
    intro r' r h1 h2 h3 h4
    have e : ∀ (l2 : List Bd) (r : R5), usB nm (b :: l2) 0 r = if b.on = nm then (if rtP b.p = true then usB nm l2 (addEP r b.p) (addP r b.p) else (12, R5.z)) else usB nm l2 0 r := fun l2 r => by
      show (if b.on = nm then (if rtP b.p = true then (if (0 : Int) = 0 then usB nm l2 (addEP r b.p) (addP r b.p) else usB nm l2 0 r) else (12, R5.z)) else usB nm l2 0 r) = _
      rw [if_pos rfl]
    rw [e] at h4
    rw [e, e]
    by_cases ho : b.on = nm
    · rw [if_pos ho] at h4
      rw [if_pos ho, if_pos ho]
      by_cases hr : rtP b.p = true
      · rw [if_pos hr] at h4
        rw [if_pos hr, if_pos hr]
        by_cases hz : addEP r b.p = 0
        · obtain ⟨g1, g2, g3, g4⟩ := addEP_zero hz
          have gp := (rtB_iff _ _ _ _ _).1 g2
          have gr := (rtB_iff _ _ _ _ _).1 h1
          unfold leR at h3
          have hz' : addEP r' b.p = 0 := by
            unfold addEP Rs.addE
            rw [if_pos ⟨h1, hr⟩, if_pos (by omega)]
          obtain ⟨k1, k2, k3, k4⟩ := addEP_zero hz'
          rw [hz] at h4 ⊢
          rw [hz']
          refine ih _ _ (addP_right r' b.p) (addP_right r b.p) ?_ h4
          rw [g3, k3]
          unfold leR
          dsimp only
          omega
        · exact absurd h4 (usB_err nm l2 _ _ hz)
      · rw [if_neg hr] at h4
        cases h4
    · rw [if_neg ho] at h4
      rw [if_neg ho, if_neg ho]
      exact ih r' r h1 h2 h3 h4
theorem share_sub {l' l : List Bd} (h : l'.Sublist l) {PP : List Int} (hs : shareQ l PP = false) : shareQ l' PP = false := by
  unfold shareQ at hs ⊢
  rw [List.any_eq_false] at hs ⊢
  exact fun x hx => hs x (h.subset hx)
theorem share_nil (l : List Bd) : shareQ l [] = false := by
  unfold shareQ
  rw [List.any_eq_false]
  intro b _
  unfold prtsIn prtIn
  simp
def needP (p : Pd) : R5 := ⟨p.n0, p.n1, p.n2, p.n3, p.n4⟩
/-- What it says that a pod suits a machine. -/
theorem suit_zero {m : Mac} {bs : List Bd} {p : Pd} (h : suitS m bs p = 0) (h3 : p.n3 = 1) : placeS m p = 0 ∧ rt5 (needP p) = true ∧ rt5 (leftY m (othL bs m.nm p.nm)) = true ∧ leR (needP p) (leftY m (othL bs m.nm p.nm)) ∧ shareQ (othL bs m.nm p.nm) p.prts = false ∧ (usedY (othL bs m.nm p.nm) m.nm).1 = 0 := by
  unfold suitS at h
  split at h
  · rename_i hp
    unfold roomS at h
    split at h
    · cases h
    · rename_i hf
      split at h
      · cases h
      · rename_i hs
        rw [Bool.not_eq_false] at hf
        have hf := (fits_iff (needP p) (leftY m (othL bs m.nm p.nm))).1 hf
        refine ⟨hp, hf.1, hf.2.1, hf.2.2, by simpa using hs, ?_⟩
        by_cases hu : (usedY (othL bs m.nm p.nm) m.nm).1 = 0
        · exact hu
        · exfalso
          have hl := hf.2.2.2.2.2.1
          unfold leftY at hl
          rw [if_neg hu] at hl
          have hz : p.n3 ≤ 0 := hl
          omega
  · rename_i hp
    exact absurd h hp
theorem room_of {m : Mac} {bs : List Bd} {p : Pd} (h1 : rt5 (needP p) = true) (h2 : rt5 (leftY m (othL bs m.nm p.nm)) = true) (h3 : leR (needP p) (leftY m (othL bs m.nm p.nm))) (h4 : shareQ (othL bs m.nm p.nm) p.prts = false) : roomS m bs p = 0 := by
  unfold roomS
  rw [if_neg (fun hx => Bool.noConfusion (hx.symm.trans ((fits_iff (needP p) (leftY m (othL bs m.nm p.nm))).2 ⟨h1, h2, h3⟩))), h4]
  rfl
theorem suit_of {m : Mac} {bs : List Bd} {p : Pd} (h : placeS m p = 0) (h2 : roomS m bs p = 0) : suitS m bs p = 0 := by
  unfold suitS
  rw [if_pos h, h2]
theorem suit_fewer {m : Mac} {bs' bs : List Bd} {p : Pd} (hm : rt5 (hasM m) = true) (h : suitS m bs p = 0) (h3 : p.n3 = 1) (hs : bs'.Sublist bs) : suitS m bs' p = 0 := by
  obtain ⟨g1, g2, g3, g4, g5, g6⟩ := suit_zero h h3
  have ho : (othL bs' m.nm p.nm).Sublist (othL bs m.nm p.nm) := hs.filter _
  obtain ⟨k1, k2⟩ := usB_sub m.nm ho R5.z R5.z (by decide) (by decide) (by unfold leR; decide) g6
  have u1 := usedY_right (bs := othL bs m.nm p.nm) (nm := m.nm) g6
  have u2 := usedY_right (bs := othL bs' m.nm p.nm) (nm := m.nm) k1
  have e1 : leftY m (othL bs m.nm p.nm) = _ := (if_pos g6).trans (left_plain hm u1)
  have e2 : leftY m (othL bs' m.nm p.nm) = _ := (if_pos (show (usedY (othL bs' m.nm p.nm) m.nm).1 = 0 from k1)).trans (left_plain hm u2)
  have k2 : leR (usedY (othL bs' m.nm p.nm) m.nm).2 (usedY (othL bs m.nm p.nm) m.nm).2 := k2
  generalize usedY (othL bs m.nm p.nm) m.nm = U at *
  generalize usedY (othL bs' m.nm p.nm) m.nm = U' at *
  have hh := (rtB_iff _ _ _ _ _).1 hm
  have a1 := (rtB_iff _ _ _ _ _).1 u1
  have a2 := (rtB_iff _ _ _ _ _).1 u2
  have m0 := minI_le (hasM m).r0 U.2.r0
  have m1 := minI_le (hasM m).r1 U.2.r1
  have m2 := minI_le (hasM m).r2 U.2.r2
  have m3 := minI_le (hasM m).r3 U.2.r3
  have m4 := minI_le (hasM m).r4 U.2.r4
  have w0 := minI_le (hasM m).r0 U'.2.r0
  have w1 := minI_le (hasM m).r1 U'.2.r1
  have w2 := minI_le (hasM m).r2 U'.2.r2
  have w3 := minI_le (hasM m).r3 U'.2.r3
  have w4 := minI_le (hasM m).r4 U'.2.r4
  unfold leR at k2
  refine suit_of g1 (room_of g2 ?_ ?_ (share_sub ho g5))
  · rw [e2]
    unfold rt5
    rw [rtB_iff]
    dsimp only
    omega
  · rw [e1] at g4
    rw [e2]
    unfold leR at g4 ⊢
    dsimp only at g4 ⊢
    omega
/-- The pod with less. -/
def pLess (p : Pd) (a0 a1 a2 a4 : Int) : Pd := { p with n0 := a0, n1 := a1, n2 := a2, n3 := 1, n4 := a4, pa := none, pk := 0, prts := [] }
theorem suit_less {m : Mac} {bs : List Bd} {p : Pd} {a0 a1 a2 a4 : Int} (h : suitS m bs p = 0) (h3 : p.n3 = 1) (h0 : 0 ≤ a0 ∧ a0 ≤ p.n0) (h1 : 0 ≤ a1 ∧ a1 ≤ p.n1) (h2 : 0 ≤ a2 ∧ a2 ≤ p.n2) (h4 : 0 ≤ a4 ∧ a4 ≤ p.n4) : suitS m bs (pLess p a0 a1 a2 a4) = 0 := by
  obtain ⟨g1, g2, g3, g4, g5, g6⟩ := suit_zero h h3
  have gn := (rtB_iff _ _ _ _ _).1 g2
  unfold needP at gn
  unfold leR needP at g4
  dsimp only at gn g4
  refine suit_of g1 (room_of ?_ g3 ?_ (share_nil _))
  · unfold rt5 needP pLess
    dsimp only
    rw [rtB_iff]
    omega
  · unfold leR needP pLess
    dsimp only
    show a0 ≤ (leftY m (othL bs m.nm p.nm)).r0 ∧ a1 ≤ (leftY m (othL bs m.nm p.nm)).r1 ∧ a2 ≤ (leftY m (othL bs m.nm p.nm)).r2 ∧ 1 ≤ (leftY m (othL bs m.nm p.nm)).r3 ∧ a4 ≤ (leftY m (othL bs m.nm p.nm)).r4
    omega
end Go.Proofs.Ythbpnfpalcgfeaa
