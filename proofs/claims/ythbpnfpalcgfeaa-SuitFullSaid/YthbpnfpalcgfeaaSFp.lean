/-
  Suit: a pod that was put on a machine, in plain words.
-/
import Derived.Test.YthbpnfpalcgfeaaSLp
import Derived.Test.YthbpnfpalcgfeaaYfM
namespace Go.Proofs.Ythbpnfpalcgfeaa
open Go.RowKit
set_option linter.unusedVariables false
set_option linter.unusedSimpArgs false

/-- No bound pod has the name. -/
def noName (bs : List Bd) (nm : ByteArray) : Prop := ∀ b ∈ bs, b.p.nm ≠ nm
theorem find_no : ∀ (l : List ByteArray) (x : ByteArray) (k : Nat), findN l x k < 0 → x ∉ l
  | [], x, k, h, hm => by cases hm
  | y :: l, x, k, h, hm => by
    unfold findN at h
    split at h
    · omega
    · rename_i hy
      rcases List.mem_cons.1 hm with e | hm
      · exact hy e.symm
      · exact find_no l x (k + 1) h hm
theorem noName_of {bs : List Bd} {nm : ByteArray} (h : findN (bs.map pnm) nm 0 < 0) : noName bs nm := fun b hb e => find_no _ _ _ h (List.mem_map.2 ⟨b, hb, e⟩)
theorem oth_no {bs : List Bd} {mm nm : ByteArray} (h : noName bs nm) : othL bs mm nm = bs.filter (isOn mm) := by
  unfold othL
  refine List.filter_congr fun b hb => ?_
  unfold othB isOn
  rw [decide_eq_false (h b hb), Bool.not_false, Bool.and_true]
theorem left_no {m : Mac} {bs : List Bd} {nm : ByteArray} (h : noName bs nm) : leftY m (othL bs m.nm nm) = leftY m bs := by
  have hu : usedY (othL bs m.nm nm) m.nm = usedY bs m.nm := by
    rw [oth_no h]
    unfold usedY
    exact (usB_all m.nm bs 0 R5.z).symm
  unfold leftY
  rw [hu]
theorem oth_more {bs : List Bd} {mm nm : ByteArray} {p : Pd} (h : p.nm = nm) : othL (bs ++ [⟨p, mm⟩]) mm nm = othL bs mm nm := by
  unfold othL
  rw [List.filter_append]
  show _ ++ List.filter (othB mm nm) [⟨p, mm⟩] = _
  rw [List.filter_cons]
  unfold othB
  rw [decide_eq_true h, Bool.not_true, Bool.and_false, if_neg (by decide)]
  exact List.append_nil _
theorem oth_more2 {bs : List Bd} {mm nm : ByteArray} {p : Pd} (h : noName (bs ++ [⟨p, mm⟩]) nm) : othL (bs ++ [⟨p, mm⟩]) mm nm = bs.filter (isOn mm) ++ [⟨p, mm⟩] := by
  rw [oth_no h, List.filter_append]
  show _ ++ List.filter (isOn mm) [⟨p, mm⟩] = _
  rw [List.filter_cons]
  unfold isOn
  rw [decide_eq_true rfl, if_pos rfl]
  rfl
theorem usB_app (nm : ByteArray) (b : Bd) (hb : b.on = nm) (hr : rtP b.p = true) : ∀ (l : List Bd) (e : Int) (r : R5), (usB nm l e r).1 = 0 → usB nm (l ++ [b]) e r = (addEP (usB nm l e r).2 b.p, addP (usB nm l e r).2 b.p)
  | [], e, r, h => by
    have he : e = 0 := h
    subst he
    show usB nm [b] 0 r = (addEP r b.p, addP r b.p)
    unfold usB
    rw [if_pos hb, if_pos hr, if_pos rfl]
    rfl
  | c :: l, e, r, h => by
    rw [List.cons_append]
    have e1 : ∀ l' : List Bd, usB nm (c :: l') e r = if c.on = nm then (if rtP c.p = true then (if e = 0 then usB nm l' (addEP r c.p) (addP r c.p) else usB nm l' e r) else (12, R5.z)) else usB nm l' e r := fun _ => rfl
    rw [e1] at h
    rw [e1, e1]
    split
    · rename_i h1
      rw [if_pos h1] at h
      split
      · rename_i h2
        rw [if_pos h2] at h
        split
        · rename_i h3
          rw [if_pos h3] at h
          exact usB_app nm b hb hr l _ _ h
        · rename_i h3
          rw [if_neg h3] at h
          exact usB_app nm b hb hr l _ _ h
      · rename_i h2
        rw [if_neg h2] at h
        cases h
    · rename_i h1
      rw [if_neg h1] at h
      exact usB_app nm b hb hr l _ _ h
/-- Twice its need is there. -/
def twice (p : Pd) (l : R5) : Prop := p.n0 * 2 ≤ l.r0 ∧ p.n1 * 2 ≤ l.r1 ∧ p.n2 * 2 ≤ l.r2 ∧ p.n3 * 2 ≤ l.r3 ∧ p.n4 * 2 ≤ l.r4
instance (p : Pd) (l : R5) : Decidable (twice p l) := by unfold twice; infer_instance
def wantS (p : Pd) (l : R5) : Int := if twice p l then (if 0 < p.prts.length then 3 else 0) else 2
/-- The same pod with another name. -/
def pName (p : Pd) (nm : ByteArray) : Pd := { p with nm := nm }
theorem suit_again {m : Mac} {bs : List Bd} {p : Pd} (h : suitS m bs p = 0) : suitS m (bs ++ [⟨p, m.nm⟩]) p = 0 := by
  unfold suitS roomS at h ⊢
  rw [oth_more rfl]
  exact h
theorem share_self {l : List Bd} {b : Bd} (h : 0 < b.p.prts.length) : shareQ (l ++ [b]) b.p.prts = true := by
  unfold shareQ
  rw [List.any_append]
  have : prtsIn b.p.prts b = true := by
    unfold prtsIn
    obtain ⟨x, hx⟩ := mem_at (l := b.p.prts) (k := 0) h
    refine List.any_eq_true.2 ⟨x, List.mem_of_getElem? hx, ?_⟩
    unfold prtIn
    refine List.any_eq_true.2 ⟨x, List.mem_of_getElem? hx, ?_⟩
    unfold Lb.intB
    simp
  rw [List.any_cons, this]
  simp
theorem room_name (m : Mac) (bs : List Bd) (p : Pd) (nm : ByteArray) : roomS m bs (pName p nm) = (if Rs.fitsB p.n0 p.n1 p.n2 p.n3 p.n4 (leftY m (othL bs m.nm nm)).r0 (leftY m (othL bs m.nm nm)).r1 (leftY m (othL bs m.nm nm)).r2 (leftY m (othL bs m.nm nm)).r3 (leftY m (othL bs m.nm nm)).r4 = false then (2 : Int) else if shareQ (othL bs m.nm nm) p.prts = true then (3 : Int) else 0) := by
  unfold roomS pName
  rfl
theorem suit_place {m : Mac} {bs : List Bd} {p : Pd} (h : placeS m p = 0) : suitS m bs p = roomS m bs p := by
  unfold suitS
  rw [if_pos h]
set_option maxRecDepth 100000 in
set_option maxHeartbeats 4000000 in
theorem suit_second {m : Mac} {bs : List Bd} {p : Pd} {nm : ByteArray} (hm : rt5 (hasM m) = true) (h : suitS m bs p = 0) (h3 : p.n3 = 1) (hr : rtP p = true) (hp : noName bs p.nm) (hq : noName (bs ++ [⟨p, m.nm⟩]) nm) : suitS m (bs ++ [⟨p, m.nm⟩]) (pName p nm) = wantS p (leftY m bs) := by
  obtain ⟨g1, g2, g3, g4, g5, g6⟩ := suit_zero h h3
  rw [left_no hp] at g3 g4
  rw [oth_no hp] at g6
  have g6 : (usB m.nm (bs.filter (isOn m.nm)) 0 R5.z).1 = 0 := g6
  have ea := usB_app m.nm ⟨p, m.nm⟩ rfl hr _ _ _ g6
  rw [← usB_all] at g6 ea
  have hu := usedY_right (bs := bs) (nm := m.nm) g6
  have e1 : leftY m bs = _ := (if_pos (show (usedY bs m.nm).1 = 0 from g6)).trans (left_plain hm hu)
  have gu := (rtB_iff _ _ _ _ _).1 hu
  have gh := (rtB_iff _ _ _ _ _).1 hm
  have gn := (rtB_iff _ _ _ _ _).1 g2
  unfold needP at gn
  dsimp only at gn
  obtain ⟨u, hU⟩ : ∃ u, (usedY bs m.nm).2 = u := ⟨_, rfl⟩
  rw [hU] at e1 gu hu
  have ea : usedY (othL (bs ++ [⟨p, m.nm⟩]) m.nm nm) m.nm = (addEP u p, addP u p) := by
    rw [oth_more2 hq]
    rw [← hU]
    exact ea
  obtain ⟨v0, v1, v2, v3, v4⟩ := u
  have k0 := minI_le (hasM m).r0 v0
  have k1 := minI_le (hasM m).r1 v1
  have k2 := minI_le (hasM m).r2 v2
  have k3 := minI_le (hasM m).r3 v3
  have k4 := minI_le (hasM m).r4 v4
  rw [e1] at g4
  unfold leR needP at g4
  dsimp only at g4 gu
  have hz : addEP ⟨v0, v1, v2, v3, v4⟩ p = 0 := by
    unfold addEP Rs.addE
    rw [if_pos ⟨hu, hr⟩, if_pos (by dsimp only; omega)]
  obtain ⟨-, -, hadd, hle⟩ := addEP_zero hz
  dsimp only at hadd hle
  have hu2 : rt5 (addP ⟨v0, v1, v2, v3, v4⟩ p) = true := addP_right _ _
  have e2 : leftY m (othL (bs ++ [⟨p, m.nm⟩]) m.nm nm) = ⟨(leftY m bs).r0 - p.n0, (leftY m bs).r1 - p.n1, (leftY m bs).r2 - p.n2, (leftY m bs).r3 - p.n3, (leftY m bs).r4 - p.n4⟩ := by
    have e3 : leftY m (othL (bs ++ [⟨p, m.nm⟩]) m.nm nm) = subP (hasM m) (lstP (hasM m) (addP ⟨v0, v1, v2, v3, v4⟩ p)) := by
      unfold leftY
      rw [ea, hz]
      rfl
    rw [e3, left_plain hm hu2, e1, hadd]
    have s0 := minI_le (hasM m).r0 (v0 + p.n0)
    have s1 := minI_le (hasM m).r1 (v1 + p.n1)
    have s2 := minI_le (hasM m).r2 (v2 + p.n2)
    have s3 := minI_le (hasM m).r3 (v3 + p.n3)
    have s4 := minI_le (hasM m).r4 (v4 + p.n4)
    congr 1 <;> (dsimp only; omega)
  generalize leftY m bs = l at *
  obtain ⟨l0, l1, l2, l3, l4⟩ := l
  have hpl : placeS m (pName p nm) = 0 := g1
  have hro : roomS m (bs ++ [⟨p, m.nm⟩]) (pName p nm) = (if Rs.fitsB p.n0 p.n1 p.n2 p.n3 p.n4 (leftY m (othL (bs ++ [⟨p, m.nm⟩]) m.nm nm)).r0 (leftY m (othL (bs ++ [⟨p, m.nm⟩]) m.nm nm)).r1 (leftY m (othL (bs ++ [⟨p, m.nm⟩]) m.nm nm)).r2 (leftY m (othL (bs ++ [⟨p, m.nm⟩]) m.nm nm)).r3 (leftY m (othL (bs ++ [⟨p, m.nm⟩]) m.nm nm)).r4 = false then (2 : Int) else if shareQ (othL (bs ++ [⟨p, m.nm⟩]) m.nm nm) p.prts = true then (3 : Int) else 0) := room_name m _ p nm
  rw [suit_place hpl, hro]
  unfold wantS
  rw [e2, oth_more2 hq]
  dsimp only
  have g3 := (rtB_iff _ _ _ _ _).1 g3
  dsimp only at g3
  have hff := fits_iff (needP p) ⟨l0 - p.n0, l1 - p.n1, l2 - p.n2, l3 - p.n3, l4 - p.n4⟩
  unfold needP at hff
  dsimp only at hff
  injection e1 with j0 j1 j2 j3 j4
  by_cases ht : twice p ⟨l0, l1, l2, l3, l4⟩
  · rw [if_pos ht]
    unfold twice at ht
    dsimp only at ht
    rw [if_neg (by rw [hff.2 ⟨g2, by unfold rt5; rw [rtB_iff]; dsimp only; omega, by unfold leR; dsimp only; omega⟩]; decide)]
    by_cases hx : 0 < p.prts.length
    · rw [if_pos hx, if_pos (share_self (b := ⟨p, m.nm⟩) hx)]
    · rw [if_neg hx]
      have hn : p.prts = [] := List.length_eq_zero_iff.1 (by omega)
      rw [hn, if_neg (by rw [share_nil]; decide)]
  · rw [if_neg ht]
    have hf : Rs.fitsB p.n0 p.n1 p.n2 p.n3 p.n4 (l0 - p.n0) (l1 - p.n1) (l2 - p.n2) (l3 - p.n3) (l4 - p.n4) = false := by
      rw [Bool.eq_false_iff]
      intro hh
      have h9 := (hff.1 hh).2.2
      unfold leR at h9
      dsimp only at h9
      apply ht
      unfold twice
      dsimp only
      omega
    rw [if_pos hf]
end Go.Proofs.Ythbpnfpalcgfeaa
