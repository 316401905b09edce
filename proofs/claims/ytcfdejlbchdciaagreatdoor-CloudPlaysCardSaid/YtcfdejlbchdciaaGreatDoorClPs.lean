/-
  Both providers side by side: copies; what is read of them.
-/
import Derived.Test.YtcfdejlbchdciaaGreatDoorClPr
import Derived.Test.YtcfdejlbchdciaaGreatDoorClCp
namespace Go.Proofs.YtcfdejlbchdciaaGreatDoor
open Go.RowKit
set_option linter.unusedVariables false
set_option linter.unusedSimpArgs false

section
variable {w0 w w' : World} {b c m n m' n' : Nat} {ga : Option Addr} {gka : Nat} {Gr : List Gp} {s s1 s2 : CS} {F : List Nat}
theorem P2.gk (h : P2 w0 b c ga gka Gr s1 s2 m n F w) : s2.G = Gr.map gkOf := by
  obtain ⟨⟨tv, lav, bv, lr, h1, h2, h3⟩, h4⟩ := h
  exact h1.gk.symm
theorem P2.len (h : P2 w0 b c ga gka Gr s1 s2 m n F w) : Gr.length ≤ 16 := by
  have e := h.gk
  have := h.ok.g16
  rw [e, List.length_map] at this
  exact this
theorem P2.rcell (h : P2 w0 b c ga gka Gr s1 s2 m n F w) : w.cell? ⟨c, 0, none⟩ = some (.slice ga Gr.length gka) ∧ w.cell? ⟨c, 6, none⟩ = some (.int .i64 s2.nw) ∧ w.cell? ⟨c, 7, none⟩ = some (.int .i64 s2.ca) := by
  obtain ⟨⟨tv, lav, bv, lr, h1, h2, h3⟩, h4⟩ := h
  exact ⟨h1.row.cell 0, h1.row.cell 6, h1.row.cell 7⟩
theorem P2.list (h : P2 w0 b c ga gka Gr s1 s2 m n F w) : ∃ a k, w.cell? ⟨c, 4, none⟩ = some (.slice a s2.L.length k) ∧ InsL w a s2.L := by
  obtain ⟨⟨tv, lav, bv, lr, h1, h2, h3⟩, h4⟩ := h
  obtain ⟨a, k, e, _, hr⟩ := OwnL.isL irow_len (by decide) (show OwnL irow 5 w0.heap.size 41 s2.L lr w from h1.lo)
  refine ⟨a, k, ?_, hr⟩
  rw [← e]
  exact h1.row.cell 4
/-- What lies there of a group: its name, and its target. -/
theorem P2.at (h : P2 w0 b c ga gka Gr s1 s2 m n F w) {j : Nat} (hj : j < Gr.length) : ∃ (g : Gk) (p : Pl) (qt kt gb go : Nat), s2.G[j]? = some g ∧ s2.P[j]? = some p ∧ ga = some ⟨gb, go, none⟩ ∧ w.cell? ⟨c, 1, none⟩ = some (.slice (some ⟨qt, 0, none⟩) Gr.length kt) ∧ w.cell? ⟨qt, j, none⟩ = some (.int .i64 (s2.tgt g.nm)) ∧ w.cell? ⟨gb, go + j * 15, none⟩ = some (.string g.nm) ∧ qt < w.heap.size ∧ gb < w0.heap.size := by
  have hok := h.ok
  have hlen : Gr.length = s2.G.length := by rw [h.gk, List.length_map]
  obtain ⟨⟨tv, lav, bv, lr, h1, h2, h3⟩, h4⟩ := h
  obtain ⟨g, hg⟩ := mem_at (l := s2.G) (k := j) (by omega)
  obtain ⟨p, qt, kt, ql, kl, qb, kb, gb, go, hp, e1, e2, e3, e4, d0, d1, d2, d3, d4, d5, l1, l2, l3, l4⟩ := h1.at hok.ln hg
  refine ⟨g, p, qt, kt, gb, go, hg, hp, e4, ?_, ?_, d3, l1, l4⟩
  · have h9 := h1.row.cell 1
    dsimp only [List.getElem?_cons_zero, List.getElem?_cons_succ] at h9
    rw [e1] at h9
    rw [h9, hlen, hok.ln]
  · rw [d0]
    unfold CS.tgt
    rw [fndK_nd hok.nd hg]
    dsimp only
    rw [hp]
/-- What a Copy gives, beside both. -/
def Aside (w0 w : World) (N X : Nat) (s : CS) : Prop := ∃ C gv pv lv, CT w N X C s gv pv lv ∧ GL C
theorem P2.copy (h : P2 w0 b c ga gka Gr s1 s2 m n F w) (hm : m ≤ 100) :
    Calls Tryz.prog 33 #[.pointer (some ⟨b, 0, none⟩)] w fun e w' => ∃ X, e = .returned (.pointer (some ⟨X, 0, none⟩)) ∧ Aside w0 w' w.heap.size X s1 ∧ P2 w0 b c ga gka Gr s1 s2 m n (List.range' w.heap.size (w'.heap.size - w.heap.size) ++ F) w' := by
  have h9 := h
  obtain ⟨⟨tv, lav, bv, lr, h1, h2, h3⟩, h4⟩ := h
  have l6 := h2.l6 hm
  obtain ⟨⟨G, gv, pv, lv, g1, g2, g3⟩, g4, g5⟩ := h2
  have hG : G.length = s1.G.length := by rw [← g1.gk, List.length_map]
  have h16 := g5.g16
  have hP := g5.ln
  refine (ccopy_any w0.heap.size b G s1 gv pv lv w g1 g2 (by omega) (by omega) l6).mono ?_
  rintro e w' ⟨⟨X, C, gv', pv', lv', rfl, hC, hL⟩, hb⟩
  exact ⟨X, rfl, ⟨C, gv', pv', lv', hC, hL⟩, h9.add hb fun z hz => by
    have := List.mem_range'_1.1 hz
    have := hb.size
    omega⟩
/-- The copy takes the place. -/
theorem P2.swap {N X : Nat} {w1 : World} (h : P2 w0 b c ga gka Gr s1 s2 m n F w) (hA : Aside w0 w1 N X s) (hN : w0.heap.size ≤ N) (hF : ∀ z, N ≤ z → z < w1.heap.size → z ∈ F) (hK : ∀ z ∈ F, w.heap[z]? = w1.heap[z]?) (hz : w1.heap.size ≤ w.heap.size) (hok : s.Ok m') : P2 w0 X c ga gka Gr s s2 m' n [] w := by
  obtain ⟨⟨tv, lav, bv, lr, h1, h2, h3⟩, h4⟩ := h
  obtain ⟨C, gv, pv, lv, g1, g2⟩ := hA
  have g5 := g1.kept (w' := w) fun z z1 z2 => hK z (hF z z1 z2)
  refine ⟨⟨tv, lav, bv, lr, h1, ⟨⟨C, gv, pv, lv, g5.less hN, g2, fun z hz9 => ?_⟩, h1.bl, hok⟩, fun z hz => by cases hz⟩, h4⟩
  rw [List.append_nil] at hz9
  refine ⟨(h1.blocks z hz9).2, fun hm => ?_⟩
  have h8 := g1.blocks z hm
  exact h3 z (hF z h8.1 h8.2) hz9
end
theorem word_emp : wordB emp = false := by kernel_rfl
theorem right_noemp {l : List Gp} (h : rightGs l = true) : fndK (l.map gkOf) emp = none := by
  cases hf : fndK (l.map gkOf) emp with
  | none => rfl
  | some j =>
    obtain ⟨g, hg, hn⟩ := fndK_lt hf
    rw [List.getElem?_map] at hg
    cases hx : l[j]? with
    | none => rw [hx] at hg; cases hg
    | some x =>
      rw [hx] at hg
      obtain rfl := Option.some.inj hg
      obtain ⟨h1, _, _⟩ := okG_all h hx
      unfold rightG at h1
      simp only [Bool.and_eq_true] at h1
      obtain ⟨⟨⟨⟨⟨⟨⟨⟨hw, _⟩, _⟩, _⟩, _⟩, _⟩, _⟩, _⟩, _⟩ := h1
      have hn : x.nm = emp := hn
      rw [hn, word_emp] at hw
      cases hw
theorem tgt_emp {s : CS} (h : fndK s.G emp = none) : s.tgt emp = 0 := by unfold CS.tgt; rw [h]
end Go.Proofs.YtcfdejlbchdciaaGreatDoor
