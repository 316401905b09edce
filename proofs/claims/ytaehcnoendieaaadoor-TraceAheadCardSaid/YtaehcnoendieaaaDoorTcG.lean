/-
  The document's read, of any text.
-/
import Derived.Test.YtaehcnoendieaaaDoorTcE
namespace Go.Proofs.YtaehcnoendieaaaDoor
open Go.RowKit
set_option linter.unusedVariables false
set_option linter.unusedSimpArgs false

theorem partsL_le : ∀ (l : List UInt8), (∀ x ∈ partsL l, x.length ≤ l.length) ∧ (partsL l).length ≤ l.length + 1
  | [] => ⟨fun x hx => by rw [partsL] at hx; rw [List.mem_singleton.1 hx]; exact Nat.le_refl _, Nat.le_refl _⟩
  | c :: l => by
    obtain ⟨i1, i2⟩ := partsL_le l
    rw [partsL]
    split
    · refine ⟨fun x hx => ?_, by simp only [List.length_cons]; omega⟩
      rcases List.mem_cons.1 hx with rfl | hx
      · exact Nat.zero_le _
      · have := i1 x hx
        simp only [List.length_cons]; omega
    · cases hp : partsL l with
      | nil => exact ⟨fun x hx => by rw [List.mem_singleton.1 hx]; simp, by simp⟩
      | cons h t =>
        rw [hp] at i1 i2
        refine ⟨fun x hx => ?_, by simp only [List.length_cons] at i2 ⊢; omega⟩
        rcases List.mem_cons.1 hx with rfl | hx
        · have := i1 h (by simp)
          simp only [List.length_cons]; omega
        · have := i1 x (List.mem_cons_of_mem _ hx)
          simp only [List.length_cons]; omega
def evV (e : Ev) : Value := .agg #[.int .i64 e.now, .string e.what, .string e.name, .int .i64 e.n]
set_option maxRecDepth 100000 in
set_option maxHeartbeats 8000000 in
theorem read_bad (t : ByteArray) (P : List ByteArray) (w : World) (ht : t.size ≤ 100000) (hP : P.length ≤ 200000) (hs : ∀ x ∈ P, x.size ≤ 100000)
    (hbad : ¬ (2 ≤ P.length ∧ P.length ≤ 4 ∧ 2 ≤ (P.getD 0 emp).size))
    (hC : ∀ V : World, Calls Tryd.prog 41 #[.string t] V (Gives V (OwnL scs 1 V.heap.size 9 P))) :
    Calls Tryd.prog 26 #[.string t] w fun r w' => r = .returned (.tuple #[.agg #[.int .i64 0, .string ⟨#[]⟩, .string ⟨#[]⟩, .int .i64 0], .bool false]) ∧ Below w.heap.size w w' := by
  have HC := Lib.hid (fun (V : World) (hV : Below w.heap.size w V) => hC V)
  obtain ⟨n, hn⟩ : ∃ n, P.length = n := ⟨_, rfl⟩
  have HN := Lib.hid hn
  clear hC
  by_cases h1 : n < 2
  · have g1 : decide ((n : Int) < 2) = true := decide_eq_true (by omega)
    clear hbad hs
    go_enter Tryd.func26, Tryd.ntmps26
    go_wp2_with (go_at_call 41; (with_reducible refine (HC.out _ (show Below w.heap.size w _ from by (repeat' (first | with_reducible exact Below.refl _ _ | with_reducible assumption | with_reducible refine Below.drew ?_ | with_reducible refine below_drewN' ?_ _ | with_reducible refine Below.alloc ?_ ?_ _ | with_reducible refine Below.setCell ?_ ?_ _ | with_reducible refine below_step (by assumption) ?_ ?_ | omega | (simp; done) | (simp; omega))))).mono ?_); rintro e w1 ⟨⟨v, rfl, hv⟩, hb1⟩; obtain ⟨a, cp, rfl, -, hx⟩ := OwnL.isL scs_len (by decide) hv; rw [HN.out]; obtain ⟨hc1, hf1⟩ := bcell hb1; have hz1 := hb1.size; (try simp at hz1); clear hx hv)
    refine bodyPost_ret (v := .tuple #[.agg #[.int .i64 0, .string ⟨#[]⟩, .string ⟨#[]⟩, .int .i64 0], .bool false]) (by simp [results, Tryd.results26, go_sem, *]) rfl ⟨rfl, ?_⟩
    (repeat' (first | with_reducible exact Below.refl _ _ | with_reducible assumption | with_reducible refine Below.drew ?_ | with_reducible refine below_drewN' ?_ _ | with_reducible refine Below.alloc ?_ ?_ _ | with_reducible refine Below.setCell ?_ ?_ _ | with_reducible refine below_step (by assumption) ?_ ?_ | omega | (simp; done) | (simp; omega)))
  · have g1 : decide ((n : Int) < 2) = false := decide_eq_false (by omega)
    by_cases h2 : 4 < n
    · have g2 : decide (4 < (n : Int)) = true := decide_eq_true (by omega)
      clear hbad hs
      go_enter Tryd.func26, Tryd.ntmps26
      go_wp2_with (go_at_call 41; (with_reducible refine (HC.out _ (show Below w.heap.size w _ from by (repeat' (first | with_reducible exact Below.refl _ _ | with_reducible assumption | with_reducible refine Below.drew ?_ | with_reducible refine below_drewN' ?_ _ | with_reducible refine Below.alloc ?_ ?_ _ | with_reducible refine Below.setCell ?_ ?_ _ | with_reducible refine below_step (by assumption) ?_ ?_ | omega | (simp; done) | (simp; omega))))).mono ?_); rintro e w1 ⟨⟨v, rfl, hv⟩, hb1⟩; obtain ⟨a, cp, rfl, -, hx⟩ := OwnL.isL scs_len (by decide) hv; rw [HN.out]; obtain ⟨hc1, hf1⟩ := bcell hb1; have hz1 := hb1.size; (try simp at hz1); clear hx hv)
      refine bodyPost_ret (v := .tuple #[.agg #[.int .i64 0, .string ⟨#[]⟩, .string ⟨#[]⟩, .int .i64 0], .bool false]) (by simp [results, Tryd.results26, go_sem, *]) rfl ⟨rfl, ?_⟩
      (repeat' (first | with_reducible exact Below.refl _ _ | with_reducible assumption | with_reducible refine Below.drew ?_ | with_reducible refine below_drewN' ?_ _ | with_reducible refine Below.alloc ?_ ?_ _ | with_reducible refine Below.setCell ?_ ?_ _ | with_reducible refine below_step (by assumption) ?_ ?_ | omega | (simp; done) | (simp; omega)))
    · have g2 : decide (4 < (n : Int)) = false := decide_eq_false (by omega)
      cases P with
      | nil => exfalso; simp at hn; omega
      | cons p0 P =>
        have h3 : p0.size < 2 := by
          rcases Nat.lt_or_ge p0.size 2 with h | h
          · exact h
          · exact absurd ⟨by omega, by omega, h⟩ hbad
        have g3 : decide ((p0.size : Int) < 2) = true := decide_eq_true (by omega)
        have hn0 : 0 < n := by omega
        clear hbad hs
        go_enter Tryd.func26, Tryd.ntmps26
        go_wp2_with (go_at_call 41; (with_reducible refine (HC.out _ (show Below w.heap.size w _ from by (repeat' (first | with_reducible exact Below.refl _ _ | with_reducible assumption | with_reducible refine Below.drew ?_ | with_reducible refine below_drewN' ?_ _ | with_reducible refine Below.alloc ?_ ?_ _ | with_reducible refine Below.setCell ?_ ?_ _ | with_reducible refine below_step (by assumption) ?_ ?_ | omega | (simp; done) | (simp; omega))))).mono ?_); rintro e w1 ⟨⟨v, rfl, hv⟩, hb1⟩; obtain ⟨a, cp, rfl, -, hx⟩ := OwnL.isL scs_len (by decide) hv; rw [HN.out]; obtain ⟨hc1, hf1⟩ := bcell hb1; have hz1 := hb1.size; (try simp at hz1); obtain ⟨b, o, rfl, hbb, hcs⟩ := hx (by rw [HN.out]; exact hn0); have pc0 : w1.cell? ⟨b, o, none⟩ = some (.string p0) := (hcs 0 _ rfl 0 (by decide)); clear hcs hx hv)
        refine bodyPost_ret (v := .tuple #[.agg #[.int .i64 0, .string ⟨#[]⟩, .string ⟨#[]⟩, .int .i64 0], .bool false]) (by simp [results, Tryd.results26, go_sem, *]) rfl ⟨rfl, ?_⟩
        (repeat' (first | with_reducible exact Below.refl _ _ | with_reducible assumption | with_reducible refine Below.drew ?_ | with_reducible refine below_drewN' ?_ _ | with_reducible refine Below.alloc ?_ ?_ _ | with_reducible refine Below.setCell ?_ ?_ _ | with_reducible refine below_step (by assumption) ?_ ?_ | omega | (simp; done) | (simp; omega)))
/-- What read gives back: an event, and whether it is the right one whose line the text is. -/
theorem read_any (t : ByteArray) (ht : t.size ≤ 100000) (w : World) :
    Calls Tryd.prog 26 #[.string t] w fun r w' => (∃ E : Ev, r = .returned (.tuple #[evV E, .bool (readL t).isSome]) ∧ ∀ e, readL t = some e → E = e) ∧ Below w.heap.size w w' := by
  have hC : ∀ V : World, Calls Tryd.prog 41 #[.string t] V (Gives V (OwnL scs 1 V.heap.size 9 ((partsL (dl t)).map lsB))) := fun V => rcut_any t ht V
  obtain ⟨l1, l2⟩ := partsL_le (dl t)
  rw [dl_size] at l1 l2
  have hRL : readL t = if 2 ≤ (partsL (dl t)).length ∧ (partsL (dl t)).length ≤ 4 ∧ 2 ≤ ((partsL (dl t)).getD 0 []).length then (if rightE (readE (partsL (dl t))) = true ∧ lineE (readE (partsL (dl t))) = t then some (readE (partsL (dl t))) else none) else none := rfl
  by_cases hc : 2 ≤ (partsL (dl t)).length ∧ (partsL (dl t)).length ≤ 4 ∧ 2 ≤ ((partsL (dl t)).getD 0 []).length
  · rw [if_pos hc] at hRL
    have fin : ∀ (E : Ev), readE (partsL (dl t)) = E → (Calls Tryd.prog 26 #[.string t] w fun r w' => r = .returned (.tuple #[evV E, .bool (rightE E && decide (lineE E = t))]) ∧ Below w.heap.size w w') → Calls Tryd.prog 26 #[.string t] w fun r w' => (∃ E : Ev, r = .returned (.tuple #[evV E, .bool (readL t).isSome]) ∧ ∀ e, readL t = some e → E = e) ∧ Below w.heap.size w w' := by
      intro E hE hcall
      rw [hE] at hRL
      refine hcall.mono fun r w' ⟨h1, h2⟩ => ⟨⟨E, ?_, fun e he => ?_⟩, h2⟩
      · rw [h1, hRL]
        by_cases h3 : rightE E = true
        · by_cases h4 : lineE E = t
          · rw [if_pos ⟨h3, h4⟩, h3, decide_eq_true h4]; rfl
          · rw [if_neg (fun h => h4 h.2), h3, decide_eq_false h4]; rfl
        · rw [if_neg (fun h => h3 h.1), Bool.eq_false_iff.2 h3]; rfl
      · rw [hRL] at he
        split at he
        · exact Option.some.inj he
        · cases he
    obtain ⟨hc1, hc2, hc3⟩ := hc
    match hp : partsL (dl t), hc1, hc2, hc3 with
    | [], h, _, _ => exact absurd h (by decide)
    | [_], h, _, _ => exact absurd h (by simp)
    | [p0, p1], _, _, h =>
      rw [hp] at hC l1
      exact fin ⟨(numT p0.dropLast : Nat), lsB p1, emp, 0⟩ (by rw [hp]; rfl) (read_two t (lsB p0) (lsB p1) w ht (by rw [ls_size]; exact h) (by rw [ls_size]; have := l1 p0 (by simp); omega) (by decide) trivial hC)
    | [p0, p1, p2], _, _, h =>
      rw [hp] at hC l1
      exact fin ⟨(numT p0.dropLast : Nat), lsB p1, lsB p2, 0⟩ (by rw [hp]; rfl) (read_three t (lsB p0) (lsB p1) (lsB p2) w ht (by rw [ls_size]; exact h) (by rw [ls_size]; have := l1 p0 (by simp); omega) (by rw [ls_size]; have := l1 p2 (by simp); omega) trivial hC)
    | [p0, p1, p2, p3], _, _, h =>
      rw [hp] at hC l1
      exact fin ⟨(numT p0.dropLast : Nat), lsB p1, lsB p2, (numT p3 : Nat)⟩ (by rw [hp]; rfl) (read_four t (lsB p0) (lsB p1) (lsB p2) (lsB p3) w ht (by rw [ls_size]; exact h) (by rw [ls_size]; have := l1 p0 (by simp); omega) (by rw [ls_size]; have := l1 p2 (by simp); omega) (fun V => rnum_any (lsB p3) (by rw [ls_size]; have := l1 p3 (by simp); omega) V) hC)
    | _ :: _ :: _ :: _ :: _ :: _, _, h, _ => exact absurd h (by simp)
  · rw [if_neg hc] at hRL
    refine (read_bad t _ w ht (by rw [List.length_map]; omega) (fun x hx => ?_) (fun h => hc ?_) hC).mono fun r w' ⟨h1, h2⟩ => ⟨⟨⟨0, emp, emp, 0⟩, ?_, fun e he => ?_⟩, h2⟩
    · obtain ⟨y, hy, rfl⟩ := List.mem_map.1 hx
      rw [ls_size]
      have := l1 y hy
      omega
    · rw [List.length_map] at h
      refine ⟨h.1, h.2.1, ?_⟩
      cases hp : partsL (dl t) with
      | nil => rw [hp] at h; exact absurd h.1 (by decide)
      | cons a l =>
        rw [hp] at h
        have := h.2.2
        have e : (List.getD (List.map lsB (a :: l)) 0 emp).size = a.length := ls_size a
        rw [e] at this
        exact this
    · rw [h1, hRL]
      rfl
    · rw [hRL] at he
      cases he
end Go.Proofs.YtaehcnoendieaaaDoor
