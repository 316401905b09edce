/-
  Texts in quotes in the document's way, in plain words; its Scan at such a text.
-/
import Derived.Test.YtlndfognkkobaaaTrU
import Derived.Deep.Cut
namespace Go.Proofs.Ytlndfognkkobaaa
open Go.RowKit
set_option linter.unusedVariables false
set_option linter.unusedSimpArgs false

theorem Sat.get {src : ByteArray} {pos : Nat} {x y : UInt8} {t : List UInt8} (h : Sat src pos (x :: y :: t)) : src.get! (pos + 1) = y := by
  rw [get_drop, h.d]
  rfl
theorem quF_run {src : ByteArray} {a : Nat} : ∀ (c : List (List UInt8 × Nat)) {pos f : Nat} {t acc : List UInt8}, Chs fineN c → Sat src pos (qL (cat c) ++ t) → src.size ≤ pos + f →
    ∃ g, quF src a f pos acc = quF src a g (pos + (qL (cat c)).length) (acc ++ cat c) ∧ src.size ≤ pos + (qL (cat c)).length + g
  | [], pos, f, t, acc, _, _, hf => ⟨f, by show _ = quF src a f (pos + 0) (acc ++ []); rw [List.append_nil, Nat.add_zero], hf⟩
  | (b, r) :: c, pos, f, t, acc, ⟨h1, h2, h3⟩, hS, hf => by
    have hS' : Sat src pos (qL b ++ (qL (cat c) ++ t)) := by
      have h9 := hS
      rw [show cat ((b, r) :: c) = b ++ cat c from rfl, qL_app, List.append_assoc] at h9
      exact h9
    have hlen : (qL (cat ((b, r) :: c))).length = (qL b).length + (qL (cat c)).length := by rw [show cat ((b, r) :: c) = b ++ cat c from rfl, qL_app, List.length_append]
    have fin : ∀ f', src.size ≤ pos + (qL b).length + f' → quF src a f pos acc = quF src a f' (pos + (qL b).length) (acc ++ b) → ∃ g, quF src a f pos acc = quF src a g (pos + (qL (cat ((b, r) :: c))).length) (acc ++ cat ((b, r) :: c)) ∧ src.size ≤ pos + (qL (cat ((b, r) :: c))).length + g := fun f' hf' e => by
      obtain ⟨g, e2, e3⟩ := quF_run c (acc := acc ++ b) h3 hS'.next hf'
      refine ⟨g, ?_, by rw [hlen, ← Nat.add_assoc]; exact e3⟩
      rw [e, e2, hlen, Nat.add_assoc, List.append_assoc]
      rfl
    have esc : ∀ (x y : UInt8), qL b = [92, y] → b = [x] → (y = 110 ∨ y = 34 ∨ y = 92) → (if y = 110 then (10 : UInt8) else y) = x → ∃ g, quF src a f pos acc = quF src a g (pos + (qL (cat ((b, r) :: c))).length) (acc ++ cat ((b, r) :: c)) ∧ src.size ≤ pos + (qL (cat ((b, r) :: c))).length + g := fun x y e1 e2 hy hx => by
      have hA : Sat src pos ([92] ++ ([y] ++ (qL (cat c) ++ t))) := by rw [e1] at hS'; exact hS'
      have r92 : Rn [92] 92 := Rn.one 92 (by decide)
      obtain ⟨d1, d2, d3⟩ := hA.dec r92
      have hg : src.get! (pos + 1) = y := Sat.get (x := 92) (t := qL (cat c) ++ t) hA
      have hl := hA.len
      rw [List.length_append, List.length_append] at hl
      have hl : src.size = pos + (1 + (1 + (qL (cat c) ++ t).length)) := hl
      obtain ⟨f, rfl⟩ : ∃ g, f = g + 1 := ⟨f - 1, by omega⟩
      refine fin f (by rw [e1]; show _ ≤ pos + 2 + f; omega) ?_
      rw [quF_esc d1 (fun h => by rcases h with h | h; rw [d3] at h; cases h; rw [d2] at h; exact absurd h (by decide)) (by rw [d2]), hg, if_neg (fun h => by rcases h with h | h; omega; exact h hy), hx, e1, e2]
      rfl
    have one : qL b = b → r ≠ 34 → r ≠ 92 → ∃ g, quF src a f pos acc = quF src a g (pos + (qL (cat ((b, r) :: c))).length) (acc ++ cat ((b, r) :: c)) ∧ src.size ≤ pos + (qL (cat ((b, r) :: c))).length + g := fun e n1 n2 => by
      have hA := hS'
      rw [e] at hA
      obtain ⟨d1, d2, d3⟩ := hA.dec h1
      obtain ⟨f, rfl⟩ : ∃ g, f = g + 1 := ⟨f - 1, by omega⟩
      have hb : 0 < b.length := List.length_pos_iff.2 h1.ne
      refine fin f (by rw [e]; omega) ?_
      rw [quF_more d1 (fun h => by rcases h with h | h; rw [d3] at h; cases h; rw [d2] at h; rw [show oddR ((r : Nat) : Int) = false from h2] at h; cases h) (by rw [d2]; exact n1) (by rw [d2]; exact n2), d2, e]
      dsimp only
      rw [hA.ext]
    rcases h1.bytes with ⟨x, rfl, hx, hl⟩ | ⟨hl, hb⟩
    · by_cases x1 : x = 10
      · subst x1
        exact esc 10 110 rfl rfl (.inl rfl) rfl
      by_cases x2 : x = 34
      · subst x2
        exact esc 34 34 rfl rfl (.inr (.inl rfl)) rfl
      by_cases x3 : x = 92
      · subst x3
        exact esc 92 92 rfl rfl (.inr (.inr rfl)) rfl
      have ne : ∀ y : UInt8, x ≠ y → r ≠ y.toNat := fun y h e => h (UInt8.toNat_inj.1 (by omega))
      exact one (by show escB x ++ [] = [x]; unfold escB; rw [if_neg x1, if_neg x2, if_neg x3]; rfl) (ne 34 x2) (ne 92 x3)
    · exact one (qL_big hb) (by omega) (by omega)
theorem quB_fine {s : ByteArray} (h : TextOk s) : quB (quoteB s) 0 = (s, ((quoteB s).size : Int), 0, 0) := by
  obtain ⟨c, h1, h2⟩ := h
  have hS0 : Sat (quoteB s) 0 ([34] ++ (qL (cat c) ++ [34])) := by
    have := Sat.start (quoteB s)
    rw [quote_list, h2] at this
    exact this
  have hS1 : Sat (quoteB s) (0 + 1) (qL (cat c) ++ [34]) := hS0.next
  obtain ⟨g, e1, e2⟩ := quF_run (a := 0) (f := (quoteB s).size) (acc := []) c h1 hS1 (by omega)
  have hS2 : Sat (quoteB s) (0 + 1 + (qL (cat c)).length) ([34] ++ []) := hS1.next
  obtain ⟨d1, d2, d3⟩ := hS2.dec (Rn.one 34 (by decide))
  have hl := hS2.len
  have hl : (quoteB s).size = 0 + 1 + (qL (cat c)).length + 1 := hl
  obtain ⟨g, rfl⟩ : ∃ k, g = k + 1 := ⟨g - 1, by omega⟩
  unfold quB
  rw [e1, quF_quote d1 (fun h => by rcases h with h | h; rw [d3] at h; cases h; rw [d2] at h; exact absurd h (by decide)) (by rw [d2]; rfl), List.nil_append, show toB (cat c) = s by rw [← h2, toB_of], ← hl]
theorem quB_odd {s : ByteArray} (h : oddT s = true) : ∃ p : Nat, quB (quoteB s) 0 = (emp, 0, 2, (p : Int)) := by
  rcases text_cases s with ⟨h9, _⟩ | ⟨_, a, t, h1, h2, h3, h4⟩
  · rw [h] at h9; cases h9
  have hS0 : Sat (quoteB s) 0 ([34] ++ (qL (cat a) ++ (qL t ++ [34]))) := by
    have := Sat.start (quoteB s)
    rw [quote_list, h2, qL_app, List.append_assoc] at this
    exact this
  have hS1 : Sat (quoteB s) (0 + 1) (qL (cat a) ++ (qL t ++ [34])) := hS0.next
  obtain ⟨g, e1, e2⟩ := quF_run (a := 0) (f := (quoteB s).size) (acc := []) a h1 hS1 (by omega)
  have hS2 : Sat (quoteB s) (0 + 1 + (qL (cat a)).length) (qL t ++ [34]) := hS1.next
  have hl := hS2.len
  rw [List.length_append] at hl
  have hl : (quoteB s).size = 0 + 1 + (qL (cat a)).length + ((qL t).length + 1) := hl
  obtain ⟨g, rfl⟩ : ∃ k, g = k + 1 := ⟨g - 1, by omega⟩
  refine ⟨0 + 1 + (qL (cat a)).length, ?_⟩
  unfold quB
  rw [e1]
  rcases h4 with hb | ⟨x, u, rfl, hx1, hx2⟩
  · obtain ⟨b1, b2⟩ := hS2.bad (by simp)
    rw [bad_q h3 hb] at b1
    exact quF_bad b2 (.inl b1)
  · have hx : oddR ((x.toNat : Nat) : Int) = true := hx2
    have n1 : x ≠ 10 := fun e => by rw [e] at hx; exact absurd hx (by decide)
    have n2 : x ≠ 34 := fun e => by rw [e] at hx; exact absurd hx (by decide)
    have n3 : x ≠ 92 := fun e => by rw [e] at hx; exact absurd hx (by decide)
    have e3 : qL (x :: u) = [x] ++ qL u := by
      show escB x ++ qL u = _
      unfold escB
      rw [if_neg n1, if_neg n2, if_neg n3]
    rw [e3, List.append_assoc] at hS2
    obtain ⟨d1, d2, d3⟩ := hS2.dec (Rn.one x hx1)
    exact quF_bad d1 (.inr (by rw [d2]; exact hx))
set_option maxRecDepth 100000 in
set_option maxHeartbeats 2000000 in
theorem where0_any (s : ByteArray) (w : World) :
    Calls Try.prog 53 #[.string s, .int .i64 0] w fun e w' => e = .returned (.tuple #[.int .i64 1, .int .i64 1]) ∧ Below w.heap.size w w' := by
  have hsl : ∀ V : World, (Instr.slice 9 (.string s) (some (.int .i64 0)) (some (.int .i64 0)) none).run Try.prog V = .ok (.string ⟨#[]⟩) V := fun V => by
    have h9 := str_sl s 0 0 (Nat.le_refl _) (Nat.zero_le _) V
    rw [show s.extract 0 0 = ⟨#[]⟩ from bytes_inj (by rw [ext_list, Nat.sub_self, List.take_zero]; exact (toB_list []).symm)] at h9
    exact h9
  have HR := Lib.hid (fun V => refrunes_any ⟨#[]⟩ (by decide) V)
  rw [show runesB ⟨#[]⟩ = 0 by kernel_rfl] at HR
  go_enter Try.func53, Try.ntmps53
  go_wp2
  refine wp_loop_rounds 1 ?_
  rw [rounds_succ]
  go_wp2_with (go_at_call 66; (with_reducible refine (HR.out _).mono ?_); rintro e w5 ⟨rfl, hb5⟩; have HB5 := Lib.hid hb5; clear hb5)
  refine bodyPost_ret (v := .tuple #[.int .i64 1, .int .i64 1]) (by simp [results, Try.results53, go_sem]) rfl ⟨rfl, HB5.out⟩
set_option maxRecDepth 100000 in
set_option maxHeartbeats 1000000 in
theorem blank_any (c : Int) (w : World) :
    Calls Try.prog 54 #[.int .i64 c] w fun e w' => e = .returned (.bool (decide (c = 32 ∨ c = 9 ∨ c = 10 ∨ c = 13))) ∧ Below w.heap.size w w' := by
  by_cases h1 : c = 32
  · subst h1
    go_enter Try.func54, Try.ntmps54
    go_wp2
    go_ret
    exact ⟨rfl, by (repeat' (first | with_reducible exact Below.refl _ _ | with_reducible assumption | with_reducible refine Below.drew ?_ | with_reducible refine below_drewN' ?_ _ | with_reducible refine Below.alloc ?_ ?_ _ | with_reducible refine Below.setCell ?_ ?_ _ | with_reducible refine below_step (by assumption) ?_ ?_ | omega | (simp; done) | (simp; omega)))⟩
  by_cases h2 : c = 9
  · subst h2
    go_enter Try.func54, Try.ntmps54
    go_wp2
    go_ret
    exact ⟨rfl, by (repeat' (first | with_reducible exact Below.refl _ _ | with_reducible assumption | with_reducible refine Below.drew ?_ | with_reducible refine below_drewN' ?_ _ | with_reducible refine Below.alloc ?_ ?_ _ | with_reducible refine Below.setCell ?_ ?_ _ | with_reducible refine below_step (by assumption) ?_ ?_ | omega | (simp; done) | (simp; omega)))⟩
  by_cases h3 : c = 10
  · subst h3
    go_enter Try.func54, Try.ntmps54
    go_wp2
    go_ret
    exact ⟨rfl, by (repeat' (first | with_reducible exact Below.refl _ _ | with_reducible assumption | with_reducible refine Below.drew ?_ | with_reducible refine below_drewN' ?_ _ | with_reducible refine Below.alloc ?_ ?_ _ | with_reducible refine Below.setCell ?_ ?_ _ | with_reducible refine below_step (by assumption) ?_ ?_ | omega | (simp; done) | (simp; omega)))⟩
  by_cases h4 : c = 13
  · subst h4
    go_enter Try.func54, Try.ntmps54
    go_wp2
    go_ret
    exact ⟨rfl, by (repeat' (first | with_reducible exact Below.refl _ _ | with_reducible assumption | with_reducible refine Below.drew ?_ | with_reducible refine below_drewN' ?_ _ | with_reducible refine Below.alloc ?_ ?_ _ | with_reducible refine Below.setCell ?_ ?_ _ | with_reducible refine below_step (by assumption) ?_ ?_ | omega | (simp; done) | (simp; omega)))⟩
  have n1 : (c == 32) = false := by simpa using h1
  have n2 : (c == 9) = false := by simpa using h2
  have n3 : (c == 10) = false := by simpa using h3
  have n4 : (c == 13) = false := by simpa using h4
  have hR : decide (c = 32 ∨ c = 9 ∨ c = 10 ∨ c = 13) = false := decide_eq_false (by omega)
  rw [hR]
  clear h1 h2 h3 h4 hR
  go_enter Try.func54, Try.ntmps54
  go_wp2
  go_ret
  exact ⟨rfl, by (repeat' (first | with_reducible exact Below.refl _ _ | with_reducible assumption | with_reducible refine Below.drew ?_ | with_reducible refine below_drewN' ?_ _ | with_reducible refine Below.alloc ?_ ?_ _ | with_reducible refine Below.setCell ?_ ?_ _ | with_reducible refine below_step (by assumption) ?_ ?_ | omega | (simp; done) | (simp; omega)))⟩
end Go.Proofs.Ytlndfognkkobaaa
