/-
  Words and runes.
-/
import Derived.Test.YtmkdfcggjlhcpaaGreatDoorMAx
import Derived.Lib.OthersKept
import Derived.Lib.RuneCount
namespace Go.Proofs.YtmkdfcggjlhcpaaGreatDoor
open Go.RowKit
set_option linter.unusedVariables false
set_option linter.unusedSimpArgs false
def inW (r : Int) : Bool := decide (32 < r ∧ r ≠ 127 ∧ r ≠ 40 ∧ r ≠ 41 ∧ r ≠ 34 ∧ r ≠ 59)
theorem inW_cases (r : Int) : (decide (32 < r) = false ∧ inW r = false) ∨ (decide (32 < r) = true ∧ (r != 127) = false ∧ inW r = false) ∨ (decide (32 < r) = true ∧ (r != 127) = true ∧ (r != 40) = false ∧ inW r = false) ∨
    (decide (32 < r) = true ∧ (r != 127) = true ∧ (r != 40) = true ∧ (r != 41) = false ∧ inW r = false) ∨ (decide (32 < r) = true ∧ (r != 127) = true ∧ (r != 40) = true ∧ (r != 41) = true ∧ (r != 34) = false ∧ inW r = false) ∨
    (decide (32 < r) = true ∧ (r != 127) = true ∧ (r != 40) = true ∧ (r != 41) = true ∧ (r != 34) = true ∧ (r != 59) = false ∧ inW r = false) ∨
    (decide (32 < r) = true ∧ (r != 127) = true ∧ (r != 40) = true ∧ (r != 41) = true ∧ (r != 34) = true ∧ (r != 59) = true ∧ inW r = true) := by
  unfold inW
  by_cases h1 : 32 < r <;> by_cases h2 : r = 127 <;> by_cases h3 : r = 40 <;> by_cases h4 : r = 41 <;> by_cases h5 : r = 34 <;> by_cases h6 : r = 59 <;> simp [h1, h2, h3, h4, h5, h6]
def fffd : ByteArray := ⟨#[239, 191, 189]⟩
def preF (s : ByteArray) : Bool := decide (3 ≤ s.size ∧ s.extract 0 3 = fffd)
def badAt (s : ByteArray) (pos : Nat) : Bool := decide ((Utf8.decode s pos).1 = 65533 ∧ (Utf8.decode s pos).2 = 1)
theorem get_bang (s : ByteArray) (i : Nat) (h : i < s.size) : s.get! i = s[i]'h := by
  have := get_at s i h
  simpa using this
theorem pre_at (s : ByteArray) (pos : Nat) : preF (s.extract pos s.size) = decide (pos + 2 < s.size ∧ (s.get! pos).toNat = 239 ∧ (s.get! (pos + 1)).toNat = 191 ∧ (s.get! (pos + 2)).toNat = 189) := by
  unfold preF
  rw [decide_eq_decide, ByteArray.size_extract]
  by_cases h : pos + 2 < s.size
  · rw [get_bang s pos (by omega), get_bang s (pos + 1) (by omega), get_bang s (pos + 2) (by omega)]
    have ex : ((s.extract pos s.size).extract 0 3) = ⟨#[s[pos]'(by omega), s[pos + 1]'(by omega), s[pos + 2]'(by omega)]⟩ := by
      refine ByteArray.ext_getElem ?_ fun i hi hj => ?_
      · rw [ByteArray.size_extract, ByteArray.size_extract]
        show _ = 3
        omega
      · have hi3 : i < 3 := hj
        rw [ByteArray.getElem_extract, ByteArray.getElem_extract]
        rcases (show i = 0 ∨ i = 1 ∨ i = 2 by omega) with rfl | rfl | rfl <;> rfl
    rw [ex]
    unfold fffd
    constructor
    · rintro ⟨_, h2⟩
      simp only [ByteArray.mk.injEq, Array.mk.injEq, List.cons.injEq, and_true] at h2
      obtain ⟨a, b, c⟩ := h2
      refine ⟨h, ?_, ?_, ?_⟩ <;> simp [a, b, c]
    · rintro ⟨_, a, b, c⟩
      refine ⟨by omega, ?_⟩
      have a' : s[pos]'(by omega) = 239 := UInt8.toNat_inj.1 a
      have b' : s[pos + 1]'(by omega) = 191 := UInt8.toNat_inj.1 b
      have c' : s[pos + 2]'(by omega) = 189 := UInt8.toNat_inj.1 c
      rw [a', b', c']
  · constructor
    · rintro ⟨h1, _⟩; omega
    · rintro ⟨h1, _⟩; omega
def dec (l pos b0 b1 b2 b3 : Nat) : Nat × Nat :=
  if b0 < 128 then (b0, 1)
  else if b0 / 32 = 6 ∧ pos + 1 < l ∧ b1 / 64 = 2 then (if 128 ≤ b0 % 32 * 64 + b1 % 64 then (b0 % 32 * 64 + b1 % 64, 2) else (65533, 1))
  else if b0 / 16 = 14 ∧ (pos + 1 < l ∧ b1 / 64 = 2) ∧ pos + 2 < l ∧ b2 / 64 = 2 then
    (if 2048 ≤ b0 % 16 * 4096 + b1 % 64 * 64 + b2 % 64 ∧ ¬ (55296 ≤ b0 % 16 * 4096 + b1 % 64 * 64 + b2 % 64 ∧ b0 % 16 * 4096 + b1 % 64 * 64 + b2 % 64 < 57344) then (b0 % 16 * 4096 + b1 % 64 * 64 + b2 % 64, 3) else (65533, 1))
  else if b0 / 8 = 30 ∧ (pos + 1 < l ∧ b1 / 64 = 2) ∧ (pos + 2 < l ∧ b2 / 64 = 2) ∧ pos + 3 < l ∧ b3 / 64 = 2 then
    (if 65536 ≤ b0 % 8 * 262144 + b1 % 64 * 4096 + b2 % 64 * 64 + b3 % 64 ∧ b0 % 8 * 262144 + b1 % 64 * 4096 + b2 % 64 * 64 + b3 % 64 ≤ 1114111 then (b0 % 8 * 262144 + b1 % 64 * 4096 + b2 % 64 * 64 + b3 % 64, 4) else (65533, 1))
  else (65533, 1)
theorem ite_iff {α : Type} {p q : Prop} [Decidable p] [Decidable q] {a b c d : α} (h : p ↔ q) (h1 : q → a = c) (h2 : ¬ q → b = d) : (if p then a else b) = if q then c else d := by
  by_cases hq : q
  · rw [if_pos (h.2 hq), if_pos hq, h1 hq]
  · rw [if_neg (fun x => hq (h.1 x)), if_neg hq, h2 hq]
set_option maxRecDepth 100000 in
theorem decode_dec (s : ByteArray) (pos : Nat) : Utf8.decode s pos = dec s.size pos (s.get! pos).toNat (s.get! (pos + 1)).toNat (s.get! (pos + 2)).toNat (s.get! (pos + 3)).toNat := by
  unfold Utf8.decode Utf8.runeError dec
  dsimp only
  refine ite_iff Iff.rfl (fun _ => rfl) fun _ => ite_iff ?_ (fun _ => ite_iff Iff.rfl (fun _ => rfl) fun _ => rfl) fun _ => ite_iff ?_ (fun _ => ite_iff ?_ (fun _ => rfl) fun _ => rfl) fun _ => ite_iff ?_ (fun _ => ite_iff ?_ (fun _ => rfl) fun _ => rfl) fun _ => rfl
  · simp only [Nat.add_zero, Bool.and_eq_true, beq_iff_eq, decide_eq_true_eq]
  · simp only [Nat.add_zero, Bool.and_eq_true, beq_iff_eq, decide_eq_true_eq, and_assoc]
  · unfold Utf8.valid
    simp only [Nat.add_zero, Bool.and_eq_true, Bool.or_eq_true, decide_eq_true_eq, ge_iff_le]
    omega
  · simp only [Nat.add_zero, Bool.and_eq_true, beq_iff_eq, decide_eq_true_eq, and_assoc]
  · unfold Utf8.valid
    simp only [Nat.add_zero, Bool.and_eq_true, Bool.or_eq_true, decide_eq_true_eq, ge_iff_le]
    omega
theorem dec_fffd {l pos b0 b1 b2 b3 : Nat} (h0 : b0 < 256) (h1 : b1 < 256) (h2 : b2 < 256) : ((dec l pos b0 b1 b2 b3).1 ≠ 65533 ∨ (pos + 2 < l ∧ b0 = 239 ∧ b1 = 191 ∧ b2 = 189)) ↔ ¬ ((dec l pos b0 b1 b2 b3).1 = 65533 ∧ (dec l pos b0 b1 b2 b3).2 = 1) := by
  have key : ∀ d : Nat × Nat, (d.1 = 65533 ∧ ((d.2 = 1 ∧ ¬ (pos + 2 < l ∧ b0 = 239 ∧ b1 = 191 ∧ b2 = 189)) ∨ (d.2 ≠ 1 ∧ (pos + 2 < l ∧ b0 = 239 ∧ b1 = 191 ∧ b2 = 189)))) ∨ d.1 ≠ 65533 → ((d.1 ≠ 65533 ∨ (pos + 2 < l ∧ b0 = 239 ∧ b1 = 191 ∧ b2 = 189)) ↔ ¬ (d.1 = 65533 ∧ d.2 = 1)) := by
    rintro ⟨x, y⟩ h
    simp only at h ⊢
    rcases h with ⟨h, ⟨h1, h2⟩ | ⟨h1, h2⟩⟩ | h
    · exact ⟨fun k => absurd (k.resolve_left fun n => n h) h2, fun k => absurd ⟨h, h1⟩ k⟩
    · exact ⟨fun _ k => h1 k.2, fun _ => .inr h2⟩
    · exact ⟨fun _ k => h k.1, fun _ => .inl h⟩
  refine key _ ?_
  unfold dec
  split
  · refine .inr ?_
    simp only; omega
  · split
    · split
      · refine .inr ?_
        simp only; omega
      · refine .inl ⟨rfl, .inl ⟨rfl, ?_⟩⟩
        omega
    · split
      · split
        · by_cases e : b0 % 16 * 4096 + b1 % 64 * 64 + b2 % 64 = 65533
          · refine .inl ⟨e, .inr ⟨by simp, ?_⟩⟩
            omega
          · exact .inr e
        · refine .inl ⟨rfl, .inl ⟨rfl, ?_⟩⟩
          omega
      · split
        · split
          · refine .inr ?_
            simp only; omega
          · refine .inl ⟨rfl, .inl ⟨rfl, ?_⟩⟩
            omega
        · refine .inl ⟨rfl, .inl ⟨rfl, ?_⟩⟩
          omega
theorem decode_fffd (s : ByteArray) (pos : Nat) : ((((Utf8.decode s pos).1 : Nat) : Int) != 65533 || preF (s.extract pos s.size)) = !badAt s pos := by
  rw [pre_at]
  unfold badAt
  have h := dec_fffd (l := s.size) (pos := pos) (b3 := (s.get! (pos + 3)).toNat) (s.get! pos).toNat_lt (s.get! (pos + 1)).toNat_lt (s.get! (pos + 2)).toNat_lt
  rw [← decode_dec] at h
  rw [show ∀ x : Nat, (((x : Nat) : Int) != 65533) = decide (x ≠ 65533) from fun x => by
    by_cases e : x = 65533
    · subst e; rfl
    · rw [decide_eq_true e, bne_iff_ne]; omega]
  rw [← Bool.decide_or, ← decide_not]
  exact decide_eq_decide.2 h
def wordFrom (s : ByteArray) : Nat → Nat → Option Nat
  | 0, _ => some 0
  | f + 1, pos => if pos < s.size then (if inW (Utf8.decode s pos).1 = true ∧ badAt s pos = false then (wordFrom s f (pos + (Utf8.decode s pos).2)).map (· + 1) else none) else some 0
def wordB (s : ByteArray) : Bool := match wordFrom s s.size 0 with
  | some n => decide (1 ≤ n ∧ n ≤ 64)
  | none => false
def WordSt (s : ByteArray) (pos fuel n : Nat) : Prop := wordFrom s s.size 0 = (wordFrom s fuel pos).map (· + n) ∧ s.size ≤ pos + fuel
theorem WordSt.start (s : ByteArray) : WordSt s 0 s.size 0 := ⟨by cases wordFrom s s.size 0 <;> rfl, by omega⟩
theorem WordSt.fuel {s : ByteArray} {pos fuel n : Nat} (h : WordSt s pos fuel n) (hp : pos < s.size) : ∃ f, fuel = f + 1 := ⟨fuel - 1, by have := h.2; omega⟩
theorem WordSt.step {s : ByteArray} {pos f n : Nat} (h : WordSt s pos (f + 1) n) (hp : pos < s.size) (h1 : inW (Utf8.decode s pos).1 = true) (h2 : badAt s pos = false) : WordSt s (pos + (Utf8.decode s pos).2) f (n + 1) := by
  obtain ⟨h, hf⟩ := h
  have hw := Lib.decode_width_pos s pos hp
  refine ⟨?_, by omega⟩
  rw [h, wordFrom, if_pos hp, if_pos ⟨h1, h2⟩]
  cases wordFrom s f (pos + (Utf8.decode s pos).2)
  · rfl
  · simp only [Option.map_some]
    congr 1
    omega
theorem WordSt.odd {s : ByteArray} {pos f n : Nat} (h : WordSt s pos (f + 1) n) (hp : pos < s.size) (h1 : ¬ (inW (Utf8.decode s pos).1 = true ∧ badAt s pos = false)) : wordB s = false := by
  unfold wordB
  rw [h.1, wordFrom, if_pos hp, if_neg h1]
  rfl
theorem WordSt.long {s : ByteArray} {pos f : Nat} (h : WordSt s pos (f + 1) 64) (hp : pos < s.size) : wordB s = false := by
  unfold wordB
  rw [h.1, wordFrom, if_pos hp]
  split
  · rename_i n he
    split at he
    · cases hx : wordFrom s f (pos + (Utf8.decode s pos).2) with
      | none => rw [hx] at he; cases he
      | some k =>
        rw [hx] at he
        simp only [Option.map_some, Option.some.injEq] at he
        exact decide_eq_false (by omega)
    · cases he
  · rfl
theorem WordSt.done {s : ByteArray} {pos fuel n : Nat} (h : WordSt s pos fuel n) (hp : ¬ pos < s.size) (hn : n ≤ 64) : wordB s = decide (0 < n) := by
  unfold wordB
  have e : wordFrom s fuel pos = some 0 := by
    cases fuel with
    | zero => rfl
    | succ f => rw [wordFrom, if_neg hp]
  rw [h.1, e]
  simp only [Option.map_some, Nat.zero_add]
  exact decide_eq_decide.2 (by omega)
set_option maxRecDepth 100000 in
theorem inwords_any (r : Int) (w : World) :
    Calls Tryz.prog 86 #[.int .i32 r] w fun e w' => e = .returned (.bool (inW r)) ∧ Below w.heap.size w w' := by
  rcases inW_cases r with ⟨h1, h⟩ | ⟨h1, h2, h⟩ | ⟨h1, h2, h3, h⟩ | ⟨h1, h2, h3, h4, h⟩ | ⟨h1, h2, h3, h4, h5, h⟩ | ⟨h1, h2, h3, h4, h5, h6, h⟩ | ⟨h1, h2, h3, h4, h5, h6, h⟩
  all_goals
    rw [h]
    clear h
    go_enter Tryz.func86, Tryz.ntmps86
    go_wp2
    go_ret
    exact ⟨rfl, by (repeat' (first | with_reducible exact Below.refl _ _ | with_reducible assumption | with_reducible refine Below.drew ?_ | with_reducible refine below_drewN' ?_ _ | with_reducible refine Below.alloc ?_ ?_ _ | with_reducible refine Below.setCell ?_ ?_ _ | with_reducible refine below_step (by assumption) ?_ ?_ | omega | (simp; done) | (simp; omega)))⟩
set_option maxRecDepth 100000 in
theorem hasprefix0 (s : ByteArray) (w : World) :
    Calls Tryz.prog 105 #[.string s, .string ⟨#[239, 191, 189]⟩] w fun e w' => e = .returned (.bool (preF s)) ∧ Below w.heap.size w w' := by
  by_cases h1 : 3 ≤ s.size
  · have h2 : ((s.extract 0 3).toList == [239, 191, 189]) = preF s := by
      unfold preF
      have e : fffd.toList = [239, 191, 189] := by rw [ByteArray.toList_eq]; rfl
      rw [← e]
      by_cases h : s.extract 0 3 = fffd
      · rw [h]; simp [h1]
      · rw [decide_eq_false (fun x => h x.2), beq_eq_false_iff_ne]
        intro x
        rw [ByteArray.toList_eq, ByteArray.toList_eq] at x
        exact h (ByteArray.ext (Array.toList_inj.mp x))
    go_enter Tryz.func105, Tryz.ntmps105
    go_wp2
    go_ret
    exact ⟨rfl, by (repeat' (first | with_reducible exact Below.refl _ _ | with_reducible assumption | with_reducible refine Below.drew ?_ | with_reducible refine below_drewN' ?_ _ | with_reducible refine Below.alloc ?_ ?_ _ | with_reducible refine Below.setCell ?_ ?_ _ | with_reducible refine below_step (by assumption) ?_ ?_ | omega | (simp; done) | (simp; omega)))⟩
  · have h2 : preF s = false := decide_eq_false fun h => h1 h.1
    rw [h2]
    go_enter Tryz.func105, Tryz.ntmps105
    go_wp2
    go_ret
    exact ⟨rfl, by (repeat' (first | with_reducible exact Below.refl _ _ | with_reducible assumption | with_reducible refine Below.drew ?_ | with_reducible refine below_drewN' ?_ _ | with_reducible refine Below.alloc ?_ ?_ _ | with_reducible refine Below.setCell ?_ ?_ _ | with_reducible refine below_step (by assumption) ?_ ?_ | omega | (simp; done) | (simp; omega)))⟩
set_option maxRecDepth 100000 in
theorem hasprefix_any (s : ByteArray) (w : World) :
    Calls Tryz.prog 95 #[.string s, .string ⟨#[239, 191, 189]⟩] w fun e w' => e = .returned (.bool (preF s)) ∧ Below w.heap.size w w' := by
  go_enter Tryz.func95, Tryz.ntmps95
  go_wp2_with (go_at_call 105; refine (hasprefix0 _ _).mono ?_; rintro e w1 ⟨rfl, hb1⟩; obtain ⟨hc1, hf1⟩ := bcell hb1; have hz1 := hb1.size; (try simp at hz1); (try have hza : w.heap.size < w1.heap.size := by omega); (try have hzb : w.heap.size + 1 < w1.heap.size := by omega); (try have hzc : w.heap.size + 1 + 1 < w1.heap.size := by omega); (try have hzd : w.heap.size + 1 + 1 + 1 < w1.heap.size := by omega))
  go_ret
  exact ⟨rfl, by (repeat' (first | with_reducible exact Below.refl _ _ | with_reducible assumption | with_reducible refine Below.drew ?_ | with_reducible refine below_drewN' ?_ _ | with_reducible refine Below.alloc ?_ ?_ _ | with_reducible refine Below.setCell ?_ ?_ _ | with_reducible refine below_step (by assumption) ?_ ?_ | omega | (simp; done) | (simp; omega)))⟩
set_option maxRecDepth 100000 in
theorem valid_any (s : ByteArray) (r : Int) (w : World) :
    Calls Tryz.prog 87 #[.string s, .int .i32 r] w fun e w' => e = .returned (.bool (r != 65533 || preF s)) ∧ Below w.heap.size w w' := by
  cases h : (r != 65533)
  · go_enter Tryz.func87, Tryz.ntmps87
    go_wp2_with (go_at_call 95; refine (hasprefix_any _ _).mono ?_; rintro e w1 ⟨rfl, hb1⟩; obtain ⟨hc1, hf1⟩ := bcell hb1; have hz1 := hb1.size; (try simp at hz1); (try have hza : w.heap.size < w1.heap.size := by omega); (try have hzb : w.heap.size + 1 < w1.heap.size := by omega); (try have hzc : w.heap.size + 1 + 1 < w1.heap.size := by omega); (try have hzd : w.heap.size + 1 + 1 + 1 < w1.heap.size := by omega))
    go_ret
    exact ⟨rfl, by (repeat' (first | with_reducible exact Below.refl _ _ | with_reducible assumption | with_reducible refine Below.drew ?_ | with_reducible refine below_drewN' ?_ _ | with_reducible refine Below.alloc ?_ ?_ _ | with_reducible refine Below.setCell ?_ ?_ _ | with_reducible refine below_step (by assumption) ?_ ?_ | omega | (simp; done) | (simp; omega)))⟩
  · go_enter Tryz.func87, Tryz.ntmps87
    go_wp2
    go_ret
    exact ⟨rfl, by (repeat' (first | with_reducible exact Below.refl _ _ | with_reducible assumption | with_reducible refine Below.drew ?_ | with_reducible refine below_drewN' ?_ _ | with_reducible refine Below.alloc ?_ ?_ _ | with_reducible refine Below.setCell ?_ ?_ _ | with_reducible refine below_step (by assumption) ?_ ?_ | omega | (simp; done) | (simp; omega)))⟩
set_option maxRecDepth 100000 in
set_option maxHeartbeats 1000000 in
theorem word_any (s : ByteArray) (w : World) :
    Calls Tryz.prog 71 #[.string s] w fun e w' => e = .returned (.bool (wordB s)) ∧ Below w.heap.size w w' := by
  go_enter Tryz.func71, Tryz.ntmps71
  go_wp2
  go_loopw [3] (fun v wr => ∃ pos fuel n : Nat, v = .int .i64 n ∧ n ≤ 64 ∧ WordSt s pos fuel n ∧ wr.heap[w.heap.size]? = some (.stringIter s pos) ∧ Below w.heap.size w wr) (fun _ wr => s.size - wr.iterPos w.heap.size)
  case atStart => exact ⟨0, s.size, 0, rfl, by omega, WordSt.start s, World.iter_heap w s 0, (show Below w.heap.size w (w.alloc (.stringIter s 0)) by (repeat' (first | with_reducible exact Below.refl _ _ | with_reducible assumption | with_reducible refine Below.drew ?_ | with_reducible refine below_drewN' ?_ _ | with_reducible refine Below.alloc ?_ ?_ _ | with_reducible refine Below.setCell ?_ ?_ _ | with_reducible refine below_step (by assumption) ?_ ?_ | omega | (simp; done) | (simp; omega))))⟩
  case round =>
    obtain ⟨pos, fuel, n, rfl, hn, hst, hit, hB⟩ := hrel
    have hsz : w.heap.size < wr.heap.size := (Array.getElem?_eq_some_iff.1 hit).1
    by_cases hp : pos < s.size
    · have hnx : ∀ ty, (Instr.next (.pointer (some ⟨w.heap.size, 0, none⟩)) true ty).run Tryz.prog wr = _ := fun ty => Lib.run_next_any_at wr w.heap.size s pos ty hit hp
      have hwd := Lib.decode_width_pos s pos hp
      have hd1 := decode_le s pos
      have hit2 := Lib.iterAt_heap wr w.heap.size s pos (pos + (Utf8.decode s pos).2) hit
      have hB2 := Lib.below_iterAt hB (k := w.heap.size) (by omega) s (pos + (Utf8.decode s pos).2)
      have hsz2 : (wr.iterAt w.heap.size s (pos + (Utf8.decode s pos).2)).heap.size = wr.heap.size := Lib.iterAt_size _ _ _ _
      obtain ⟨f, rfl⟩ := hst.fuel hp
      have hfd := decode_fffd s pos
      have Hst := Lib.hid hst
      clear hst
      by_cases h64 : n = 64
      · subst h64
        have hr := Hst.out.long hp
        go_wp2
        go_ret
        exact ⟨by rw [hr]; try rfl, hB2⟩
      · cases h1 : inW (Utf8.decode s pos).1
        · have hr := Hst.out.odd hp (fun x => by rw [h1] at x; cases x.1)
          have H1 := Lib.hid h1
          clear h1
          go_wp2_with (go_at_call 86; (with_reducible refine (inwords_any _ _).mono ?_); rintro e w5 ⟨rfl, hb5⟩; rw [H1.out]; obtain ⟨hc5, hf5⟩ := bcell hb5; have hz5 := hb5.size; (try simp at hz5))
          go_ret
          exact ⟨by first | (rw [hr]; done) | (rw [hr]; rfl), by (repeat' (first | with_reducible exact Below.refl _ _ | with_reducible assumption | with_reducible refine Below.drew ?_ | with_reducible refine below_drewN' ?_ _ | with_reducible refine Below.alloc ?_ ?_ _ | with_reducible refine Below.setCell ?_ ?_ _ | with_reducible refine below_step (by assumption) ?_ ?_ | omega | (simp; done) | (simp; omega)))⟩
        · cases h2 : badAt s pos
          · have hs2 := Hst.out.step hp h1 h2
            have H1 := Lib.hid h1
            have H2 := Lib.hid (hfd.trans (congrArg (fun b => !b) h2))
            have Hs2 := Lib.hid hs2
            clear h1 h2 hs2 hfd
            go_wp2_with (first | (go_at_call 86; (with_reducible refine (inwords_any _ _).mono ?_); rintro e w5 ⟨rfl, hb5⟩; rw [H1.out]; obtain ⟨hc5, hf5⟩ := bcell hb5; have hz5 := hb5.size; (try simp at hz5)) | (go_at_call 87; (with_reducible refine (valid_any _ _ _).mono ?_); rintro e w6 ⟨rfl, hb6⟩; rw [H2.out]; obtain ⟨hc6, hf6⟩ := bcell hb6; have hz6 := hb6.size; (try simp at hz6)))
            have hit6 : w6.heap[w.heap.size]? = some (.stringIter s (pos + (Utf8.decode s pos).2)) := by rw [hb6.block _ (by omega), hb5.block _ (by omega)]; exact hit2
            go_roundw
            case rel => exact ⟨pos + (Utf8.decode s pos).2, f, n + 1, by go_num, by omega, Hs2.out, hit6, by (repeat' (first | with_reducible exact Below.refl _ _ | with_reducible assumption | with_reducible refine Below.drew ?_ | with_reducible refine below_drewN' ?_ _ | with_reducible refine Below.alloc ?_ ?_ _ | with_reducible refine Below.setCell ?_ ?_ _ | with_reducible refine below_step (by assumption) ?_ ?_ | omega | (simp; done) | (simp; omega)))⟩
            case measure =>
              simp only [World.iterPos, hit6, hit]
              omega
          · have hr := Hst.out.odd hp (fun x => by rw [h2] at x; cases x.2)
            have H1 := Lib.hid h1
            have H2 := Lib.hid (hfd.trans (congrArg (fun b => !b) h2))
            clear h1 h2 hfd
            go_wp2_with (first | (go_at_call 86; (with_reducible refine (inwords_any _ _).mono ?_); rintro e w5 ⟨rfl, hb5⟩; rw [H1.out]; obtain ⟨hc5, hf5⟩ := bcell hb5; have hz5 := hb5.size; (try simp at hz5)) | (go_at_call 87; (with_reducible refine (valid_any _ _ _).mono ?_); rintro e w6 ⟨rfl, hb6⟩; rw [H2.out]; obtain ⟨hc6, hf6⟩ := bcell hb6; have hz6 := hb6.size; (try simp at hz6)))
            go_ret
            exact ⟨by first | (rw [hr]; done) | (rw [hr]; rfl), by (repeat' (first | with_reducible exact Below.refl _ _ | with_reducible assumption | with_reducible refine Below.drew ?_ | with_reducible refine below_drewN' ?_ _ | with_reducible refine Below.alloc ?_ ?_ _ | with_reducible refine Below.setCell ?_ ?_ _ | with_reducible refine below_step (by assumption) ?_ ?_ | omega | (simp; done) | (simp; omega)))⟩
    · have hnx : ∀ ty, (Instr.next (.pointer (some ⟨w.heap.size, 0, none⟩)) true ty).run Tryz.prog wr = _ := fun ty => Lib.run_next_end_at wr w.heap.size s pos ty hit hp
      have hr := hst.done hp hn
      go_wp2
      go_ret
      exact ⟨by rw [hr]; simp, hB⟩
theorem str_ix (s : ByteArray) (n : Nat) (h : n < s.size) (w : World) : (Instr.index 9 (.string s) (.int .i64 (n : Int))).run Tryz.prog w = .ok (.int .u8 (((s.get! n).toNat : Nat) : Int)) w := by
  rw [run_index_string w 9 s .i64 n Tryz.underlying9, dif_pos ⟨by omega, by omega⟩, get_bang s n h]
  rfl
def moreB (s : ByteArray) (n : Nat) : Bool := decide (n < s.size ∧ (s.get! n).toNat / 64 = 2)
set_option maxRecDepth 100000 in
theorem more_any (s : ByteArray) (n : Nat) (w : World) :
    Calls Tryz.prog 77 #[.string s, .int .i64 (n : Int)] w fun e w' => e = .returned (.bool (moreB s n)) ∧ Below w.heap.size w w' := by
  by_cases h : n < s.size
  · have hx := str_ix s n h
    obtain ⟨b, hb⟩ : ∃ b, (s.get! n).toNat = b := ⟨_, rfl⟩
    have hm : moreB s n = decide (b / 64 = 2) := by unfold moreB; rw [hb]; simp [h]
    rw [hm]
    rw [hb] at hx
    clear hm hb
    by_cases h1 : b < 128
    · have e : decide (b / 64 = 2) = false := decide_eq_false (by omega)
      rw [e]
      clear e
      go_enter Tryz.func77, Tryz.ntmps77
      go_wp2
      go_ret
      exact ⟨by first | rfl | (simp; omega), by (repeat' (first | with_reducible exact Below.refl _ _ | with_reducible assumption | with_reducible refine Below.drew ?_ | with_reducible refine below_drewN' ?_ _ | with_reducible refine Below.alloc ?_ ?_ _ | with_reducible refine Below.setCell ?_ ?_ _ | with_reducible refine below_step (by assumption) ?_ ?_ | omega | (simp; done) | (simp; omega)))⟩
    · by_cases h2 : b < 192
      · have e : decide (b / 64 = 2) = true := decide_eq_true (by omega)
        rw [e]
        clear e
        have h1' : 128 ≤ b := by omega
        go_enter Tryz.func77, Tryz.ntmps77
        go_wp2
        go_ret
        exact ⟨by first | rfl | (simp; omega), by (repeat' (first | with_reducible exact Below.refl _ _ | with_reducible assumption | with_reducible refine Below.drew ?_ | with_reducible refine below_drewN' ?_ _ | with_reducible refine Below.alloc ?_ ?_ _ | with_reducible refine Below.setCell ?_ ?_ _ | with_reducible refine below_step (by assumption) ?_ ?_ | omega | (simp; done) | (simp; omega)))⟩
      · have e : decide (b / 64 = 2) = false := decide_eq_false (by omega)
        rw [e]
        clear e
        have h1' : 128 ≤ b := by omega
        go_enter Tryz.func77, Tryz.ntmps77
        go_wp2
        go_ret
        exact ⟨by first | rfl | (simp; omega), by (repeat' (first | with_reducible exact Below.refl _ _ | with_reducible assumption | with_reducible refine Below.drew ?_ | with_reducible refine below_drewN' ?_ _ | with_reducible refine Below.alloc ?_ ?_ _ | with_reducible refine Below.setCell ?_ ?_ _ | with_reducible refine below_step (by assumption) ?_ ?_ | omega | (simp; done) | (simp; omega)))⟩
  · have hm : moreB s n = false := decide_eq_false fun x => h x.1
    rw [hm]
    go_enter Tryz.func77, Tryz.ntmps77
    go_wp2
    go_ret
    exact ⟨by first | rfl | (simp; omega), by (repeat' (first | with_reducible exact Below.refl _ _ | with_reducible assumption | with_reducible refine Below.drew ?_ | with_reducible refine below_drewN' ?_ _ | with_reducible refine Below.alloc ?_ ?_ _ | with_reducible refine Below.setCell ?_ ?_ _ | with_reducible refine below_step (by assumption) ?_ ?_ | omega | (simp; done) | (simp; omega)))⟩
set_option maxRecDepth 100000 in
theorem plain_any (r : Int) (w : World) :
    Calls Tryz.prog 62 #[.int .i64 r] w fun e w' => e = .returned (.bool (inW r)) ∧ Below w.heap.size w w' := by
  rcases inW_cases r with ⟨h1, h⟩ | ⟨h1, h2, h⟩ | ⟨h1, h2, h3, h⟩ | ⟨h1, h2, h3, h4, h⟩ | ⟨h1, h2, h3, h4, h5, h⟩ | ⟨h1, h2, h3, h4, h5, h6, h⟩ | ⟨h1, h2, h3, h4, h5, h6, h⟩
  all_goals
    rw [h]
    clear h
    go_enter Tryz.func62, Tryz.ntmps62
    go_wp2
    go_ret
    exact ⟨rfl, by (repeat' (first | with_reducible exact Below.refl _ _ | with_reducible assumption | with_reducible refine Below.drew ?_ | with_reducible refine below_drewN' ?_ _ | with_reducible refine Below.alloc ?_ ?_ _ | with_reducible refine Below.setCell ?_ ?_ _ | with_reducible refine below_step (by assumption) ?_ ?_ | omega | (simp; done) | (simp; omega)))⟩
def runeC (s : ByteArray) (p : Nat) : Int := if badAt s p then 0 else ((Utf8.decode s p).1 : Int)
def runeW (s : ByteArray) (p : Nat) : Int := if badAt s p then 0 else ((Utf8.decode s p).2 : Int)
theorem rune_bad {s : ByteArray} {p : Nat} (h : Utf8.decode s p = (65533, 1)) : runeC s p = 0 ∧ runeW s p = 0 := by
  have : badAt s p = true := by unfold badAt; rw [h]; rfl
  unfold runeC runeW
  rw [this]
  exact ⟨rfl, rfl⟩
theorem rune_good {s : ByteArray} {p c n : Nat} (h : Utf8.decode s p = (c, n)) (hn : n ≠ 1 ∨ c ≠ 65533) : runeC s p = (c : Int) ∧ runeW s p = (n : Int) := by
  have : badAt s p = false := by
    unfold badAt
    rw [h]
    exact decide_eq_false (by simp only; omega)
  unfold runeC runeW
  rw [this, h]
  exact ⟨rfl, rfl⟩
theorem rune_cases (s : ByteArray) (p b0 b1 b2 b3 : Nat) (e0 : (s.get! p).toNat = b0) (e1 : (s.get! (p + 1)).toNat = b1) (e2 : (s.get! (p + 2)).toNat = b2) (e3 : (s.get! (p + 3)).toNat = b3) :
    (b0 < 128 ∧ runeC s p = b0 ∧ runeW s p = 1) ∨
    (128 ≤ b0 ∧ b0 < 192 ∧ runeC s p = 0 ∧ runeW s p = 0) ∨
    (192 ≤ b0 ∧ b0 < 224 ∧ moreB s (p + 1) = false ∧ runeC s p = 0 ∧ runeW s p = 0) ∨
    (192 ≤ b0 ∧ b0 < 224 ∧ moreB s (p + 1) = true ∧ 128 ≤ b1 ∧ b1 < 192 ∧ p + 1 < s.size ∧ (b0 - 192 : Int) * 64 + b1 - 128 < 128 ∧ runeC s p = 0 ∧ runeW s p = 0) ∨
    (192 ≤ b0 ∧ b0 < 224 ∧ moreB s (p + 1) = true ∧ 128 ≤ b1 ∧ b1 < 192 ∧ p + 1 < s.size ∧ 128 ≤ (b0 - 192 : Int) * 64 + b1 - 128 ∧ runeC s p = (b0 - 192 : Int) * 64 + b1 - 128 ∧ runeW s p = 2) ∨
    (224 ≤ b0 ∧ b0 < 240 ∧ moreB s (p + 1) = false ∧ runeC s p = 0 ∧ runeW s p = 0) ∨
    (224 ≤ b0 ∧ b0 < 240 ∧ moreB s (p + 1) = true ∧ moreB s (p + 2) = false ∧ runeC s p = 0 ∧ runeW s p = 0) ∨
    (224 ≤ b0 ∧ b0 < 240 ∧ moreB s (p + 1) = true ∧ moreB s (p + 2) = true ∧ 128 ≤ b1 ∧ b1 < 192 ∧ 128 ≤ b2 ∧ b2 < 192 ∧ p + 2 < s.size ∧ (∃ v : Int, (b0 - 224 : Int) * 4096 + (b1 - 128 : Int) * 64 + b2 - 128 = v ∧
      ((v < 2048 ∧ runeC s p = 0 ∧ runeW s p = 0) ∨ (2048 ≤ v ∧ v < 55296 ∧ runeC s p = v ∧ runeW s p = 3) ∨ (2048 ≤ v ∧ 55296 ≤ v ∧ 57343 < v ∧ runeC s p = v ∧ runeW s p = 3) ∨ (2048 ≤ v ∧ 55296 ≤ v ∧ v ≤ 57343 ∧ runeC s p = 0 ∧ runeW s p = 0)))) ∨
    (240 ≤ b0 ∧ b0 < 248 ∧ moreB s (p + 1) = false ∧ runeC s p = 0 ∧ runeW s p = 0) ∨
    (240 ≤ b0 ∧ b0 < 248 ∧ moreB s (p + 1) = true ∧ moreB s (p + 2) = false ∧ runeC s p = 0 ∧ runeW s p = 0) ∨
    (240 ≤ b0 ∧ b0 < 248 ∧ moreB s (p + 1) = true ∧ moreB s (p + 2) = true ∧ moreB s (p + 3) = false ∧ runeC s p = 0 ∧ runeW s p = 0) ∨
    (240 ≤ b0 ∧ b0 < 248 ∧ moreB s (p + 1) = true ∧ moreB s (p + 2) = true ∧ moreB s (p + 3) = true ∧ 128 ≤ b1 ∧ b1 < 192 ∧ 128 ≤ b2 ∧ b2 < 192 ∧ 128 ≤ b3 ∧ b3 < 192 ∧ p + 3 < s.size ∧ (∃ v : Int, (b0 - 240 : Int) * 262144 + (b1 - 128 : Int) * 4096 + (b2 - 128 : Int) * 64 + b3 - 128 = v ∧
      ((v < 65536 ∧ runeC s p = 0 ∧ runeW s p = 0) ∨ (65536 ≤ v ∧ v ≤ 1114111 ∧ runeC s p = v ∧ runeW s p = 4) ∨ (65536 ≤ v ∧ 1114111 < v ∧ runeC s p = 0 ∧ runeW s p = 0)))) ∨
    (248 ≤ b0 ∧ b0 < 256 ∧ runeC s p = 0 ∧ runeW s p = 0) := by
  have hd := decode_dec s p
  rw [e0, e1, e2, e3] at hd
  have q0 : b0 < 256 := by rw [← e0]; exact (s.get! p).toNat_lt
  have m1 : moreB s (p + 1) = decide (p + 1 < s.size ∧ b1 / 64 = 2) := by unfold moreB; rw [e1]
  have m2 : moreB s (p + 2) = decide (p + 2 < s.size ∧ b2 / 64 = 2) := by unfold moreB; rw [e2]
  have m3 : moreB s (p + 3) = decide (p + 3 < s.size ∧ b3 / 64 = 2) := by unfold moreB; rw [e3]
  by_cases h0 : b0 < 128
  · left
    rw [dec, if_pos h0] at hd
    exact ⟨h0, (rune_good hd (.inr (by omega))).1, (rune_good hd (.inr (by omega))).2⟩
  rw [dec, if_neg h0] at hd
  by_cases h1 : b0 < 192
  · right; left
    rw [if_neg (by omega), if_neg (by omega), if_neg (by omega)] at hd
    exact ⟨by omega, h1, rune_bad hd⟩
  by_cases h2 : b0 < 224
  · by_cases k1 : p + 1 < s.size ∧ b1 / 64 = 2
    · rw [if_pos ⟨by omega, k1⟩] at hd
      by_cases v1 : 128 ≤ b0 % 32 * 64 + b1 % 64
      · rw [if_pos v1] at hd
        obtain ⟨g1, g2⟩ := rune_good hd (.inl (by omega))
        exact .inr (.inr (.inr (.inr (.inl ⟨by omega, h2, by rw [m1]; exact decide_eq_true k1, by omega, by omega, k1.1, by omega, by rw [g1]; omega, by rw [g2]; rfl⟩))))
      · rw [if_neg v1] at hd
        exact .inr (.inr (.inr (.inl ⟨by omega, h2, by rw [m1]; exact decide_eq_true k1, by omega, by omega, k1.1, by omega, rune_bad hd⟩)))
    · rw [if_neg (fun x => k1 x.2), if_neg (by omega), if_neg (by omega)] at hd
      exact .inr (.inr (.inl ⟨by omega, h2, by rw [m1]; exact decide_eq_false k1, rune_bad hd⟩))
  rw [if_neg (by omega)] at hd
  by_cases h3 : b0 < 240
  · by_cases k1 : p + 1 < s.size ∧ b1 / 64 = 2
    · by_cases k2 : p + 2 < s.size ∧ b2 / 64 = 2
      · rw [if_pos ⟨by omega, k1, k2⟩] at hd
        refine .inr (.inr (.inr (.inr (.inr (.inr (.inr (.inl ⟨by omega, h3, by rw [m1]; exact decide_eq_true k1, by rw [m2]; exact decide_eq_true k2, by omega, by omega, by omega, by omega, k2.1, _, rfl, ?_⟩)))))))
        by_cases v1 : 2048 ≤ b0 % 16 * 4096 + b1 % 64 * 64 + b2 % 64 ∧ ¬ (55296 ≤ b0 % 16 * 4096 + b1 % 64 * 64 + b2 % 64 ∧ b0 % 16 * 4096 + b1 % 64 * 64 + b2 % 64 < 57344)
        · rw [if_pos v1] at hd
          obtain ⟨g1, g2⟩ := rune_good hd (.inl (by omega))
          by_cases v2 : b0 % 16 * 4096 + b1 % 64 * 64 + b2 % 64 < 55296
          · exact .inr (.inl ⟨by omega, by omega, by rw [g1]; omega, by rw [g2]; rfl⟩)
          · exact .inr (.inr (.inl ⟨by omega, by omega, by omega, by rw [g1]; omega, by rw [g2]; rfl⟩))
        · rw [if_neg v1] at hd
          obtain ⟨g1, g2⟩ := rune_bad hd
          by_cases v2 : b0 % 16 * 4096 + b1 % 64 * 64 + b2 % 64 < 2048
          · exact .inl ⟨by omega, g1, g2⟩
          · exact .inr (.inr (.inr ⟨by omega, by omega, by omega, g1, g2⟩))
      · rw [if_neg (fun x => k2 x.2.2), if_neg (by omega)] at hd
        exact .inr (.inr (.inr (.inr (.inr (.inr (.inl ⟨by omega, h3, by rw [m1]; exact decide_eq_true k1, by rw [m2]; exact decide_eq_false k2, rune_bad hd⟩))))))
    · rw [if_neg (fun x => k1 x.2.1), if_neg (by omega)] at hd
      exact .inr (.inr (.inr (.inr (.inr (.inl ⟨by omega, h3, by rw [m1]; exact decide_eq_false k1, rune_bad hd⟩)))))
  rw [if_neg (by omega)] at hd
  by_cases h4 : b0 < 248
  · refine .inr (.inr (.inr (.inr (.inr (.inr (.inr (.inr ?_)))))))
    by_cases k1 : p + 1 < s.size ∧ b1 / 64 = 2
    · by_cases k2 : p + 2 < s.size ∧ b2 / 64 = 2
      · by_cases k3 : p + 3 < s.size ∧ b3 / 64 = 2
        · rw [if_pos ⟨by omega, k1, k2, k3⟩] at hd
          refine .inr (.inr (.inr (.inl ⟨by omega, h4, by rw [m1]; exact decide_eq_true k1, by rw [m2]; exact decide_eq_true k2, by rw [m3]; exact decide_eq_true k3, by omega, by omega, by omega, by omega, by omega, by omega, k3.1, _, rfl, ?_⟩)))
          by_cases v1 : 65536 ≤ b0 % 8 * 262144 + b1 % 64 * 4096 + b2 % 64 * 64 + b3 % 64 ∧ b0 % 8 * 262144 + b1 % 64 * 4096 + b2 % 64 * 64 + b3 % 64 ≤ 1114111
          · rw [if_pos v1] at hd
            obtain ⟨g1, g2⟩ := rune_good hd (.inl (by omega))
            exact .inr (.inl ⟨by omega, by omega, by rw [g1]; omega, by rw [g2]; rfl⟩)
          · rw [if_neg v1] at hd
            obtain ⟨g1, g2⟩ := rune_bad hd
            by_cases v2 : b0 % 8 * 262144 + b1 % 64 * 4096 + b2 % 64 * 64 + b3 % 64 < 65536
            · exact .inl ⟨by omega, g1, g2⟩
            · exact .inr (.inr ⟨by omega, by omega, g1, g2⟩)
        · rw [if_neg (fun x => k3 x.2.2.2)] at hd
          exact .inr (.inr (.inl ⟨by omega, h4, by rw [m1]; exact decide_eq_true k1, by rw [m2]; exact decide_eq_true k2, by rw [m3]; exact decide_eq_false k3, rune_bad hd⟩))
      · rw [if_neg (fun x => k2 x.2.2.1)] at hd
        exact .inr (.inl ⟨by omega, h4, by rw [m1]; exact decide_eq_true k1, by rw [m2]; exact decide_eq_false k2, rune_bad hd⟩)
    · rw [if_neg (fun x => k1 x.2.1)] at hd
      exact .inl ⟨by omega, h4, by rw [m1]; exact decide_eq_false k1, rune_bad hd⟩
  · rw [if_neg (by omega)] at hd
    exact .inr (.inr (.inr (.inr (.inr (.inr (.inr (.inr (.inr (.inr (.inr (.inr ⟨by omega, q0, rune_bad hd⟩)))))))))))
end Go.Proofs.YtmkdfcggjlhcpaaGreatDoor
