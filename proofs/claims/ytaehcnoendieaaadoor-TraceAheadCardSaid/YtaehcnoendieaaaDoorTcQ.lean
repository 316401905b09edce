/-
  An event's line is read as the event: cutting, splitting, numbers, plain.
-/
import Derived.Test.YtaehcnoendieaaaDoorTcP
namespace Go.Proofs.YtaehcnoendieaaaDoor
open Go.RowKit
set_option linter.unusedVariables false
set_option linter.unusedSimpArgs false

theorem idx_hit {a b t : List UInt8} {c : UInt8} (h : c ∉ a) : Lib.index (a ++ ((c :: t) ++ b)) (c :: t) = (a.length : Nat) := by
  refine Lib.index_first (by simp) ?_ fun j hj => ?_
  · rw [Lib.occAt_iff_take _ _ _ (by simp), List.drop_left, List.take_left]
    simp
  · rw [Bool.eq_false_iff]
    intro e
    have e2 := Lib.occAt_head rfl e
    rw [List.getElem?_append_left hj] at e2
    exact h (List.mem_of_getElem? e2)
theorem idx_miss {a t : List UInt8} {c : UInt8} (h : c ∉ a) : Lib.index a (c :: t) = -1 := by
  refine Lib.index_none fun j hj => ?_
  rw [Bool.eq_false_iff]
  intro e
  exact h (List.mem_of_getElem? (Lib.occAt_head rfl e))
theorem cut_hit {a b t : List UInt8} {c : UInt8} (h : c ∉ a) : Lib.cut (a ++ ((c :: t) ++ b)) (c :: t) = (a, b, true) := by
  unfold Lib.cut
  rw [idx_hit h, if_pos (Int.natCast_nonneg _), Int.toNat_natCast, List.take_left, ← List.length_append, ← List.append_assoc, List.drop_left]
theorem cut_miss {a t : List UInt8} {c : UInt8} (h : c ∉ a) : Lib.cut a (c :: t) = (a, [], false) := by
  unfold Lib.cut
  rw [idx_miss h, if_neg (by decide)]
theorem split_hit {a b : List UInt8} {c : UInt8} (k : Nat) (h : c ∉ a) : Lib.splitK [c] 0 (k + 1) (a ++ (c :: b)) = a :: Lib.splitK [c] 0 k b := by
  rw [Lib.splitK, show a ++ (c :: b) = a ++ ([c] ++ b) from rfl, idx_hit h, if_neg (by rw [beq_iff_eq]; omega), Int.toNat_natCast, Nat.add_zero, List.take_left, show a.length + [c].length = (a ++ [c]).length by simp, ← List.append_assoc, List.drop_left]
theorem split_end {a : List UInt8} {c : UInt8} (k : Nat) (h : c ∉ a) : Lib.splitK [c] 0 k a = [a] := by
  cases k with
  | zero => rfl
  | succ k => rw [Lib.splitK, idx_miss h, if_pos (by decide)]
theorem High.not {l : List UInt8} (h : High l) {c : UInt8} (hc : c.toNat ≤ 32) : c ∉ l := fun hm => by
  have := h c hm
  omega
theorem dec_no58 (m : Nat) : (58 : UInt8) ∉ Lib.decDigits m := fun h => by
  have := (dec_digits m _ h).2
  revert this
  decide
theorem kind_high {s : ByteArray} (h : kindB s ≠ 0) : High (dl s) ∧ s.size ≤ 10 := by
  have hm : s ∈ G1 ++ G2 ++ G3 := by
    unfold kindB at h
    rw [List.mem_append, List.mem_append]
    by_cases h1 : inB G1 s = true
    · exact .inl (.inl (inB_mem.1 h1))
    · by_cases h2 : inB G2 s = true
      · exact .inl (.inr (inB_mem.1 h2))
      · by_cases h3 : inB G3 s = true
        · exact .inr (inB_mem.1 h3)
        · rw [if_neg h1, if_neg h2, if_neg h3] at h
          exact absurd rfl h
  have ha : ∀ s ∈ G1 ++ G2 ++ G3, (∀ c ∈ dl s, 32 < c.toNat) ∧ s.size ≤ 10 := by decide +kernel
  exact ha s hm
structure RightIs (e : Ev) : Prop where
  k : kindB e.what ≠ 0
  t0 : 0 ≤ e.now
  t1 : e.now ≤ 1099511627776
  n0 : 0 ≤ e.n
  n1 : e.n ≤ 200
  nm : High (dl e.name)
  sz : e.name.size ≤ 256
  one : e.name = emp → e.n = 0
theorem right_is {e : Ev} (h : rightE e = true) : RightIs e := by
  unfold rightE at h
  rw [Bool.and_eq_true, decide_eq_true_iff] at h
  obtain ⟨⟨h1, h2⟩, h3⟩ := h
  have wne : ∀ {s : ByteArray}, wordB s = true → s ≠ emp := fun hw e => (word_high hw).2.1 (by rw [e]; rfl)
  by_cases k1 : kindB e.what = 1
  · rw [if_pos k1, Bool.and_eq_true, decide_eq_true_iff] at h3
    exact ⟨by omega, h1, h2, by omega, by omega, (word_high h3.1).1, (word_high h3.1).2.2, fun e2 => absurd e2 (wne h3.1)⟩
  · rw [if_neg k1] at h3
    by_cases k2 : kindB e.what = 2
    · rw [if_pos k2, Bool.and_eq_true, decide_eq_true_iff] at h3
      exact ⟨by omega, h1, h2, by omega, by omega, (word_high h3.1).1, (word_high h3.1).2.2, fun e2 => absurd e2 (wne h3.1)⟩
    · rw [if_neg k2] at h3
      by_cases k3 : kindB e.what = 3
      · rw [if_pos k3, decide_eq_true_iff] at h3
        exact ⟨by omega, h1, h2, by omega, by omega, by rw [h3.1]; exact fun c hc => (by cases hc), by rw [h3.1]; decide, fun _ => h3.2⟩
      · rw [if_neg k3] at h3
        cases h3
theorem line_high {e : Ev} (h : rightE e = true) : (10 : UInt8) ∉ dl (lineE e) ∧ (lineE e).size ≤ 1000 := by
  have r := right_is h
  have hk := kind_high r.k
  have hd : ∀ x : Nat, x ≤ 1099511627776 → (Lib.decDigits x).length ≤ 21 := fun x hx => by
    have := itoaB_size (x : Int) (by omega) (by omega)
    rw [itoa_nat] at this
    exact this
  constructor
  · rw [line_list]
    intro hm
    unfold tailL at hm
    simp only [List.mem_append, List.mem_cons] at hm
    rcases hm with hm | hm | hm | hm | hm | hm
    · exact (dec_high _).not (by decide) hm
    · exact absurd hm (by decide)
    · exact absurd hm (by decide)
    · exact hk.1.not (by decide) hm
    · split at hm
      · cases hm
      · rcases List.mem_cons.1 hm with hm | hm
        · exact absurd hm (by decide)
        · exact r.nm.not (by decide) hm
    · split at hm
      · rcases List.mem_cons.1 hm with hm | hm
        · exact absurd hm (by decide)
        · exact (dec_high _).not (by decide) hm
      · cases hm
  · rw [← dl_size, line_list, tailL]
    have h1 := hd e.now.toNat (by have := r.t1; have := r.t0; omega)
    have h2 := hd e.n.toNat (by have := r.n1; have := r.n0; omega)
    have h3 : (dl e.what).length ≤ 10 := by rw [dl_size]; exact hk.2
    have h4 : (dl e.name).length ≤ 256 := by rw [dl_size]; exact r.sz
    simp only [List.length_append, List.length_cons]
    split <;> split <;> simp only [List.length_nil, List.length_cons] <;> omega
def numI (s : ByteArray) : Int := (numV s).1
theorem num_dg (m : Nat) (hm : m ≤ 1125899906842624) : numI (dgB m) = m := by
  have e : dgB m ++ emp = dgB m := by
    refine dl_inj ?_
    rw [dl_app]
    exact List.append_nil _
  have h := dg_int m (by omega) emp (.inl rfl)
  rw [e] at h
  unfold numI numV
  rw [h, if_neg]
  · dsimp only
    unfold overB
    rw [if_neg (by omega)]
  · rintro (h1 | h1)
    · have := dec_pos m
      rw [← dg_size, h1] at this
      exact absurd this (by decide)
    · dsimp only at h1
      omega
def fieldE (now : Int) (ps : List ByteArray) : Ev := ⟨now, ps.getD 0 emp, ps.getD 1 emp, if 2 < ps.length then numI (ps.getD 2 emp) else 0⟩
def partsB (m : ByteArray) : List ByteArray := Lib.splitB bl 0 (min 4 (m.size + 1) - 1) m
def parseL (t : ByteArray) : Option Ev :=
  if (Lib.cut (dl t) [58, 32]).2.2 = true then
    (if rightE (fieldE (numI (lsB (Lib.cut (dl t) [58, 32]).1)) (partsB (lsB (Lib.cut (dl t) [58, 32]).2.1))) = true ∧ lineE (fieldE (numI (lsB (Lib.cut (dl t) [58, 32]).1)) (partsB (lsB (Lib.cut (dl t) [58, 32]).2.1))) = t
      then some (fieldE (numI (lsB (Lib.cut (dl t) [58, 32]).1)) (partsB (lsB (Lib.cut (dl t) [58, 32]).2.1))) else none)
  else none
theorem map_dl {l : List ByteArray} {k : List (List UInt8)} (h : l.map (·.data.toList) = k) : l = k.map lsB := by
  rw [← h, List.map_map]
  conv => lhs; rw [← List.map_id l]
  rfl
theorem parts_of (m : ByteArray) : partsB m = (Lib.splitK [32] 0 (min 4 (m.size + 1) - 1) (dl m)).map lsB := map_dl (Lib.splitB_data bl 0 _ m)
theorem ev_parts {e : Ev} (h : rightE e = true) : fieldE e.now (partsB (lsB (dl e.what ++ tailL e))) = e := by
  have r := right_is h
  have hk := kind_high r.k
  have b1 := hk.1.not (c := 32) (by decide)
  have b2 := r.nm.not (c := 32) (by decide)
  have b3 := (dec_high e.n.toNat).not (c := 32) (by decide)
  rw [parts_of]
  by_cases h1 : e.name = emp
  · have h2 := r.one h1
    have ht : tailL e = [] := by unfold tailL; rw [if_pos h1, if_neg (by omega)]; rfl
    rw [ht, List.append_nil, dl_ls, split_end _ b1]
    obtain ⟨now, what, name, n⟩ := e
    dsimp only at h1 h2
    subst h1 h2
    rfl
  · have hn : dl e.name ≠ [] := fun x => h1 (dl_nil x)
    by_cases h2 : 0 < e.n
    · have ht : tailL e = 32 :: (dl e.name ++ 32 :: Lib.decDigits e.n.toNat) := by unfold tailL; rw [if_neg h1, if_pos h2]; rfl
      obtain ⟨k, hkk⟩ : ∃ k, min 4 ((lsB (dl e.what ++ tailL e)).size + 1) - 1 = k + 1 + 1 := ⟨min 4 ((lsB (dl e.what ++ tailL e)).size + 1) - 1 - 2, by
        have := dec_pos e.n.toNat
        rw [ls_size, ht, List.length_append, List.length_cons, List.length_append, List.length_cons]
        omega⟩
      rw [hkk, dl_ls, ht, split_hit _ b1, split_hit _ b2, split_end _ b3]
      obtain ⟨now, what, name, n⟩ := e
      unfold fieldE
      have e3 := num_dg n.toNat (by have := r.n1; dsimp only at this; omega)
      dsimp only at h2
      show Ev.mk now what name (if 2 < 3 then numI (dgB n.toNat) else 0) = _
      rw [if_pos (by decide), e3, Int.toNat_of_nonneg (by omega)]
    · have h0 : e.n = 0 := by have := r.n0; omega
      have ht : tailL e = 32 :: dl e.name := by unfold tailL; rw [if_neg h1, if_neg h2, List.append_nil]
      obtain ⟨k, hkk⟩ : ∃ k, min 4 ((lsB (dl e.what ++ tailL e)).size + 1) - 1 = k + 1 := ⟨min 4 ((lsB (dl e.what ++ tailL e)).size + 1) - 1 - 1, by
        rw [ls_size, ht, List.length_append, List.length_cons]
        omega⟩
      rw [hkk, dl_ls, ht, split_hit _ b1, split_end _ b2]
      obtain ⟨now, what, name, n⟩ := e
      dsimp only at h0
      subst h0
      rfl
theorem parse_line {e : Ev} (h : rightE e = true) : parseL (lineE e) = some e := by
  have r := right_is h
  have hc : Lib.cut (dl (lineE e)) [58, 32] = (Lib.decDigits e.now.toNat, dl e.what ++ tailL e, true) := by
    rw [line_list]
    exact cut_hit (t := [32]) (dec_no58 _)
  have hn : numI (lsB (Lib.decDigits e.now.toNat)) = e.now := by
    have := num_dg e.now.toNat (by have := r.t1; have := r.t0; omega)
    have h0 := r.t0
    show numI (dgB _) = _
    rw [this, Int.toNat_of_nonneg h0]
  unfold parseL
  rw [hc, if_pos rfl]
  dsimp only
  rw [hn, ev_parts h, if_pos ⟨h, rfl⟩]
theorem parse_some {t : ByteArray} {e : Ev} (h : parseL t = some e) : rightE e = true ∧ lineE e = t := by
  unfold parseL at h
  split at h
  · split at h
    · next k =>
      injection h with h
      rw [← h]
      exact k
    · cases h
  · cases h
/-- The parts between blanks, as the document cuts. -/
def partsL : List UInt8 → List (List UInt8)
  | [] => [[]]
  | c :: l => if c = 32 then [] :: partsL l else match partsL l with
    | [] => [[c]]
    | h :: t => (c :: h) :: t
theorem partsL_end {a : List UInt8} (h : (32 : UInt8) ∉ a) : partsL a = [a] := by
  induction a with
  | nil => rfl
  | cons c l ih =>
    rw [List.mem_cons, not_or] at h
    rw [partsL, if_neg (fun e => h.1 e.symm), ih h.2]
theorem partsL_hit {a b : List UInt8} (h : (32 : UInt8) ∉ a) : partsL (a ++ 32 :: b) = a :: partsL b := by
  induction a with
  | nil => rw [List.nil_append, partsL, if_pos rfl]
  | cons c l ih =>
    rw [List.mem_cons, not_or] at h
    rw [List.cons_append, partsL, if_neg (fun e => h.1 e.symm), ih h.2]
def isDq (c : UInt8) : Bool := decide (48 ≤ c.toNat ∧ c.toNat ≤ 57)
def numT (l : List UInt8) : Nat := (l.take 13).foldl (fun a c => if isDq c = true then 10 * a + (c.toNat - 48) else a) 0
def readE (p : List (List UInt8)) : Ev := ⟨numT (p.getD 0 []).dropLast, lsB (p.getD 1 []), lsB (p.getD 2 []), if 3 < p.length then numT (p.getD 3 []) else 0⟩
def readL (t : ByteArray) : Option Ev :=
  if 2 ≤ (partsL (dl t)).length ∧ (partsL (dl t)).length ≤ 4 ∧ 2 ≤ ((partsL (dl t)).getD 0 []).length then
    (if rightE (readE (partsL (dl t))) = true ∧ lineE (readE (partsL (dl t))) = t then some (readE (partsL (dl t))) else none)
  else none
theorem numT_dec (m : Nat) (hm : m < 10000000000000) : numT (Lib.decDigits m) = m := by
  have hl : (Lib.decDigits m).length ≤ 13 := by
    by_cases h1 : 1 ≤ m
    · obtain ⟨c, r, e, h0⟩ := dec_head m h1
      have e2 := dec_num m h1
      rw [e, numL_cons] at e2
      have hc := (dec_digits m c (by rw [e]; simp)).1
      have hp : 1 ≤ c.toNat - 48 := by
        have : c.toNat ≠ 48 := fun x => h0 (UInt8.toNat_inj.1 x)
        omega
      by_cases hr : r.length ≤ 12
      · rw [e, List.length_cons]; omega
      · exfalso
        have h13 : 10 ^ 13 ≤ 10 ^ r.length := Nat.pow_le_pow_right (by decide) (by omega)
        have : 1 * 10 ^ r.length ≤ (c.toNat - 48) * 10 ^ r.length := Nat.mul_le_mul_right _ hp
        have h14 : (10 : Nat) ^ 13 = 10000000000000 := by decide
        omega
    · rw [dec_one m (by omega)]; exact Nat.le_of_ble_eq_true rfl
  unfold numT
  rw [List.take_of_length_le hl]
  have hs : ∀ (l : List UInt8) (a : Nat), allIs l → l.foldl (fun a c => if isDq c = true then 10 * a + (c.toNat - 48) else a) a = l.foldl (fun a c => a * 10 + (c.toNat - 48)) a := by
    intro l
    induction l with
    | nil => intro a _; rfl
    | cons c l ih =>
      intro a ha
      rw [List.foldl_cons, List.foldl_cons, ih _ (fun x hx => ha x (List.mem_cons_of_mem _ hx)), if_pos (show isDq c = true from decide_eq_true (show 48 ≤ c.toNat ∧ c.toNat ≤ 57 from ha c (by simp))), Nat.mul_comm]
  rw [hs _ _ (fun c hc => dec_digits m c hc)]
  by_cases h1 : 1 ≤ m
  · exact dec_num m h1
  · obtain rfl : m = 0 := by omega
    rw [dec_one 0 (by decide)]
    rfl
theorem read_line {e : Ev} (h : rightE e = true) : readL (lineE e) = some e := by
  have r := right_is h
  have hk := kind_high r.k
  have b1 := hk.1.not (c := 32) (by decide)
  have b2 := r.nm.not (c := 32) (by decide)
  have b3 := (dec_high e.n.toNat).not (c := 32) (by decide)
  have b0 : (32 : UInt8) ∉ Lib.decDigits e.now.toNat ++ [58] := fun hm => by
    rcases List.mem_append.1 hm with hm | hm
    · exact (dec_high _).not (c := 32) (by decide) hm
    · revert hm; decide
  have hp0 := dec_pos e.now.toNat
  have ht0 : (numT (Lib.decDigits e.now.toNat) : Int) = e.now := by
    rw [numT_dec _ (by have := r.t1; have := r.t0; omega)]
    exact Int.toNat_of_nonneg r.t0
  have hd : (Lib.decDigits e.now.toNat ++ [58]).dropLast = Lib.decDigits e.now.toNat := List.dropLast_concat
  have key : ∀ p, partsL (dl (lineE e)) = p → (2 ≤ p.length ∧ p.length ≤ 4 ∧ 2 ≤ (p.getD 0 []).length) → readE p = e → readL (lineE e) = some e := by
    intro p hp hc he
    unfold readL
    rw [hp, if_pos hc, he, if_pos ⟨h, rfl⟩]
  have hl : dl (lineE e) = (Lib.decDigits e.now.toNat ++ [58]) ++ 32 :: (dl e.what ++ tailL e) := by rw [line_list]; simp
  by_cases h1 : e.name = emp
  · have h2 := r.one h1
    have ht : tailL e = [] := by unfold tailL; rw [if_pos h1, if_neg (by omega)]; rfl
    refine key [Lib.decDigits e.now.toNat ++ [58], dl e.what] (by rw [hl, ht, List.append_nil, partsL_hit b0, partsL_end b1]) ⟨by simp, by simp, ?_⟩ ?_
    · show 2 ≤ (Lib.decDigits e.now.toNat ++ [58]).length
      rw [List.length_append]; show 2 ≤ _ + 1; omega
    · unfold readE
      show Ev.mk (numT (Lib.decDigits e.now.toNat ++ [58]).dropLast : Int) e.what emp 0 = e
      rw [hd, ht0, ← h1, ← h2]
  · by_cases h2 : 0 < e.n
    · have ht : tailL e = 32 :: (dl e.name ++ 32 :: Lib.decDigits e.n.toNat) := by unfold tailL; rw [if_neg h1, if_pos h2]; rfl
      refine key [Lib.decDigits e.now.toNat ++ [58], dl e.what, dl e.name, Lib.decDigits e.n.toNat] (by rw [hl, ht, partsL_hit b0, partsL_hit b1, partsL_hit b2, partsL_end b3]) ⟨by simp, by simp, ?_⟩ ?_
      · show 2 ≤ (Lib.decDigits e.now.toNat ++ [58]).length
        rw [List.length_append]; show 2 ≤ _ + 1; omega
      · unfold readE
        show Ev.mk (numT (Lib.decDigits e.now.toNat ++ [58]).dropLast : Int) e.what e.name (if 3 < 4 then (numT (Lib.decDigits e.n.toNat) : Int) else 0) = e
        rw [hd, ht0, if_pos (by decide), numT_dec _ (by have := r.n1; have := r.n0; omega), Int.toNat_of_nonneg r.n0]
    · have h0 : e.n = 0 := by have := r.n0; omega
      have ht : tailL e = 32 :: dl e.name := by unfold tailL; rw [if_neg h1, if_neg h2, List.append_nil]
      refine key [Lib.decDigits e.now.toNat ++ [58], dl e.what, dl e.name] (by rw [hl, ht, partsL_hit b0, partsL_hit b1, partsL_end b2]) ⟨by simp, by simp, ?_⟩ ?_
      · show 2 ≤ (Lib.decDigits e.now.toNat ++ [58]).length
        rw [List.length_append]; show 2 ≤ _ + 1; omega
      · unfold readE
        show Ev.mk (numT (Lib.decDigits e.now.toNat ++ [58]).dropLast : Int) e.what e.name 0 = e
        rw [hd, ht0, ← h0]
theorem read_some {t : ByteArray} {e : Ev} (h : readL t = some e) : rightE e = true ∧ lineE e = t := by
  unfold readL at h
  split at h
  · split at h
    · next k =>
      injection h with h
      rw [← h]
      exact k
    · cases h
  · cases h
/-- Both readings are the same. -/
theorem read_parse (t : ByteArray) : readL t = parseL t := by
  cases hp : parseL t with
  | some e =>
    obtain ⟨h1, h2⟩ := parse_some hp
    rw [← h2]
    exact read_line h1
  | none =>
    cases hr : readL t with
    | none => rfl
    | some e =>
      obtain ⟨h1, h2⟩ := read_some hr
      have := parse_line h1
      rw [h2, hp] at this
      cases this
/-- Lines, one behind the other. -/
def lineOf (s : List UInt8) : List UInt8 := s.takeWhile (fun c => !decide (c = 10))
def restOf (s : List UInt8) : List UInt8 := s.drop ((lineOf s).length + 1)
theorem mem_first {s : List UInt8} (h : (10 : UInt8) ∈ s) : ∃ a b, s = a ++ 10 :: b ∧ (10 : UInt8) ∉ a := by
  induction s with
  | nil => cases h
  | cons c l ih =>
    by_cases hc : c = 10
    · exact ⟨[], l, by rw [hc]; rfl, by simp⟩
    · obtain ⟨a, b, e, hn⟩ := ih ((List.mem_cons.1 h).resolve_left fun e => hc e.symm)
      exact ⟨c :: a, b, by rw [e]; rfl, fun hm => (List.mem_cons.1 hm).elim (fun e => hc e.symm) hn⟩
theorem cut_line (s : List UInt8) : (Lib.cut s [10]).1 = lineOf s ∧ (Lib.cut s [10]).2.1 = restOf s := by
  have hw : ∀ a b : List UInt8, (10 : UInt8) ∉ a → lineOf (a ++ 10 :: b) = a := by
    intro a b h
    unfold lineOf
    induction a with
    | nil => simp
    | cons c l ih =>
      rw [List.mem_cons, not_or] at h
      rw [List.cons_append, List.takeWhile_cons, if_pos (show (!decide (c = 10)) = true from by rw [decide_eq_false (fun e => h.1 e.symm)]; rfl), ih h.2]
  have hw2 : ∀ a : List UInt8, (10 : UInt8) ∉ a → lineOf a = a := by
    intro a h
    unfold lineOf
    induction a with
    | nil => rfl
    | cons c l ih =>
      rw [List.mem_cons, not_or] at h
      rw [List.takeWhile_cons, if_pos (show (!decide (c = 10)) = true from by rw [decide_eq_false (fun e => h.1 e.symm)]; rfl), ih h.2]
  by_cases h : (10 : UInt8) ∈ s
  · obtain ⟨a, b, e, hn⟩ := mem_first h
    subst e
    have hc : Lib.cut (a ++ 10 :: b) [10] = (a, b, true) := cut_hit (t := []) hn
    rw [hc]
    unfold restOf
    rw [hw a b hn]
    refine ⟨rfl, ?_⟩
    show b = (a ++ 10 :: b).drop (a.length + 1)
    rw [← List.drop_drop, List.drop_left]
    rfl
  · rw [show Lib.cut s [10] = (s, [], false) from cut_miss h]
    unfold restOf
    rw [hw2 s h]
    refine ⟨rfl, ?_⟩
    show [] = s.drop (s.length + 1)
    rw [List.drop_of_length_le (by omega)]
theorem line_app {a b : List UInt8} (h : (10 : UInt8) ∉ a) : lineOf (a ++ 10 :: b) = a ∧ restOf (a ++ 10 :: b) = b := by
  have h1 := cut_line (a ++ 10 :: b)
  rw [show Lib.cut (a ++ 10 :: b) [10] = (a, b, true) from cut_hit (t := []) h] at h1
  exact ⟨h1.1.symm, h1.2.symm⟩
/-- The events of lines; where one is none, its number. -/
def runL : Nat → List UInt8 → List Ev → Int → List Ev × Int × Int
  | 0, _, acc, _ => (acc, 0, 0)
  | f + 1, s, acc, k => if s = [] then (acc, 0, 0) else match parseL (lsB (lineOf s)) with
    | none => ([], 12, k)
    | some e => runL f (restOf s) (acc ++ [e]) (k + 1)
def showL (l : List Ev) : List UInt8 := l.flatMap fun e => if rightE e = true then dl (lineE e) ++ [10] else []
theorem rest_less {s : List UInt8} (h : s ≠ []) : (restOf s).length < s.length := by
  cases s with
  | nil => exact absurd rfl h
  | cons c l => unfold restOf; rw [List.length_drop]; simp only [List.length_cons]; omega
theorem run_show : ∀ (l : List Ev) (f : Nat) (acc : List Ev) (k : Int), (showL l).length ≤ f → runL f (showL l) acc k = (acc ++ l.filter rightE, 0, 0)
  | [], f, acc, k, _ => by
    cases f with
    | zero => rw [runL]; simp
    | succ f => rw [runL, show showL [] = [] from rfl, if_pos rfl]; simp
  | e :: l, f, acc, k, h => by
    by_cases hr : rightE e = true
    · have hs : showL (e :: l) = dl (lineE e) ++ 10 :: showL l := by
        unfold showL
        rw [List.flatMap_cons, if_pos hr]
        simp
      obtain ⟨h1, h2⟩ := line_app (b := showL l) (line_high hr).1
      rw [hs, List.length_append, List.length_cons] at h
      obtain ⟨f, rfl⟩ : ∃ g, f = g + 1 := ⟨f - 1, by omega⟩
      rw [hs, runL, if_neg (by simp), h1, ls_dl, parse_line hr]
      dsimp only
      rw [h2, run_show l f _ _ (by omega), List.filter_cons, if_pos hr]
      simp
    · have hs : showL (e :: l) = showL l := by
        unfold showL
        rw [List.flatMap_cons, if_neg hr]
        rfl
      rw [hs] at h ⊢
      rw [run_show l f acc k h, List.filter_cons, if_neg hr]
end Go.Proofs.YtaehcnoendieaaaDoor
