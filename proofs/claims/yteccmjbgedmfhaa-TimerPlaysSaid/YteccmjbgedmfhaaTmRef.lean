/-
  The document's table of layer 27: what it holds; where a name stands; since when it is so.
-/
import Derived.Test.YteccmjbgedmfhaaTmOne
import Derived.Test.YteccmjbgedmfhaaTmLess
import Derived.Test.YteccmjbgedmfhaaFilt
import Derived.Test.YteccmjbgedmfhaaTxtL
import Derived.Test.YteccmjbgedmfhaaTm2
namespace Go.Proofs.Yteccmjbgedmfhaa
open Go.RowKit
set_option linter.unusedVariables false
set_option linter.unusedSimpArgs false

abbrev Nt := ByteArray × Int
def ntc (x : Nt) : List Value := [.string x.1, .int .i64 x.2]
theorem ntc_len (x : Nt) : (ntc x).length = 2 := rfl
theorem ntc_one (x : Nt) : ∀ u ∈ ntc x, u.oneCell' = true := by
  intro u hu
  simp [ntc] at hu
  rcases hu with rfl | rfl <;> rfl
abbrev NtL := RowsAt ntc 2
theorem nt_cells {w : World} {b o : Nat} {x : Nt} (h : ∀ r, r < 2 → w.cell? ⟨b, o + r, none⟩ = (ntc x)[r]?) : w.cell? ⟨b, o, none⟩ = some (.string x.1) ∧ w.cell? ⟨b, o + 1, none⟩ = some (.int .i64 x.2) :=
  ⟨h 0 (by decide), h 1 (by decide)⟩
theorem Try.info57 : (Try.prog.info? 57).map (fun i => (i.zero, i.size, i.bytes)) = some (some (.agg #[.string ⟨#[]⟩, .int .i64 0]), 2, 24) := by kernel_rfl
/-- Which note stands ahead of which. -/
def ltN (x y : Nt) : Prop := x.2 < y.2 ∨ (x.2 = y.2 ∧ bl x.1 y.1 = true)
theorem ltN_irrefl (x : Nt) : ¬ ltN x x := by
  rintro (h | ⟨_, h⟩)
  · omega
  · rw [bl_self] at h; cases h
theorem ltN_trans {x y z : Nt} (h1 : ltN x y) (h2 : ltN y z) : ltN x z := by
  rcases h1 with h1 | ⟨e1, h1⟩ <;> rcases h2 with h2 | ⟨e2, h2⟩
  · exact .inl (by omega)
  · exact .inl (by omega)
  · exact .inl (by omega)
  · exact .inr ⟨by omega, bl_tr h1 h2⟩
theorem ltN_tri {x y : Nt} (h1 : ¬ ltN x y) (h2 : x.1 ≠ y.1) : ltN y x := by
  unfold ltN at *
  by_cases a : x.2 < y.2
  · exact absurd (.inl a) h1
  · by_cases b : y.2 < x.2
    · exact .inl b
    · have e : x.2 = y.2 := by omega
      refine .inr ⟨e.symm, ?_⟩
      cases h : bl y.1 x.1 with
      | true => rfl
      | false =>
        cases h' : bl x.1 y.1 with
        | true => exact absurd (.inr ⟨e, h'⟩) h1
        | false => exact absurd (bl_ext h' h) h2
/-- The notes of a table, as the document keeps them. -/
structure Rep (T : ByteArray → Option Int) (M : List Nt) : Prop where
  srt : M.Pairwise ltN
  rep : ∀ s t, T s = some t ↔ (s, t) ∈ M
  le : ∀ x ∈ M, x.1.size ≤ maxLen
  ok : ∀ x ∈ M, 0 ≤ x.2 ∧ x.2 ≤ 1099511627776
section
variable {T : ByteArray → Option Int} {M : List Nt}
theorem Rep.mem (h : Rep T M) {x : Nt} (hx : x ∈ M) : T x.1 = some x.2 := (h.rep x.1 x.2).2 hx
theorem Rep.ne (h : Rep T M) {i j : Nat} {x y : Nt} (hx : M[i]? = some x) (hy : M[j]? = some y) (hij : i < j) : x.1 ≠ y.1 := fun e => by
  obtain ⟨hi, rfl⟩ := List.getElem?_eq_some_iff.1 hx
  obtain ⟨hj, rfl⟩ := List.getElem?_eq_some_iff.1 hy
  have h1 := List.pairwise_iff_getElem.1 h.srt i j hi hj hij
  have e1 := h.mem (List.getElem_mem hi)
  have e2 := h.mem (List.getElem_mem hj)
  rw [e, e2] at e1
  have e3 : M[j].2 = M[i].2 := Option.some.inj e1
  rcases h1 with h1 | ⟨_, h1⟩
  · omega
  · rw [e, bl_self] at h1; cases h1
theorem Rep.names (h : Rep T M) : Ordered T (M.map (·.1)) where
  nd := by
    refine List.pairwise_map.2 ?_
    rw [List.pairwise_iff_getElem]
    intro i j hi hj hij
    exact h.ne (List.getElem?_eq_getElem hi) (List.getElem?_eq_getElem hj) hij
  mem s := by
    rw [List.mem_map]
    constructor
    · rintro ⟨x, hx, rfl⟩
      rw [h.mem hx]
      rfl
    · intro hs
      obtain ⟨t, ht⟩ := Option.isSome_iff_exists.1 hs
      exact ⟨(s, t), (h.rep s t).1 ht, rfl⟩
  le s hs := by
    obtain ⟨x, hx, rfl⟩ := List.mem_map.1 hs
    exact h.le x hx
  asc := by
    refine List.pairwise_map.2 (h.srt.imp_of_mem fun {x y} hx hy hl => ?_)
    unfold ltT ordT
    rw [h.mem hx, h.mem hy]
    exact hl
theorem Rep.none_ne (h : Rep T M) {g : ByteArray} (hg : T g = none) : ∀ x ∈ M, x.1 ≠ g := fun x hx e => by
  have := h.mem hx
  rw [e, hg] at this
  cases this
theorem Rep.at_some (h : Rep T M) {g : ByteArray} {t : Int} (hg : T g = some t) : ∃ k : Nat, M[k]? = some (g, t) ∧ ∀ (j : Nat) (y : Nt), j < k → M[j]? = some y → y.1 ≠ g := by
  obtain ⟨k, hk, e⟩ := List.mem_iff_getElem.1 ((h.rep g t).1 hg)
  have hk2 : M[k]? = some (g, t) := by rw [List.getElem?_eq_getElem hk, e]
  exact ⟨k, hk2, fun j y hj hy => h.ne hy hk2 hj⟩
end
structure RT (w : World) (base p : Nat) (M : List Nt) (v : Value) : Prop where
  row : Blk w p 28 [v]
  own : w.ownsRow base 57 2 v M.length (M.flatMap ntc)
  ne : v.ownBlock ≠ some p
  hp : base ≤ p
theorem own_same {w w' : World} {B : Nat} {v : Value} {n k : Nat} {e : TypeId} {xs : List Value} (h : w.ownsRow B e k v n xs) (hb : ∀ g, v.ownBlock = some g → w'.heap[g]? = w.heap[g]?) : w'.ownsRow B e k v n xs := by
  refine ⟨h.1, ?_⟩
  rcases h.2 with h | ⟨g, cap, cur, rfl, h1, h2, h3⟩
  · exact .inl h
  · exact .inr ⟨g, cap, cur, rfl, h1, (hb g rfl).trans h2, h3⟩
theorem own_lt {w : World} {B : Nat} {v : Value} {n k : Nat} {e : TypeId} {xs : List Value} (h : w.ownsRow B e k v n xs) {g : Nat} (hg : v.ownBlock = some g) : B ≤ g ∧ g < w.heap.size := by
  rcases h.2 with ⟨rfl, _⟩ | ⟨g', cap, cur, rfl, h1, h2, h3⟩
  · cases hg
  · obtain rfl : g' = g := Option.some.inj hg
    exact ⟨h1, (Array.getElem?_eq_some_iff.1 h2).1⟩
section
variable {w w' : World} {base p : Nat} {M : List Nt} {v : Value}
theorem RT.only {S : List Nat} (h : RT w base p M v) (ho : Only S w w') (hp : p ∉ S) (hv : ∀ g, v.ownBlock = some g → g ∉ S) : RT w' base p M v :=
  ⟨h.row.only ho hp, own_same h.own fun g hg => ho.block g (own_lt h.own hg).2 (hv g hg), h.ne, h.hp⟩
theorem RT.below (h : RT w base p M v) (hb : Below w.heap.size w w') : RT w' base p M v := h.only (Only.of_below (S := []) hb) (by simp) (fun _ _ => by simp)
theorem RT.rows (h : RT w base p M v) : ∃ a k, v = .slice a M.length k ∧ (0 < M.length → ∃ b, a = some ⟨b, 0, none⟩ ∧ base ≤ b ∧ b < w.heap.size ∧ b ≠ p ∧ ∀ i x, M[i]? = some x → w.cell? ⟨b, i * 2, none⟩ = some (.string x.1) ∧ w.cell? ⟨b, i * 2 + 1, none⟩ = some (.int .i64 x.2)) := by
  obtain ⟨a, k, e, hc⟩ := own_rows ntc_len h.own (by decide)
  refine ⟨a, k, e, fun h0 => ?_⟩
  obtain ⟨b, h1, h2, h3, h4⟩ := hc h0
  refine ⟨b, h1, h2, h3, fun eb => h.ne (by rw [e, h1, ← eb]; rfl), fun i x hx => ?_⟩
  have h5 := h4 i x hx
  simp only [Nat.zero_add] at h5
  exact ⟨h5 0 (by decide), h5 1 (by decide)⟩
end

set_option maxRecDepth 100000 in
set_option maxHeartbeats 4000000 in
theorem place_hit (base p : Nat) (M : List Nt) (v : Value) (g : ByteArray) (k : Nat) (x : Nt) (w : World) (h : RT w base p M v) (hx : M[k]? = some x) (hg : x.1 = g) (hu : ∀ j y, j < k → M[j]? = some y → y.1 ≠ g) (hM : M.length ≤ 1000000) :
    Calls Try.prog 27 #[.pointer (some ⟨p, 0, none⟩), .string g] w fun e w' => e = .returned (.int .i64 k) ∧ w' = w := by
  obtain ⟨a, kc, rfl, hc⟩ := h.rows
  have c0 := h.row.cell 0
  dsimp only [List.getElem?_cons_zero] at c0
  have hkl := lt_at hx
  obtain ⟨b, rfl, hb0, hb1, _, hc⟩ := hc (by omega)
  obtain ⟨n, hn⟩ : ∃ n, M.length = n := ⟨_, rfl⟩
  have Hn := Lib.hid hn
  have Hc := Lib.hid hc
  have Hx := Lib.hid hx
  have Hu := Lib.hid hu
  rw [hn] at c0 hkl hM
  clear h hc hx hu hn
  go_enter Try.func27, Try.ntmps27
  go_wp2
  go_loopw [5] (fun i wr => ∃ j : Nat, j ≤ k ∧ i = .int .i64 j ∧ wr = w) (fun i _ => n - (intOf i).toNat)
  case atStart => exact ⟨0, Nat.zero_le _, rfl, rfl⟩
  case round =>
    obtain ⟨j, hj, rfl, rfl⟩ := hrel
    have hjn : j < n := by omega
    obtain ⟨y, hy⟩ := mem_at (l := M) (k := j) (by rw [Hn.out]; exact hjn)
    obtain ⟨d0, d1⟩ := Hc.out j y hy
    by_cases he : j = k
    · subst he
      obtain rfl : y = x := Option.some.inj (hy.symm.trans Hx.out)
      have k1 := txt_eq hg
      clear hy hg
      go_wp2
      go_ret
      exact ⟨rfl, rfl⟩
    · have k1 := txt_ne (Hu.out j y (by omega) hy)
      clear hy
      go_wp2
      go_roundw
      case rel => exact ⟨j + 1, by omega, by go_num, trivial⟩
      case measure => simp [intOf]; omega

set_option maxRecDepth 100000 in
set_option maxHeartbeats 4000000 in
theorem place_miss (base p : Nat) (M : List Nt) (v : Value) (g : ByteArray) (w : World) (h : RT w base p M v) (hu : ∀ x ∈ M, x.1 ≠ g) (hM : M.length ≤ 1000000) :
    Calls Try.prog 27 #[.pointer (some ⟨p, 0, none⟩), .string g] w fun e w' => e = .returned (.int .i64 (-1)) ∧ w' = w := by
  obtain ⟨a, kc, rfl, hc⟩ := h.rows
  have c0 := h.row.cell 0
  dsimp only [List.getElem?_cons_zero] at c0
  obtain ⟨n, hn⟩ : ∃ n, M.length = n := ⟨_, rfl⟩
  have Hn := Lib.hid hn
  have Hc := Lib.hid hc
  have Hu := Lib.hid hu
  rw [hn] at c0 hM
  clear h hc hu hn
  go_enter Try.func27, Try.ntmps27
  go_wp2
  go_loopw [5] (fun i wr => ∃ j : Nat, j ≤ n ∧ i = .int .i64 j ∧ wr = w) (fun i _ => n - (intOf i).toNat)
  case atStart => exact ⟨0, Nat.zero_le _, rfl, rfl⟩
  case round =>
    obtain ⟨j, hj, rfl, rfl⟩ := hrel
    by_cases hjn : j < n
    · obtain ⟨b, rfl, hb0, hb1, _, hc⟩ := Hc.out (by rw [Hn.out]; omega)
      obtain ⟨y, hy⟩ := mem_at (l := M) (k := j) (by rw [Hn.out]; exact hjn)
      obtain ⟨d0, d1⟩ := hc j y hy
      have k1 := txt_ne (Hu.out y (List.mem_of_getElem? hy))
      clear hy hc
      go_wp2
      go_roundw
      case rel => exact ⟨j + 1, by omega, by go_num, trivial⟩
      case measure => simp [intOf]; omega
    · obtain rfl : j = n := by omega
      go_wp2
      go_ret
      exact ⟨rfl, rfl⟩

theorem rtime_any (n : Int) (w : World) : Calls Try.prog 25 #[.int .i64 n] w fun e w' => e = .returned (.bool (timeB n)) ∧ w' = w := by
  by_cases h : 0 ≤ n
  · go_enter Try.func25, Try.ntmps25
    go_wp2
    go_ret
    exact ⟨by simp [timeB, h], rfl⟩
  · have h1 : decide (0 ≤ n) = false := decide_eq_false h
    have h2 : timeB n = false := decide_eq_false (fun e => h e.1)
    rw [h2]
    clear h2 h
    go_enter Try.func25, Try.ntmps25
    go_wp2
    go_ret
    exact ⟨rfl, rfl⟩

theorem rsince_any (base p : Nat) (T : ByteArray → Option Int) (M : List Nt) (v : Value) (g : ByteArray) (w : World) (h : RT w base p M v) (hr : Rep T M) (hM : M.length ≤ 1000000) :
    Calls Try.prog 15 #[.pointer (some ⟨p, 0, none⟩), .string g] w fun e w' => e = .returned (sinceV (T g)) ∧ w' = w := by
  cases hg : T g with
  | none =>
    have HP := Lib.hid (place_miss base p M v g w h (hr.none_ne hg) hM)
    clear h hr hg
    go_enter Try.func15, Try.ntmps15
    go_wp2_with (go_at_call 27; (with_reducible refine HP.out.mono ?_); rintro e w1 ⟨rfl, rfl⟩)
    go_ret2
    exact ⟨rfl, rfl⟩
  | some t =>
    obtain ⟨k, hk, hu⟩ := hr.at_some hg
    have HP := Lib.hid (place_hit base p M v g k (g, t) w h hk rfl hu hM)
    obtain ⟨a, kc, rfl, hc⟩ := h.rows
    have c0 := h.row.cell 0
    dsimp only [List.getElem?_cons_zero] at c0
    have hkl := lt_at hk
    obtain ⟨b, rfl, hb0, hb1, _, hc⟩ := hc (by omega)
    obtain ⟨d0, d1⟩ := hc k _ hk
    dsimp only at d0 d1
    obtain ⟨n, hn⟩ : ∃ n, M.length = n := ⟨_, rfl⟩
    rw [hn] at c0 hkl hM
    clear h hr hg hc hk hu hn
    have j1 : decide ((k : Int) < 0) = false := decide_eq_false (by omega)
    go_enter Try.func15, Try.ntmps15
    go_wp2_with (go_at_call 27; (with_reducible refine HP.out.mono ?_); rintro e w1 ⟨rfl, rfl⟩)
    go_ret2
    exact ⟨rfl, rfl⟩
/-- Is a text one of some? -/
theorem among_any (a : Option Addr) (ka : Nat) (l : List ByteArray) (g : ByteArray) (w : World) (hF : TxtL w a l) (hl : l.length ≤ 1000000) :
    Calls Try.prog 26 #[.slice a l.length ka, .string g] w fun e w' => e = .returned (.bool (decide (g ∈ l))) ∧ w' = w := by
  have HF := Lib.hid hF
  obtain ⟨n, hn⟩ : ∃ n, l.length = n := ⟨_, rfl⟩
  have Hn := Lib.hid hn
  rw [hn] at hl ⊢
  clear hF hn
  go_enter Try.func26, Try.ntmps26
  go_wp2
  go_loopw [5] (fun i wr => ∃ j : Nat, j ≤ n ∧ i = .int .i64 j ∧ ¬ g ∈ l.take j ∧ wr = w) (fun i _ => n - (intOf i).toNat)
  case atStart => exact ⟨0, Nat.zero_le _, rfl, by simp, rfl⟩
  case round =>
    obtain ⟨j, hj, rfl, hn, rfl⟩ := hrel
    have HN := Lib.hid hn
    clear hn
    by_cases hjn : j < n
    · obtain ⟨y, hy⟩ := mem_at (l := l) (k := j) (by rw [Hn.out]; exact hjn)
      obtain ⟨b1, o1, rfl, hb1, hc1⟩ := HF.out (by rw [Hn.out]; omega)
      have d1 := txt_cell (hc1 j y hy)
      rw [Nat.mul_one] at d1
      have Hy := Lib.hid hy
      clear hc1 hy
      by_cases he : y = g
      · have k1 := txt_eq he
        have Hm := Lib.hid (show g ∈ l from he ▸ List.mem_of_getElem? Hy.out)
        clear he
        go_wp2
        go_ret
        exact ⟨by rw [decide_eq_true Hm.out]; rfl, rfl⟩
      · have k1 := txt_ne he
        have Hm := Lib.hid (show ¬ g ∈ l.take (j + 1) by
          rw [take_at Hy.out, List.mem_append]
          rintro (h | h)
          · exact HN.out h
          · have e : g = y := by simpa using h
            exact he e.symm)
        clear he
        go_wp2
        go_roundw
        case rel => exact ⟨j + 1, by omega, by go_num, Hm.out, trivial⟩
        case measure => simp [intOf]; omega
    · obtain rfl : j = n := by omega
      have Hm := Lib.hid (show ¬ g ∈ l by (have h := HN.out; rwa [List.take_of_length_le (Nat.le_of_eq Hn.out)] at h))
      go_wp2
      go_ret
      exact ⟨by rw [decide_eq_false Hm.out]; rfl, rfl⟩
end Go.Proofs.Yteccmjbgedmfhaa
