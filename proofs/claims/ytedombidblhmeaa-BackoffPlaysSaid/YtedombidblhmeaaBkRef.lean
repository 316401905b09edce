/-
  The table as the document's answers ask of it: what it holds; where a group stands.
-/
import Derived.Test.YtedombidblhmeaaBk3
import Derived.Test.YtedombidblhmeaaTxtL
import Derived.Deep.RegionHeld3
import Derived.Deep.AppendLies
namespace Go.Proofs.Ytedombidblhmeaa
open Go.RowKit
set_option linter.unusedVariables false
set_option linter.unusedSimpArgs false

abbrev Nt := ByteArray × En
def ntc (x : Nt) : List Value := [.string x.1, .int .i64 x.2.l, .int .i64 x.2.u]
theorem ntc_len (x : Nt) : (ntc x).length = 3 := rfl
theorem ntc_one (x : Nt) : ∀ u ∈ ntc x, u.oneCell' = true := by
  intro u hu
  simp [ntc] at hu
  rcases hu with rfl | rfl | rfl <;> rfl
structure RT (w : World) (base p : Nat) (fi mo re : Int) (M : List Nt) (v : Value) : Prop where
  row : Blk w p 37 [v, .int .i64 fi, .int .i64 mo, .int .i64 re]
  own : w.ownsRow base 57 3 v M.length (M.flatMap ntc)
  ne : v.ownBlock ≠ some p
  hp : base ≤ p
theorem own_same {w w' : World} {B : Nat} {v : Value} {n k : Nat} {e : TypeId} {xs : List Value} (h : w.ownsRow B e k v n xs) (hb : ∀ g, v.ownBlock = some g → w'.heap[g]? = w.heap[g]?) : w'.ownsRow B e k v n xs := by
  refine ⟨h.1, ?_⟩
  rcases h.2 with h | ⟨g, cap, cur, rfl, h1, h2, h3⟩
  · exact .inl h
  · exact .inr ⟨g, cap, cur, rfl, h1, (hb g rfl).trans h2, h3⟩
theorem own_lt {w : World} {B : Nat} {v : Value} {n k : Nat} {e : TypeId} {xs : List Value} (h : w.ownsRow B e k v n xs) {g : Nat} (hg : v.ownBlock = some g) : B ≤ g ∧ g < w.heap.size := by
  rcases h.2 with ⟨rfl, _⟩ | ⟨g', cap, cur, rfl, h1, h2, h3⟩
  · cases hg
  · obtain rfl : g' = g := Option.some.inj hg
    exact ⟨h1, (Array.getElem?_eq_some_iff.1 h2).1⟩
section
variable {w w' : World} {base p : Nat} {fi mo re : Int} {M : List Nt} {v : Value}
theorem RT.only {S : List Nat} (h : RT w base p fi mo re M v) (ho : Only S w w') (hp : p ∉ S) (hv : ∀ g, v.ownBlock = some g → g ∉ S) : RT w' base p fi mo re M v :=
  ⟨h.row.only ho hp, own_same h.own fun g hg => ho.block g (own_lt h.own hg).2 (hv g hg), h.ne, h.hp⟩
theorem RT.below (h : RT w base p fi mo re M v) (hb : Below w.heap.size w w') : RT w' base p fi mo re M v := h.only (Only.of_below (S := []) hb) (by simp) (fun _ _ => by simp)
theorem RT.rows (h : RT w base p fi mo re M v) : ∃ a k, v = .slice a M.length k ∧ (0 < M.length → ∃ b, a = some ⟨b, 0, none⟩ ∧ base ≤ b ∧ b < w.heap.size ∧ ∀ i x, M[i]? = some x → w.cell? ⟨b, i * 3, none⟩ = some (.string x.1) ∧ w.cell? ⟨b, i * 3 + 1, none⟩ = some (.int .i64 x.2.l) ∧ w.cell? ⟨b, i * 3 + 2, none⟩ = some (.int .i64 x.2.u)) := by
  obtain ⟨a, k, e, hc⟩ := own_rows ntc_len h.own (by decide)
  refine ⟨a, k, e, fun h0 => ?_⟩
  obtain ⟨b, h1, h2, h3, h4⟩ := hc h0
  refine ⟨b, h1, h2, h3, fun i x hx => ?_⟩
  have h5 := h4 i x hx
  simp only [Nat.zero_add] at h5
  exact ⟨h5 0 (by decide), h5 1 (by decide), h5 2 (by decide)⟩
end

set_option maxRecDepth 100000 in
set_option maxHeartbeats 4000000 in
theorem place_hit (base p : Nat) (fi mo re : Int) (M : List Nt) (v : Value) (g : ByteArray) (k : Nat) (x : Nt) (w : World) (h : RT w base p fi mo re M v) (hx : M[k]? = some x) (hg : x.1 = g) (hu : ∀ j y, j < k → M[j]? = some y → y.1 ≠ g) (hM : M.length ≤ 1000000) :
    Calls Try.prog 28 #[.pointer (some ⟨p, 0, none⟩), .string g] w fun e w' => e = .returned (.int .i64 k) ∧ w' = w := by
  obtain ⟨a, kc, rfl, hc⟩ := h.rows
  have c0 := h.row.cell 0
  dsimp only [List.getElem?_cons_zero] at c0
  have hkl := lt_at hx
  obtain ⟨b, rfl, hb0, hb1, hc⟩ := hc (by omega)
  obtain ⟨n, hn⟩ : ∃ n, M.length = n := ⟨_, rfl⟩
  have Hn := Lib.hid hn
  have Hc := Lib.hid hc
  have Hx := Lib.hid hx
  have Hu := Lib.hid hu
  rw [hn] at c0 hkl hM
  clear h hc hx hu hn
  go_enter Try.func28, Try.ntmps28
  go_wp2
  go_loopw [5] (fun i wr => ∃ j : Nat, j ≤ k ∧ i = .int .i64 j ∧ wr = w) (fun i _ => n - (intOf i).toNat)
  case atStart => exact ⟨0, Nat.zero_le _, rfl, rfl⟩
  case round =>
    obtain ⟨j, hj, rfl, rfl⟩ := hrel
    have hjn : j < n := by omega
    obtain ⟨y, hy⟩ := mem_at (l := M) (k := j) (by rw [Hn.out]; exact hjn)
    obtain ⟨d0, d1, d2⟩ := Hc.out j y hy
    by_cases he : j = k
    · subst he
      obtain rfl : y = x := Option.some.inj (hy.symm.trans Hx.out)
      have k1 := txt_eq hg
      clear hy hg
      go_wp2
      go_ret
      exact ⟨rfl, rfl⟩
    · have k1 := txt_ne (Hu.out j y (by omega) hy)
      clear hy
      go_wp2
      go_roundw
      case rel => exact ⟨j + 1, by omega, by go_num, trivial⟩
      case measure => simp [intOf]; omega

set_option maxRecDepth 100000 in
set_option maxHeartbeats 4000000 in
theorem place_miss (base p : Nat) (fi mo re : Int) (M : List Nt) (v : Value) (g : ByteArray) (w : World) (h : RT w base p fi mo re M v) (hu : ∀ x ∈ M, x.1 ≠ g) (hM : M.length ≤ 1000000) :
    Calls Try.prog 28 #[.pointer (some ⟨p, 0, none⟩), .string g] w fun e w' => e = .returned (.int .i64 (-1)) ∧ w' = w := by
  obtain ⟨a, kc, rfl, hc⟩ := h.rows
  have c0 := h.row.cell 0
  dsimp only [List.getElem?_cons_zero] at c0
  obtain ⟨n, hn⟩ : ∃ n, M.length = n := ⟨_, rfl⟩
  have Hn := Lib.hid hn
  have Hc := Lib.hid hc
  have Hu := Lib.hid hu
  rw [hn] at c0 hM
  clear h hc hu hn
  go_enter Try.func28, Try.ntmps28
  go_wp2
  go_loopw [5] (fun i wr => ∃ j : Nat, j ≤ n ∧ i = .int .i64 j ∧ wr = w) (fun i _ => n - (intOf i).toNat)
  case atStart => exact ⟨0, Nat.zero_le _, rfl, rfl⟩
  case round =>
    obtain ⟨j, hj, rfl, rfl⟩ := hrel
    by_cases hjn : j < n
    · obtain ⟨b, rfl, hb0, hb1, hc⟩ := Hc.out (by rw [Hn.out]; omega)
      obtain ⟨y, hy⟩ := mem_at (l := M) (k := j) (by rw [Hn.out]; exact hjn)
      obtain ⟨d0, d1, d2⟩ := hc j y hy
      have k1 := txt_ne (Hu.out y (List.mem_of_getElem? hy))
      clear hy hc
      go_wp2
      go_roundw
      case rel => exact ⟨j + 1, by omega, by go_num, trivial⟩
      case measure => simp [intOf]; omega
    · obtain rfl : j = n := by omega
      go_wp2
      go_ret
      exact ⟨rfl, rfl⟩
end Go.Proofs.Ytedombidblhmeaa
