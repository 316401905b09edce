/-
  Lists of machines whose lists are a call's own; the machines that instances will be.
-/
import Derived.Test.YtbomcghjifgfoaaDoorGMach
import Derived.Test.YtbomcghjifgfoaaDoorGNum
import Derived.Test.YtbomcghjifgfoaaDoorGRight
import Derived.Test.YtbomcghjifgfoaaDoorHIns
namespace Go.Proofs.YtbomcghjifgfoaaDoor
open Go.RowKit
set_option linter.unusedVariables false

/-- What grows keeps a row of another kind. -/
theorem own_grown {w w1 : World} {B1 B2 : Nat} {v1 v2 : Value} {n1 n2 k1 k2 : Nat} {e1 e2 : TypeId} {xs1 xs2 : List Value} (h1 : w.ownsRow B1 e1 k1 v1 n1 xs1) (h2 : w.ownsRow B2 e2 k2 v2 n2 xs2) (he : e1 ≠ e2) (hg : w.grownBy w1 v2.ownBlock) : w1.ownsRow B1 e1 k1 v1 n1 xs1 := by
  obtain ⟨hl, hv | ⟨g, cap, cur, rfl, hgb, hh, r⟩⟩ := h1
  · exact ⟨hl, .inl hv⟩
  · refine ⟨hl, .inr ⟨g, cap, cur, rfl, hgb, ?_, r⟩⟩
    rw [hg.block g (Array.getElem?_eq_some_iff.1 hh).1]
    · exact hh
    · intro hq
      obtain ⟨_, hv2 | ⟨g2, cap2, cur2, rfl, _, hh2, _⟩⟩ := h2
      · obtain ⟨rfl, _⟩ := hv2
        cases hq
      · have e : g = g2 := by simpa [Value.ownBlock] using hq
        subst e
        rw [hh] at hh2
        simp only [Option.some.injEq, Obj.cells.injEq] at hh2
        exact he hh2.2.1

/-- A machine whose lists are the call's own, where they lie. -/
def MOwn (base : Nat) (m : Mac) (w : World) : Prop := OwnL kcs 2 base 82 m.labs (.slice m.la m.labs.length m.lk) w ∧ OwnL tcs 3 base 84 m.tnts (.slice m.ta m.tnts.length m.tk) w
theorem MOwn.kept {base : Nat} {m : Mac} {w w' : World} (h : MOwn base m w) (hb : Below w.heap.size w w') : MOwn base m w' := ⟨own_kept h.1 hb, own_kept h.2 hb⟩
theorem MOwn.grown {base B : Nat} {m : Mac} {w w' : World} {v : Value} {n : Nat} {xs : List Value} (h : MOwn base m w) (ho : w.ownsRow B 44 10 v n xs) (hg : w.grownBy w' v.ownBlock) : MOwn base m w' :=
  ⟨own_grown h.1 ho (by decide) hg, own_grown h.2 ho (by decide) hg⟩
theorem MOwn.at {base : Nat} {m : Mac} {w : World} (h : MOwn base m w) (hl : m.labs.length ≤ maxLen) (ht : m.tnts.length ≤ maxLen) : MacAt w m := by
  obtain ⟨a, k, e, _, r⟩ := OwnL.isL kcs_len (by decide) h.1
  cases e
  obtain ⟨a2, k2, e2, _, r2⟩ := OwnL.isL tcs_len (by decide) h.2
  cases e2
  exact ⟨r, r2, hl, ht⟩
/-- Two lists of machines that are alike. -/
def AlikeL (a b : List Mac) : Prop := a.length = b.length ∧ ∀ (i : Nat) (x y : Mac), a[i]? = some x → b[i]? = some y → Alike x y
theorem AlikeL.nil : AlikeL [] [] := ⟨rfl, fun i x y h => by simp at h⟩
theorem AlikeL.snoc {a b : List Mac} {x y : Mac} (h : AlikeL a b) (hx : Alike x y) : AlikeL (a ++ [x]) (b ++ [y]) := by
  obtain ⟨hl, hc⟩ := h
  refine ⟨by simp [hl], fun i u v hu hv => ?_⟩
  by_cases hi : i < a.length
  · rw [List.getElem?_append_left hi] at hu
    rw [List.getElem?_append_left (by omega)] at hv
    exact hc i u v hu hv
  · rw [List.getElem?_append_right (by omega)] at hu
    rw [List.getElem?_append_right (by omega)] at hv
    have h0 : i - a.length = 0 := by
      have := (List.getElem?_eq_some_iff.1 hu).1
      simp at this
      omega
    have h1 : i - b.length = 0 := by omega
    rw [h0] at hu
    rw [h1] at hv
    cases hu
    cases hv
    exact hx
theorem mrow_len (m : Mac) : (mrow m).length = 10 := rfl
theorem mrow_one (m : Mac) : ∀ u ∈ mrow m, u.oneCell' = true := by
  intro u hu
  simp only [mrow, List.mem_cons, List.not_mem_nil, or_false] at hu
  rcases hu with rfl | rfl | rfl | rfl | rfl | rfl | rfl | rfl | rfl | rfl <;> rfl
theorem Tryd.info44 : (Tryd.prog.info? 44).map (fun i => (i.zero, i.size, i.bytes)) = some (some (.agg #[.string ⟨#[]⟩, .string ⟨#[]⟩, .int .i64 0, .int .i64 0, .int .i64 0, .int .i64 0, .int .i64 0, .slice none 0 0, .slice none 0 0, .bool false]), 10, 128) := by kernel_rfl

/-- The machine that an instance will be, if it will be one. -/
def guest1 (gs : List Gp) (x : Ins) : List Mac := match gs.find? (fun g => strB g.nm x.gp) with
  | none => []
  | some g => if 0 < numG g.nm x.nm then [grpM g (numG g.nm x.nm : Int)] else []
def guestsV (gs : List Gp) (l : List Ins) : List Mac := l.flatMap (guest1 gs)
theorem guests_succ {gs : List Gp} {l : List Ins} {k : Nat} {x : Ins} (h : l[k]? = some x) : guestsV gs (l.take (k + 1)) = guestsV gs (l.take k) ++ guest1 gs x := by
  unfold guestsV
  rw [take_at h, List.flatMap_append]
  simp
theorem guest1_len (gs : List Gp) (x : Ins) : (guest1 gs x).length ≤ 1 := by
  unfold guest1
  split
  · exact Nat.zero_le _
  · split
    · exact Nat.le_refl _
    · exact Nat.zero_le _
theorem guests_len (gs : List Gp) : ∀ (l : List Ins), (guestsV gs l).length ≤ l.length
  | [] => Nat.le_refl _
  | x :: l => by
    have h := guests_len gs l
    have h1 := guest1_len gs x
    unfold guestsV at h ⊢
    rw [List.flatMap_cons, List.length_append, List.length_cons]
    omega
theorem find_cases : ∀ (l : List Gp) (key : ByteArray) (i : Int), (findA l key i = -1 ∧ l.find? (fun g => strB g.nm key) = none) ∨ ∃ (j : Nat) (g : Gp), findA l key i = i + j ∧ l[j]? = some g ∧ l.find? (fun g => strB g.nm key) = some g
  | [], key, i => .inl ⟨rfl, rfl⟩
  | g :: l, key, i => by
    by_cases h : g.nm = key
    · refine .inr ⟨0, g, ?_, rfl, ?_⟩
      · rw [findA, if_pos h]; simp
      · rw [List.find?_cons_of_pos (by show strB g.nm key = true; unfold strB; exact decide_eq_true h)]
    · have h1 : strB g.nm key = false := decide_eq_false h
      rcases find_cases l key (i + 1) with ⟨a, b⟩ | ⟨j, g', a, b, c⟩
      · refine .inl ⟨by rw [findA, if_neg h, a], ?_⟩
        rw [List.find?_cons_of_neg (by rw [h1]; decide), b]
      · refine .inr ⟨j + 1, g', by rw [findA, if_neg h, a]; omega, b, ?_⟩
        rw [List.find?_cons_of_neg (by rw [h1]; decide), c]
end Go.Proofs.YtbomcghjifgfoaaDoor
