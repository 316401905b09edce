/-
  Lists of options that the call itself makes.
-/
import Derived.Test.YtfaeebbanphbgabExp6
import Derived.OwnWalk
namespace Go.Proofs.Ytfaeebbanphbgab
open Go.ChangeShapes Go.WideShapes Go.ChangeAt Go.RowKit
set_option linter.unusedVariables false

theorem Try.info27 : (Try.prog.info? 27).map (fun i => (i.zero, i.size, i.bytes)) = some (some (.agg #[.string ⟨#[]⟩, .int .i64 0, .slice none 0 0, .int .i64 0, .int .i64 0, .int .i64 0]), 6, 72) := by kernel_rfl

/-- The cells of an option. -/
def ocs (o : Opt) : List Value := [.string o.g, .int .i64 o.c, .slice o.s o.l o.k, .int .i64 o.w, .int .i64 o.p, .int .i64 o.r]
/-- The cells of the first options. -/
def orow (f : Nat → Opt) (k : Nat) : List Value := (List.range k).flatMap (fun j => ocs (f j))

theorem orow_zero (f : Nat → Opt) : orow f 0 = [] := rfl
theorem orow_succ (f : Nat → Opt) (k : Nat) : orow f (k + 1) = orow f k ++ ocs (f k) := by
  simp [orow, List.range_succ]
theorem orow_length (f : Nat → Opt) (k : Nat) : (orow f k).length = k * 6 := by
  induction k with
  | zero => rfl
  | succ k ih => rw [orow_succ, List.length_append, ih]; simp [ocs]; omega
theorem orow_get (f : Nat → Opt) (k i r : Nat) (hi : i < k) (hr : r < 6) : (orow f k)[i * 6 + r]? = (ocs (f i))[r]? := by
  induction k with
  | zero => omega
  | succ k ih =>
    rw [orow_succ]
    by_cases h : i < k
    · rw [List.getElem?_append_left (by rw [orow_length]; omega)]
      exact ih h
    · obtain rfl : i = k := by omega
      rw [List.getElem?_append_right (by rw [orow_length]; omega), orow_length]
      congr 1
      omega

theorem news_at (w : World) (cs : List Value) (t : TypeId) : ∀ j u, cs[j]? = some u → (w.alloc (.cells cs.toArray t)).cell? ((⟨w.heap.size, 0, none⟩ : Addr).add j) = some u := by
  intro j u h
  rw [Go.WideShapes.add_plain, Nat.zero_add, World.cell?_alloc_at _ _ _ _ rfl]
  simpa using h

theorem own_opts {w : World} {base : Nat} {v : Value} {k : Nat} {f : Nat → Opt} (h : w.ownsRow base 27 6 v k (orow f k)) :
    ∃ sp cap, v = .slice sp k cap ∧ OptsAt w sp k f ∧ ∀ b off, sp = some ⟨b, off, none⟩ → base ≤ b := by
  have h0 := h
  obtain ⟨hl, hv | ⟨g, cap, cur, rfl, hg, hh, hk, hcm, hcs, ht⟩⟩ := h
  · obtain ⟨rfl, rfl⟩ := hv
    exact ⟨none, 0, rfl, OptsAt.zero _ _ _, fun b off h => by cases h⟩
  · refine ⟨_, cap, rfl, ?_, fun b off h => by cases h; exact hg⟩
    by_cases hk0 : k = 0
    · subst hk0; exact OptsAt.zero _ _ _
    refine .inr ⟨g, 0, rfl, ?_, ?_⟩
    · have := h0.lt g rfl; exact this.2
    · have hc : ∀ i, i < k → ∀ r, r < 6 → w.cell? ⟨g, 0 + i * 6 + r, none⟩ = (ocs (f i))[r]? := fun i hi r hr => by
        rw [Nat.zero_add, World.ownsRow.cellAt h0 (i * 6 + r) (by omega), orow_get f k i r hi hr]
      exact ⟨fun i hi => hc i hi 0 (by decide), fun i hi => hc i hi 1 (by decide), fun i hi => hc i hi 2 (by decide), fun i hi => hc i hi 3 (by decide), fun i hi => hc i hi 4 (by decide), fun i hi => hc i hi 5 (by decide)⟩

theorem own_below {w w1 W : World} {B : Nat} {v : Value} {n k : Nat} {e : TypeId} {xs : List Value} (h : w.ownsRow B e k v n xs) (hb : Below B W w) (hs : B ≤ w.heap.size) (hg : w.grownBy w1 v.ownBlock) : Below B W w1 :=
  hb.grown hg hs fun q hq => (h.lt q hq).1

theorem ocs_one (o : Opt) : ∀ u ∈ ocs o, u.oneCell' = true := by
  intro u hu
  simp only [ocs, List.mem_cons, List.not_mem_nil, or_false] at hu
  rcases hu with rfl | rfl | rfl | rfl | rfl | rfl <;> rfl

theorem le_alloc {w : World} {B : Nat} (h : B ≤ w.heap.size) (o : Obj) : B ≤ (w.alloc o).heap.size := by simp; omega

/-- What a call leaves as it was is owned still. -/
theorem own_kept {w w1 : World} {B : Nat} {v : Value} {n k : Nat} {e : TypeId} {xs : List Value} (h : w.ownsRow B e k v n xs) (hb : Below w.heap.size w w1) : w1.ownsRow B e k v n xs := by
  obtain ⟨hl, hv | ⟨g, cap, cur, rfl, hg, hh, r⟩⟩ := h
  · exact ⟨hl, .inl hv⟩
  · refine ⟨hl, .inr ⟨g, cap, cur, rfl, hg, ?_, r⟩⟩
    rw [hb.block g]
    · exact hh
    · exact (Array.getElem?_eq_some_iff.1 hh).1
end Go.Proofs.Ytfaeebbanphbgab
