/-
  What a call turns: of the blocks from a base on only those of some types.
-/
import Derived.Test.YtaehcnoendieaaaDoorTc7
namespace Go.Proofs.YtaehcnoendieaaaDoor
open Go.RowKit
set_option linter.unusedVariables false
set_option linter.unusedSimpArgs false

theorem cwrap_in {x : Int} (h1 : -9223372036854775808 ≤ x) (h2 : x ≤ 9223372036854775807) : IntKind.i64.wrap x = x := by rw [IntKind.wrap_i64]; omega
theorem own_same {w w' : World} {B : Nat} {v : Value} {n k : Nat} {e : TypeId} {xs : List Value} (h : w.ownsRow B e k v n xs) (hb : ∀ g, v.ownBlock = some g → w'.heap[g]? = w.heap[g]?) : w'.ownsRow B e k v n xs := by
  refine ⟨h.1, ?_⟩
  rcases h.2 with h | ⟨g, cap, cur, rfl, h1, h2, h3⟩
  · exact .inl h
  · exact .inr ⟨g, cap, cur, rfl, h1, (hb g rfl).trans h2, h3⟩
theorem own_lt {w : World} {B : Nat} {v : Value} {n k : Nat} {e : TypeId} {xs : List Value} (h : w.ownsRow B e k v n xs) {g : Nat} (hg : v.ownBlock = some g) : B ≤ g ∧ g < w.heap.size := by
  rcases h.2 with ⟨rfl, _⟩ | ⟨g', cap, cur, rfl, h1, h2, h3⟩
  · cases hg
  · obtain rfl : g' = g := Option.some.inj hg
    exact ⟨h1, (Array.getElem?_eq_some_iff.1 h2).1⟩
/-- The type of what lies in a block. -/
def TyAt (w : World) (g : Nat) (t : TypeId) : Prop := ∃ xs, w.heap[g]? = some (.cells xs t)
theorem TyAt.ne {w : World} {g q : Nat} {t t' : TypeId} (h : TyAt w g t) (h' : TyAt w q t') (ht : t ≠ t') : g ≠ q := fun e => by
  subst e
  obtain ⟨x, h⟩ := h
  obtain ⟨y, h'⟩ := h'
  rw [h] at h'
  injection h' with h'
  injection h' with _ h2
  exact ht h2
theorem own_ty {w : World} {B : Nat} {v : Value} {n k : Nat} {e : TypeId} {xs : List Value} (h : w.ownsRow B e k v n xs) {g : Nat} (hg : v.ownBlock = some g) : TyAt w g e := by
  rcases h.2 with ⟨rfl, _⟩ | ⟨g', cap, cur, rfl, h1, h2, h3⟩
  · cases hg
  · obtain rfl : g' = g := Option.some.inj hg
    exact ⟨_, h2⟩
theorem blk_ty {w : World} {b : Nat} {t : TypeId} {cs : List Value} (h : Blk w b t cs) : TyAt w b t := ⟨_, h⟩
/-- What a call turns: of the blocks from a base on only those of some types, and new ones. -/
structure Fr (base : Nat) (T : List TypeId) (w w' : World) : Prop where
  os : w'.os = w.os
  tape : w'.tape = w.tape
  output : w'.output = w.output
  size : w.heap.size ≤ w'.heap.size
  block : ∀ k, k < w.heap.size → (k < base ∨ ∀ t ∈ T, ¬ TyAt w k t) → w'.heap[k]? = w.heap[k]?
section
variable {base B : Nat} {T : List TypeId} {w0 w w1 w' : World}
theorem Fr.refl : Fr base T w w := ⟨rfl, rfl, rfl, Nat.le_refl _, fun _ _ _ => rfl⟩
theorem Fr.trans (h : Fr base T w w1) (k : Fr base T w1 w') : Fr base T w w' :=
  ⟨k.os.trans h.os, k.tape.trans h.tape, k.output.trans h.output, Nat.le_trans h.size k.size, fun i hi hs => by
    have h1 := h.block i hi hs
    refine (k.block i (Nat.lt_of_lt_of_le hi h.size) ?_).trans h1
    rcases hs with hs | hs
    · exact .inl hs
    · exact .inr fun t ht ⟨x, hx⟩ => hs t ht ⟨x, by rw [← h1]; exact hx⟩⟩
theorem Fr.of_only {S : List Nat} (h : Only S w w') (hS : ∀ z ∈ S, base ≤ z ∧ ∃ t ∈ T, TyAt w z t) : Fr base T w w' :=
  ⟨h.os, h.tape, h.output, h.size, fun k hk hs => h.block k hk fun hm => by
    obtain ⟨h1, t, ht, h2⟩ := hS k hm
    rcases hs with hs | hs
    · omega
    · exact hs t ht h2⟩
theorem Fr.of_below (h : Below w.heap.size w w') : Fr base T w w' := Fr.of_only (S := []) (Only.of_below h) fun z hz => by cases hz
theorem Fr.setCell {b i : Nat} {t : TypeId} (v : Value) (hb : base ≤ b) (ht : TyAt w b t) (hT : t ∈ T) : Fr base T w (w.setCell ⟨b, i, none⟩ v) :=
  Fr.of_only (S := [b]) ((Only.refl _ _).setCell (p := ⟨b, i, none⟩) (.inl (by simp)) v) fun z hz => by
    rw [List.mem_singleton.1 hz]
    exact ⟨hb, t, hT, ht⟩
theorem Fr.below (h : Fr base T w w') (hb : Below B w0 w) (hB : B ≤ base) (hw : B ≤ w.heap.size) : Below B w0 w' :=
  ⟨h.os.trans hb.os, h.tape.trans hb.tape, h.output.trans hb.output, Nat.le_trans hb.size h.size, fun k hk => (h.block k (by omega) (.inl (by omega))).trans (hb.block k hk)⟩
end
theorem Tryd.info5 : (Tryd.prog.info? 5).map (fun i => (i.zero, i.size, i.bytes)) = some (some (.int .u8 0), 1, 1) := by kernel_rfl
end Go.Proofs.YtaehcnoendieaaaDoor
