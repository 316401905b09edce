/-
  Kin: lists of places: in plain words, and as rows of the call's own.
-/
import Derived.Test.YtccplljbljpjpaaDoorKi4
import Derived.Test.YtccplljbljpjpaaDoorSpF
import Derived.Maps.AppendAt
import Derived.Deep.OwnRows
namespace Go.Proofs.YtccplljbljpjpaaDoor
open Go.ChangeShapes Go.WideShapes Go.ChangeAt Go.RowKit
set_option linter.unusedVariables false
set_option linter.unusedSimpArgs false

/-- Where a key stands among the keys, or how many there are. -/
def posB : List ByteArray → ByteArray → Nat
  | [], _ => 0
  | y :: D, x => if y = x then 0 else posB D x + 1
theorem posB_le : ∀ (D : List ByteArray) (x : ByteArray), posB D x ≤ D.length
  | [], x => Nat.le_refl _
  | y :: D, x => by
    unfold posB
    have := posB_le D x
    split
    · exact Nat.zero_le _
    · rw [List.length_cons]; omega
theorem posB_snoc : ∀ (D : List ByteArray) (x y : ByteArray), posB (D ++ [y]) x = if posB D x < D.length then posB D x else if y = x then D.length else D.length + 1
  | [], x, y => by
    show (if y = x then 0 else posB [] x + 1) = _
    simp [posB]
  | z :: D, x, y => by
    show (if z = x then 0 else posB (D ++ [y]) x + 1) = _
    rw [posB_snoc D x y]
    show _ = if (if z = x then 0 else posB D x + 1) < (z :: D).length then (if z = x then 0 else posB D x + 1) else _
    by_cases h : z = x
    · rw [if_pos h, if_pos h, if_pos (by rw [List.length_cons]; omega)]
    · rw [if_neg h, if_neg h, List.length_cons]
      by_cases h2 : posB D x < D.length
      · rw [if_pos h2, if_pos (by omega : posB D x + 1 < D.length + 1)]
      · rw [if_neg h2, if_neg (by omega : ¬ posB D x + 1 < D.length + 1)]
        split <;> rfl
/-- The lists behind one more key. -/
def stepG (D : List ByteArray) (G : List (List Int)) (y : ByteArray) (k : Nat) : List ByteArray × List (List Int) :=
  if posB D y < D.length then (D, G.set (posB D y) (G.getD (posB D y) [] ++ [(k : Int)])) else (D ++ [y], G ++ [[(k : Int)]])
def grS : List ByteArray → Nat → List ByteArray → List (List Int) → List (List Int)
  | [], _, D, G => G
  | y :: K, k, D, G => grS K (k + 1) (stepG D G y k).1 (stepG D G y k).2
theorem grS_at {K : List ByteArray} {k : Nat} {y : ByteArray} (h : K[k]? = some y) (D : List ByteArray) (G : List (List Int)) :
    grS (K.drop k) k D G = grS (K.drop (k + 1)) (k + 1) (stepG D G y k).1 (stepG D G y k).2 := by
  obtain ⟨h1, h2⟩ := List.getElem?_eq_some_iff.1 h
  rw [List.drop_eq_getElem_cons h1, h2]
  rfl
/-- What the map says of a key. -/
def posF (D : List ByteArray) : ByteArray → Option Value := fun s => if posB D s < D.length then some (.int .i64 (posB D s : Nat)) else none
theorem posF_snoc {D : List ByteArray} {y : ByteArray} (h : ¬ posB D y < D.length) (s : ByteArray) : updF (posF D) y (some (.int .i64 (D.length : Nat))) s = posF (D ++ [y]) s := by
  unfold updF posF
  rw [posB_snoc, List.length_append]
  by_cases hs : s = y
  · subst hs
    rw [if_pos rfl, if_neg h, if_pos rfl, if_pos (by simp)]
  · rw [if_neg hs]
    by_cases h2 : posB D s < D.length
    · rw [if_pos h2, if_pos h2, if_pos (by simp; omega)]
    · have h3 : ¬ y = s := fun e => hs e.symm
      simp [h2, h3]
/-- Which pods are alike. -/
def grpK (l : List Pd) : List (List Int) × Int :=
  if l.all rightP = true then (if twK (l.map Pd.nm) = true then ([], 15) else (grS (l.map keyP) 0 [] [], 0)) else ([], 12)
theorem right_xP {p : Pd} (h : rightP p = true) : rightP (xP p) = true := by
  unfold rightP at h ⊢
  simp only [Bool.and_eq_true] at h ⊢
  refine ⟨⟨⟨⟨⟨⟨⟨⟨⟨⟨⟨⟨⟨?_, h.1.1.1.1.1.1.1.1.1.1.1.1.2⟩, h.1.1.1.1.1.1.1.1.1.1.1.2⟩, h.1.1.1.1.1.1.1.1.1.1.2⟩, h.1.1.1.1.1.1.1.1.1.2⟩, h.1.1.1.1.1.1.1.1.2⟩, h.1.1.1.1.1.1.1.2⟩, h.1.1.1.1.1.1.2⟩, h.1.1.1.1.1.2⟩, h.1.1.1.1.2⟩, h.1.1.1.2⟩, h.1.1.2⟩, h.1.2⟩, h.2⟩
  show wordB ⟨#[120]⟩ = true
  decide +kernel
theorem key_yes {p : Pd} (h : rightP p = true) : ¬ keyP p = emp := by
  unfold keyP
  rw [if_pos h]
  unfold showP
  rw [if_pos (right_xP h)]
  intro e
  have h2 := congrArg ByteArray.size e
  unfold f1B at h2
  rw [ByteArray.size_append] at h2
  have h3 : (⟨#[41]⟩ : ByteArray).size = 1 := rfl
  have h4 : emp.size = 0 := rfl
  omega
theorem key_no {p : Pd} (h : rightP p = false) : keyP p = emp := if_neg (by rw [h]; exact Bool.false_ne_true)

/-- Rows of the call's own, no two in one block. -/
structure RO (B : Nat) (vs : List Value) (G : List (List Int)) (w : World) : Prop where
  len : vs.length = G.length
  own : ∀ (i : Nat) (v : Value) (g : List Int), vs[i]? = some v → G[i]? = some g → w.ownsRow B 3 1 v g.length (g.map (Value.int .i64))
  apart : ∀ (i j : Nat) (v u : Value) (b : Nat), i ≠ j → vs[i]? = some v → vs[j]? = some u → v.ownBlock = some b → u.ownBlock ≠ some b
theorem RO.nil (B : Nat) (w : World) : RO B [] [] w := ⟨rfl, fun i v g h => by simp at h, fun i j v u b _ h => by simp at h⟩
section
variable {B : Nat} {vs : List Value} {G : List (List Int)} {w w' : World}
theorem RO.at (h : RO B vs G w) {i : Nat} {v : Value} (hv : vs[i]? = some v) : ∃ g, G[i]? = some g ∧ w.ownsRow B 3 1 v g.length (g.map (Value.int .i64)) := by
  have hi : i < G.length := by rw [← h.len]; exact (List.getElem?_eq_some_iff.1 hv).1
  exact ⟨G[i], List.getElem?_eq_getElem hi, h.own i v _ hv (List.getElem?_eq_getElem hi)⟩
theorem RO.below (h : RO B vs G w) (hb : Below w.heap.size w w') : RO B vs G w' := ⟨h.len, fun i v g hv hg => own_kept (h.own i v g hv hg) hb, h.apart⟩
theorem RO.grown (h : RO B vs G w) {row : Option Nat} (hg : w.grownBy w' row) (hne : ∀ q, row = some q → ¬ TyAt w q 3) : RO B vs G w' :=
  ⟨h.len, fun i v g hv hgi => (h.own i v g hv hgi).kept hg (by
    cases hb : v.ownBlock with
    | none => exact .inl rfl
    | some q => exact .inr fun e => hne q e.symm (own_ty (h.own i v g hv hgi) hb)), h.apart⟩
theorem RO.push (h : RO B vs G w) : RO B (vs ++ [.slice none 0 0]) (G ++ [[]]) w := by
  refine ⟨by rw [List.length_append, List.length_append, h.len]; rfl, fun i v g hv hg => ?_, fun i j v u b hij hv hu hb => ?_⟩
  · rcases Nat.lt_or_ge i vs.length with hi | hi
    · rw [List.getElem?_append_left hi] at hv
      rw [List.getElem?_append_left (by rw [← h.len]; exact hi)] at hg
      exact h.own i v g hv hg
    · rw [List.getElem?_append_right hi] at hv
      rw [List.getElem?_append_right (by rw [← h.len]; exact hi)] at hg
      rw [List.mem_singleton.1 (List.mem_of_getElem? hv), List.mem_singleton.1 (List.mem_of_getElem? hg)]
      exact World.ownsRow_nil _ _ _ _
  · have nb : ∀ (i : Nat) (v : Value), (vs ++ [.slice none 0 0])[i]? = some v → v.ownBlock = none ∨ vs[i]? = some v := fun i v hv => by
      rcases Nat.lt_or_ge i vs.length with hi | hi
      · rw [List.getElem?_append_left hi] at hv
        exact .inr hv
      · rw [List.getElem?_append_right hi] at hv
        rw [List.mem_singleton.1 (List.mem_of_getElem? hv)]
        exact .inl rfl
    rcases nb i v hv with e | hv
    · rw [e] at hb; cases hb
    · rcases nb j u hu with e | hu
      · rw [e]; exact fun h => by cases h
      · exact h.apart i j v u b hij hv hu hb
theorem RO.set (h : RO B vs G w) {i : Nat} {v v' : Value} {g : List Int} {x : Int} (hv : vs[i]? = some v) (hgi : G[i]? = some g) (hg : w.grownBy w' v.ownBlock)
    (ho : w'.ownsRow B 3 1 v' (g.length + 1) (g.map (Value.int .i64) ++ [.int .i64 x])) (hb : v'.ownBlock = v.ownBlock ∨ v'.ownBlock = some w.heap.size) : RO B (vs.set i v') (G.set i (g ++ [x])) w' := by
  have hne : ∀ (j : Nat) (u : Value), j ≠ i → vs[j]? = some u → ∀ b, u.ownBlock = some b → v.ownBlock ≠ some b := fun j u hj hu b hub => h.apart j i u v b hj hu hv hub
  have hlt : ∀ (j : Nat) (u : Value), vs[j]? = some u → ∀ b, u.ownBlock = some b → b < w.heap.size := fun j u hu b hub => by
    obtain ⟨g, _, hh⟩ := h.at hu
    exact (hh.lt b hub).2
  have hv' : ∀ (j : Nat) (u : Value), j ≠ i → vs[j]? = some u → ∀ b, u.ownBlock = some b → v'.ownBlock ≠ some b := fun j u hj hu b hub e => by
    rcases hb with hb | hb
    · exact hne j u hj hu b hub (hb.symm.trans e)
    · have := hlt j u hu b hub
      rw [hb] at e
      have := Option.some.inj e
      omega
  have hi : i < vs.length := (List.getElem?_eq_some_iff.1 hv).1
  refine ⟨by rw [List.length_set, List.length_set, h.len], fun j u gj hu hgj => ?_, fun a b u t q hab hu ht hq => ?_⟩
  · by_cases hj : j = i
    · subst hj
      rw [List.getElem?_set_self hi] at hu
      rw [List.getElem?_set_self (by rw [← h.len]; exact hi)] at hgj
      obtain rfl := Option.some.inj hu
      obtain rfl := Option.some.inj hgj
      rw [List.length_append, List.map_append]
      exact ho
    · rw [List.getElem?_set_ne (fun e => hj e.symm)] at hu
      rw [List.getElem?_set_ne (fun e => hj e.symm)] at hgj
      refine (h.own j u gj hu hgj).kept hg ?_
      cases hb2 : u.ownBlock with
      | none => exact .inl rfl
      | some q => exact .inr fun e => hne j u hj hu q hb2 e.symm
  · by_cases ha : a = i
    · subst ha
      rw [List.getElem?_set_self hi] at hu
      obtain rfl := Option.some.inj hu
      rw [List.getElem?_set_ne (fun e => hab e)] at ht
      intro e
      exact hv' b t (fun e => hab e.symm) ht q e hq
    · rw [List.getElem?_set_ne (fun e => ha e.symm)] at hu
      by_cases hb2 : b = i
      · subst hb2
        rw [List.getElem?_set_self hi] at ht
        obtain rfl := Option.some.inj ht
        exact hv' a u ha hu q hq
      · rw [List.getElem?_set_ne (fun e => hb2 e.symm)] at ht
        exact h.apart a b u t q hab hu ht hq
end
theorem MapIs.ne {P : Program} {k : TypeId} {w : World} {b n q : Nat} {f : ByteArray → Option Value} {t : TypeId} (h : MapIs P k w b n f) (ht : TyAt w q t) : b ≠ q := fun e => by
  subst e
  obtain ⟨D, ⟨es, clock, hb, _⟩, _⟩ := h
  obtain ⟨xs, hx⟩ := ht
  rw [hb] at hx
  cases hx
theorem Tryd.info3 : (Tryd.prog.info? 3).map (fun i => (i.zero, i.size, i.bytes)) = some (some (.int .i64 0), 1, 8) := by kernel_rfl
theorem Tryd.info29 : (Tryd.prog.info? 29).map (fun i => (i.zero, i.size, i.bytes)) = some (some (.slice none 0 0), 1, 24) := by kernel_rfl
theorem kmade (N : Nat) (V : World) (h : N ≤ 1000) : (Instr.makeSlice 46 (.int .i64 (N : Int)) (.int .i64 (N : Int))).run Tryd.prog V = .ok (.slice (some ⟨V.heap.size, 0, none⟩) N N) (V.alloc (.cells (madeCells #[.string ⟨#[]⟩] N) 9)) :=
  run_make_row' 46 9 (.string ⟨#[]⟩) 16 Tryd.underlying46 Tryd.info9 rfl .i64 .i64 N (by omega) (by omega) V
theorem kzero_int (w : World) : (zeroValue 3).run Tryd.prog w = .ok (.int .i64 0) w := by kernel_rfl
/-- Lists of places in memory. -/
def icl (x : Int) : List Value := [.int .i64 x]
def GrL (w : World) (a : Option Addr) (G : List (List Int)) : Prop :=
  ∃ vs : List Value, vs.length = G.length ∧ RowsAt (fun v => [v]) 1 w a vs ∧ ∀ (i : Nat) (v : Value) (g : List Int), vs[i]? = some v → G[i]? = some g → ∃ c k, v = .slice c g.length k ∧ g.length ≤ k ∧ RowsAt icl 1 w c g
theorem RO.grL {B B' : Nat} {vs : List Value} {G : List (List Int)} {w : World} {a : Option Addr} {c : Nat} (h : RO B vs G w) (ho : w.ownsRow B' 29 1 (.slice a vs.length c) vs.length vs) : GrL w a G := by
  refine ⟨vs, h.len, ?_, fun i v g hv hg => ?_⟩
  · have h9 : w.ownsRow B' 29 1 (.slice a vs.length c) vs.length (vs.flatMap fun v => [v]) := by
      rw [show (vs.flatMap fun v => [v]) = vs by simp]
      exact ho
    obtain ⟨sp, cap, e, -, ht⟩ := IsL.of_own (K := 1) (fun _ => rfl) (Nat.le_refl 1) h9
    injection e with e
    rw [e]
    exact ht
  · have h9 := h.own i v g hv hg
    have h8 : w.ownsRow B 3 1 v g.length (g.flatMap icl) := by
      rw [show g.flatMap icl = g.map (Value.int .i64) by unfold icl; simp [List.flatMap_singleton', ← List.map_eq_flatMap]]
      exact h9
    obtain ⟨sp, cap, rfl, -, ht⟩ := IsL.of_own (K := 1) (fun _ => rfl) (Nat.le_refl 1) h8
    exact ⟨sp, cap, rfl, (own_cap h9).2, ht⟩
end Go.Proofs.YtccplljbljpjpaaDoor
