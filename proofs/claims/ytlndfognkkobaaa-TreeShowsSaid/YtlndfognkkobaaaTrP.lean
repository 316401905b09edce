/-
  Nodes in plain words: forests as binary trees (first kid, next brother); where a tree ends.
-/
import Derived.Test.YtlndfognkkobaaaLexX
import Derived.Test.YtlndfognkkobaaaLexK
namespace Go.Proofs.Ytlndfognkkobaaa
open Go.RowKit
set_option linter.unusedVariables false
set_option linter.unusedSimpArgs false

/-- A node: its kind, its text, how many kids, its place. -/
structure Nd where
  kd : Int
  tx : ByteArray
  ki : Int
  po : Int
def ndrow (x : Nd) : List Value := [.int .i64 x.kd, .string x.tx, .int .i64 x.ki, .int .i64 x.po]
theorem ndrow_len (x : Nd) : (ndrow x).length = 4 := rfl
abbrev NdL := RowsAt ndrow 4
/-- What is behind so many trees. -/
def fin : List Nd → Nat → Option (List Nd)
  | l, 0 => some l
  | [], _ + 1 => none
  | x :: l, n + 1 => if 0 ≤ x.ki then fin l (n + x.ki.toNat) else none
theorem fin_zero (l : List Nd) : fin l 0 = some l := by cases l <;> rfl
theorem fin_nil (n : Nat) : fin [] (n + 1) = none := rfl
theorem fin_cons (x : Nd) (l : List Nd) (n : Nat) : fin (x :: l) (n + 1) = if 0 ≤ x.ki then fin l (n + x.ki.toNat) else none := rfl
/-- Trees are nodes at least. -/
theorem fin_len : ∀ (l : List Nd) (n : Nat) {r : List Nd}, fin l n = some r → r.length + n ≤ l.length
  | l, 0, r, h => by
    rw [fin_zero] at h
    injection h with h
    rw [h]
    omega
  | [], n + 1, r, h => by cases h
  | x :: l, n + 1, r, h => by
    rw [fin_cons] at h
    split at h
    · have := fin_len l _ h
      rw [List.length_cons]
      omega
    · cases h
theorem fin_few {l : List Nd} {n : Nat} (h : l.length < n) : fin l n = none := by
  cases hf : fin l n with
  | none => rfl
  | some r => have := fin_len l n hf; omega
/-- Where the tree at a place ends. -/
def endB (l : List Nd) (i : Int) : Int :=
  if i < 0 ∨ (l.length : Int) ≤ i then -1 else match fin (l.drop i.toNat) 1 with
    | none => -1
    | some r => ((l.length - r.length : Nat) : Int)
/-- A forest: a node, its kids, its brothers. -/
inductive Fo where
  | nil : Fo
  | cons : Nd → Fo → Fo → Fo
def Fo.flat : Fo → List Nd
  | .nil => []
  | .cons x k r => x :: (k.flat ++ r.flat)
def Fo.len : Fo → Nat
  | .nil => 0
  | .cons _ _ r => r.len + 1
/-- As many kids as a node says. -/
def Fo.Wf : Fo → Prop
  | .nil => True
  | .cons x k r => x.ki = k.len ∧ k.Wf ∧ r.Wf
theorem Fo.fin : ∀ (f : Fo) (n : Nat) (r : List Nd), f.Wf → Go.Proofs.Ytlndfognkkobaaa.fin (f.flat ++ r) (f.len + n) = Go.Proofs.Ytlndfognkkobaaa.fin r n
  | .nil, n, r, _ => by
    show Go.Proofs.Ytlndfognkkobaaa.fin r (0 + n) = _
    rw [Nat.zero_add]
  | .cons x k b, n, r, ⟨h1, h2, h3⟩ => by
    have e : (Fo.cons x k b).len + n = (b.len + n) + 1 := by show b.len + 1 + n = _; omega
    rw [e]
    show Go.Proofs.Ytlndfognkkobaaa.fin (x :: ((k.flat ++ b.flat) ++ r)) (b.len + n + 1) = _
    rw [fin_cons, if_pos (by omega), List.append_assoc, show b.len + n + x.ki.toNat = k.len + (b.len + n) by omega, Fo.fin k _ _ h2, Fo.fin b n r h3]
/-- Forests one behind the other. -/
def Fo.app : Fo → Fo → Fo
  | .nil, g => g
  | .cons x k r, g => .cons x k (r.app g)
theorem Fo.app_flat : ∀ (f g : Fo), (f.app g).flat = f.flat ++ g.flat
  | .nil, g => rfl
  | .cons x k r, g => by
    show x :: (k.flat ++ (r.app g).flat) = x :: (k.flat ++ r.flat) ++ g.flat
    rw [Fo.app_flat r g, List.cons_append, List.append_assoc]
theorem Fo.app_len : ∀ (f g : Fo), (f.app g).len = f.len + g.len
  | .nil, g => by show g.len = 0 + g.len; omega
  | .cons x k r, g => by
    show (r.app g).len + 1 = r.len + 1 + g.len
    rw [Fo.app_len r g]
    omega
theorem Fo.app_wf : ∀ {f g : Fo}, f.Wf → g.Wf → (f.app g).Wf
  | .nil, _, _, h => h
  | .cons _ _ _, _, ⟨h1, h2, h3⟩, h => ⟨h1, h2, Fo.app_wf h3 h⟩
/-- The first trees of a forest, and the others. -/
def Fo.takeF : Fo → Nat → Fo
  | _, 0 => .nil
  | .nil, _ + 1 => .nil
  | .cons x k r, n + 1 => .cons x k (r.takeF n)
def Fo.dropF : Fo → Nat → Fo
  | f, 0 => f
  | .nil, _ + 1 => .nil
  | .cons _ _ r, n + 1 => r.dropF n
theorem Fo.take_drop : ∀ (f : Fo) (n : Nat), (f.takeF n).app (f.dropF n) = f
  | .nil, 0 => rfl
  | .cons _ _ _, 0 => rfl
  | .nil, _ + 1 => rfl
  | .cons x k r, n + 1 => by
    show Fo.cons x k ((r.takeF n).app (r.dropF n)) = _
    rw [Fo.take_drop r n]
theorem Fo.take_len : ∀ (f : Fo) (n : Nat), n ≤ f.len → (f.takeF n).len = n
  | .nil, 0, _ => rfl
  | .cons _ _ _, 0, _ => rfl
  | .nil, _ + 1, h => by cases h
  | .cons x k r, n + 1, h => by
    show (r.takeF n).len + 1 = n + 1
    rw [Fo.take_len r n (by have : n + 1 ≤ r.len + 1 := h; omega)]
theorem Fo.take_wf : ∀ {f : Fo} (n : Nat), f.Wf → (f.takeF n).Wf
  | .nil, 0, _ => trivial
  | .cons _ _ _, 0, _ => trivial
  | .nil, _ + 1, _ => trivial
  | .cons _ _ _, n + 1, ⟨h1, h2, h3⟩ => ⟨h1, h2, Fo.take_wf n h3⟩
theorem Fo.drop_wf : ∀ {f : Fo} (n : Nat), f.Wf → (f.dropF n).Wf
  | .nil, 0, _ => trivial
  | .cons _ _ _, 0, h => h
  | .nil, _ + 1, _ => trivial
  | .cons _ _ _, n + 1, ⟨_, _, h3⟩ => Fo.drop_wf n h3
/-- What ends is a forest. -/
theorem fin_forest : ∀ (l : List Nd) (n : Nat) {r : List Nd}, Go.Proofs.Ytlndfognkkobaaa.fin l n = some r → ∃ f : Fo, f.Wf ∧ f.len = n ∧ l = f.flat ++ r
  | l, 0, r, h => by
    rw [fin_zero] at h
    injection h with h
    exact ⟨.nil, trivial, rfl, by rw [h]; rfl⟩
  | [], n + 1, r, h => by cases h
  | x :: l, n + 1, r, h => by
    rw [fin_cons] at h
    split at h
    · rename_i hx
      obtain ⟨f, h1, h2, h3⟩ := fin_forest l _ h
      have hk := f.take_drop x.ki.toNat
      have hl := f.take_len x.ki.toNat (by omega)
      have hd : (f.dropF x.ki.toNat).len = n := by
        have := Fo.app_len (f.takeF x.ki.toNat) (f.dropF x.ki.toNat)
        rw [hk] at this
        omega
      refine ⟨.cons x (f.takeF x.ki.toNat) (f.dropF x.ki.toNat), ⟨by omega, Fo.take_wf _ h1, Fo.drop_wf _ h1⟩, by show _ + 1 = n + 1; rw [hd], ?_⟩
      show x :: l = x :: ((f.takeF x.ki.toNat).flat ++ (f.dropF x.ki.toNat).flat) ++ r
      rw [← Fo.app_flat, hk, h3]
      rfl
    · cases h
end Go.Proofs.Ytlndfognkkobaaa
