/-
  Show: the program's.
-/
import Derived.Test.YtlndfognkkobaaaLexJ
namespace Go.Proofs.Ytlndfognkkobaaa
open Go.RowKit
set_option linter.unusedVariables false
set_option linter.unusedSimpArgs false

abbrev TkL := RowsAt tkrow 5
def tokB (t : Tk) : ByteArray := if t.kd = 1 then chB 40 else if t.kd = 2 then chB 41 else if t.kd = 4 then quoteB t.tx else t.tx
def sepL (p : Option Int) (t : Tk) : List UInt8 := match p with
  | some q => if q ≠ 1 ∧ t.kd ≠ 2 then [32] else []
  | none => []
theorem sep_one {q : Int} {t : Tk} (h : q = 1) : sepL (some q) t = [] := if_neg (fun x => x.1 h)
theorem sep_two {q : Int} {t : Tk} (h : t.kd = 2) : sepL (some q) t = [] := if_neg (fun x => x.2 h)
theorem sep_yes {q : Int} {t : Tk} (h : q ≠ 1) (h2 : t.kd ≠ 2) : sepL (some q) t = [32] := if_pos ⟨h, h2⟩
/-- What is shown of tokens, behind one of a kind. -/
def shF : Option Int → List Tk → List UInt8
  | _, [] => []
  | p, t :: l => sepL p t ++ ((tokB t).toList ++ shF (some t.kd) l)
def lastK : Option Int → List Tk → Option Int
  | p, [] => p
  | _, t :: l => lastK (some t.kd) l
theorem shF_snoc : ∀ (l : List Tk) (p : Option Int) (t : Tk), shF p (l ++ [t]) = shF p l ++ (sepL (lastK p l) t ++ (tokB t).toList)
  | [], p, t => by
    show sepL p t ++ ((tokB t).toList ++ []) = [] ++ (sepL p t ++ (tokB t).toList)
    rw [List.append_nil, List.nil_append]
  | x :: l, p, t => by
    show sepL p x ++ ((tokB x).toList ++ shF (some x.kd) (l ++ [t])) = (sepL p x ++ ((tokB x).toList ++ shF (some x.kd) l)) ++ _
    rw [shF_snoc l (some x.kd) t]
    show _ = _ ++ (sepL (lastK (some x.kd) l) t ++ (tokB t).toList)
    simp only [List.append_assoc]
theorem lastK_snoc : ∀ (l : List Tk) (p : Option Int) (t : Tk), lastK p (l ++ [t]) = some t.kd
  | [], _, _ => rfl
  | _ :: l, _, t => lastK_snoc l _ t
theorem take_snoc {α : Type} {l : List α} {k : Nat} {x : α} (h : l[k]? = some x) : l.take (k + 1) = l.take k ++ [x] := by
  rw [List.take_add_one, h]
  rfl
theorem quote_size (s : ByteArray) : (quoteB s).size ≤ 2 * s.size + 2 := by
  have h1 := qL_len s.toList
  rw [toList_len] at h1
  have h2 : (quoteB s).size = (34 :: (qL s.toList ++ [34])).length := by rw [← toList_len]; unfold quoteB; rw [toB_list]
  rw [h2, List.length_cons, List.length_append]
  show (qL s.toList).length + 1 + 1 ≤ _
  omega
theorem tokB_size (t : Tk) : (tokB t).size ≤ 2 * t.tx.size + 2 := by
  unfold tokB
  split
  · show 1 ≤ _; omega
  split
  · show 1 ≤ _; omega
  split
  · exact quote_size _
  · omega
theorem shF_len (M : Nat) : ∀ (l : List Tk) (p : Option Int), (∀ t ∈ l, t.tx.size ≤ M) → (shF p l).length ≤ l.length * (2 * M + 3)
  | [], _, _ => Nat.zero_le _
  | t :: l, p, h => by
    have h1 := shF_len M l (some t.kd) fun x hx => h x (List.mem_cons_of_mem _ hx)
    have h2 := tokB_size t
    have h3 := h t (List.mem_cons_self ..)
    have h4 : (sepL p t).length ≤ 1 := by
      unfold sepL
      split
      · split
        · exact Nat.le_refl _
        · exact Nat.zero_le _
      · exact Nat.zero_le _
    show (sepL p t ++ ((tokB t).toList ++ shF (some t.kd) l)).length ≤ _
    rw [List.length_append, List.length_append, toList_len, List.length_cons, Nat.add_mul]
    omega
theorem tk_cells {w : World} {b o : Nat} {t : Tk} (h : ∀ r, r < 5 → w.cell? ⟨b, o + r, none⟩ = (tkrow t)[r]?) :
    w.cell? ⟨b, o, none⟩ = some (.int .i64 t.kd) ∧ w.cell? ⟨b, o + 1, none⟩ = some (.string t.tx) ∧ w.cell? ⟨b, o + 2, none⟩ = some (.int .i64 t.po) ∧ w.cell? ⟨b, o + 3, none⟩ = some (.int .i64 t.ln) ∧ w.cell? ⟨b, o + 4, none⟩ = some (.int .i64 t.cl) :=
  ⟨h 0 (by decide), h 1 (by decide), h 2 (by decide), h 3 (by decide), h 4 (by decide)⟩
end Go.Proofs.Ytlndfognkkobaaa
