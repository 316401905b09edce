/-
  How long what is shown of a text's tokens is.
-/
import Derived.Test.YtlndfognkkobaaaLexX
import Derived.Test.YtlndfognkkobaaaLexK
namespace Go.Proofs.Ytlndfognkkobaaa
open Go.RowKit
set_option linter.unusedVariables false
set_option linter.unusedSimpArgs false

def wOf (t : Tk) : Nat := if t.kd = 4 then 2 * t.tx.size + 3 else t.tx.size + 1
def wt : List Tk → Nat
  | [] => 0
  | t :: l => wOf t + wt l
theorem wt_snoc : ∀ (l : List Tk) (t : Tk), wt (l ++ [t]) = wt l + wOf t
  | [], t => by show wOf t + 0 = 0 + wOf t; omega
  | x :: l, t => by
    show wOf x + wt (l ++ [t]) = wOf x + wt l + wOf t
    rw [wt_snoc l t]
    omega
theorem wOf_tx (t : Tk) : t.tx.size + 1 ≤ wOf t := by
  unfold wOf
  split <;> omega
theorem wt_mem : ∀ {l : List Tk} {t : Tk}, t ∈ l → t.tx.size ≤ wt l
  | x :: l, t, h => by
    have := wOf_tx t
    show _ ≤ wOf x + wt l
    rcases List.mem_cons.1 h with rfl | h
    · omega
    · have := wt_mem h
      omega
theorem wt_len : ∀ (l : List Tk), l.length ≤ wt l
  | [] => Nat.le_refl _
  | x :: l => by
    have := wt_len l
    have := wOf_tx x
    show l.length + 1 ≤ wOf x + wt l
    omega
theorem tokB_w {t : Tk} (h : TkOk t) : (tokB t).size + 1 ≤ wOf t := by
  obtain ⟨kd, tx, po, ln, cl⟩ := t
  rcases h with ⟨h1, h2⟩ | ⟨h1, h2⟩ | ⟨h1, _⟩ | ⟨h1, _⟩
  · obtain rfl : kd = 1 := h1
    obtain rfl : tx = chB 40 := h2
    exact Nat.le_refl _
  · obtain rfl : kd = 2 := h1
    obtain rfl : tx = chB 41 := h2
    exact Nat.le_refl _
  · obtain rfl : kd = 3 := h1
    exact Nat.le_refl _
  · obtain rfl : kd = 4 := h1
    have := quote_size tx
    show (quoteB tx).size + 1 ≤ 2 * tx.size + 3
    omega
theorem shF_wt : ∀ (l : List Tk) (p : Option Int), (∀ t ∈ l, TkOk t) → (shF p l).length ≤ wt l
  | [], _, _ => Nat.le_refl _
  | t :: l, p, h => by
    have h1 := shF_wt l (some t.kd) fun x hx => h x (List.mem_cons_of_mem _ hx)
    have h2 := tokB_w (h t (List.mem_cons_self ..))
    have h4 : (sepL p t).length ≤ 1 := by
      unfold sepL
      split
      · split
        · exact Nat.le_refl _
        · exact Nat.zero_le _
      · exact Nat.zero_le _
    show (sepL p t ++ ((tokB t).toList ++ shF (some t.kd) l)).length ≤ wOf t + wt l
    rw [List.length_append, List.length_append, toList_len]
    omega
structure Wt (pos : Nat) (s : SC) : Prop where
  a : s.md = 1 → 0 ≤ s.cu.po ∧ s.cu.po < pos ∧ (wt s.tk : Int) ≤ 3 * s.cu.po
  b : s.md = 2 ∨ s.md = 3 → wt s.tk + 2 * s.ct.length + 3 ≤ 3 * pos
  c : s.md ≠ 1 → wt s.tk ≤ 3 * pos
theorem ext_size (src : ByteArray) (i j : Nat) : (src.extract i j).size ≤ j - i := by
  rw [← toList_len, ext_list, List.length_take]
  omega
theorem Wt.zero {pos : Nat} {s : SC} (h0 : s.md = 0) (h : wt s.tk ≤ 3 * pos) : Wt pos s :=
  ⟨fun e => (by rw [h0] at e; cases e), fun e => (by rw [h0] at e; rcases e with e | e <;> cases e), fun _ => h⟩
theorem Wt.add {pos w : Nat} {s : SC} (k : Int) (x : ByteArray) (hk : k ≠ 4) (h : wt s.tk + x.size + 1 ≤ 3 * (pos + w)) : Wt (pos + w) (s.add k x) := by
  refine Wt.zero rfl ?_
  show wt (s.tk ++ [_]) ≤ _
  rw [wt_snoc]
  unfold wOf
  rw [if_neg hk]
  show wt s.tk + (x.size + 1) ≤ _
  omega
theorem wt_begin {pos w : Nat} {s s1 : SC} {r q : Int} (hw : 0 < w) (hm : s.md ≠ 1 ∧ s.md ≠ 2 ∧ s.md ≠ 3) (h : wt s.tk ≤ 3 * pos) (hb : s.begin pos r = (s1, 0, q)) : Wt (pos + w) s1 := by
  unfold SC.begin at hb
  split at hb
  · obtain rfl := (Prod.mk.inj hb).1
    exact Wt.add (s := s.at pos) 1 _ (by decide) (by show wt s.tk + 1 + 1 ≤ _; omega)
  split at hb
  · obtain rfl := (Prod.mk.inj hb).1
    exact Wt.add (s := s.at pos) 2 _ (by decide) (by show wt s.tk + 1 + 1 ≤ _; omega)
  split at hb
  · obtain rfl := (Prod.mk.inj hb).1
    exact ⟨fun e => (by cases e), fun _ => (by show wt s.tk + 2 * 0 + 3 ≤ _; omega), fun _ => (by show wt s.tk ≤ _; omega)⟩
  split at hb
  · obtain rfl := (Prod.mk.inj hb).1
    exact ⟨fun e => (by cases e), fun e => (by rcases e with e | e <;> cases e), fun _ => (by show wt s.tk ≤ _; omega)⟩
  split at hb
  · unfold SC.grow at hb
    rw [if_neg (by show ¬ (64 : Int) < 0 + 1; decide)] at hb
    obtain rfl := (Prod.mk.inj hb).1
    exact ⟨fun _ => (by show (0 : Int) ≤ (pos : Int) ∧ (pos : Int) < ((pos + w : Nat) : Int) ∧ (wt s.tk : Int) ≤ 3 * (pos : Int); omega), fun e => (by rcases e with e | e <;> cases e), fun e => absurd rfl e⟩
  split at hb
  · obtain rfl := (Prod.mk.inj hb).1
    exact ⟨fun e => absurd e hm.1, fun e => (by rcases e with e | e; exact absurd e hm.2.1; exact absurd e hm.2.2), fun _ => (by show wt s.tk ≤ _; omega)⟩
  · have := (Prod.mk.inj (Prod.mk.inj hb).2).1
    cases this
theorem endW_wt {src : ByteArray} {pos : Nat} {s : SC} (h : Wt pos s) (hm : s.md = 1) : wt (s.endW src pos).tk ≤ 3 * pos := by
  obtain ⟨h1, h2, h3⟩ := h.a hm
  show wt (s.tk ++ [_]) ≤ _
  rw [wt_snoc]
  have := ext_size src s.cu.po.toNat ((pos : Nat) : Int).toNat
  show wt s.tk + ((src.extract s.cu.po.toNat ((pos : Nat) : Int).toNat).size + 1) ≤ _
  omega
theorem Wt.step {src : ByteArray} {pos w : Nat} {s s1 : SC} {r q : Int} (hw : 0 < w) (hd : (Utf8.decode src pos).2 = w) (h : Wt pos s) (hst : s.step src pos r = (s1, 0, q)) : Wt (pos + w) s1 := by
  unfold SC.step at hst
  split at hst
  · rename_i h3
    have hb := h.b (.inr h3)
    have ok : ∀ x : UInt8, Wt (pos + w) { s with ct := s.ct ++ [x], md := 2 } := fun x =>
      ⟨fun e => (by cases e), fun _ => (by show wt s.tk + 2 * (s.ct ++ [x]).length + 3 ≤ _; rw [List.length_append]; show wt s.tk + 2 * (s.ct.length + 1) + 3 ≤ _; omega), fun _ => (by show wt s.tk ≤ _; omega)⟩
    unfold SC.esc at hst
    split at hst
    · obtain rfl := (Prod.mk.inj hst).1
      exact ok _
    split at hst
    · obtain rfl := (Prod.mk.inj hst).1
      exact ok _
    split at hst
    · obtain rfl := (Prod.mk.inj hst).1
      exact ok _
    · have := (Prod.mk.inj (Prod.mk.inj hst).2).1
      cases this
  rename_i h3
  split at hst
  · have := (Prod.mk.inj (Prod.mk.inj hst).2).1
    cases this
  split at hst
  · rename_i h4
    have hc := h.c (by rw [h4]; decide)
    split at hst
    · obtain rfl := (Prod.mk.inj hst).1
      exact Wt.zero rfl (by show wt s.tk ≤ _; omega)
    · obtain rfl := (Prod.mk.inj hst).1
      exact ⟨fun e => (by rw [h4] at e; cases e), fun e => (by rw [h4] at e; rcases e with e | e <;> cases e), fun _ => (by omega)⟩
  rename_i h4
  split at hst
  · rename_i h2
    have hb := h.b (.inl h2)
    unfold SC.inside at hst
    split at hst
    · obtain rfl := (Prod.mk.inj hst).1
      refine Wt.zero rfl ?_
      show wt (s.tk ++ [_]) ≤ _
      rw [wt_snoc]
      show wt s.tk + (2 * (toB s.ct).size + 3) ≤ _
      rw [← toList_len, toB_list]
      omega
    split at hst
    · obtain rfl := (Prod.mk.inj hst).1
      exact ⟨fun e => (by cases e), fun _ => (by show wt s.tk + 2 * s.ct.length + 3 ≤ _; omega), fun _ => (by show wt s.tk ≤ _; omega)⟩
    split at hst
    · have := (Prod.mk.inj (Prod.mk.inj hst).2).1
      cases this
    · obtain rfl := (Prod.mk.inj hst).1
      have hx := ext_size src pos (pos + (Utf8.decode src pos).2)
      rw [hd] at hx
      refine ⟨fun e => (by rw [h2] at e; cases e), fun _ => ?_, fun _ => (by show wt s.tk ≤ _; omega)⟩
      show wt s.tk + 2 * (s.ct ++ (src.extract pos (pos + (Utf8.decode src pos).2)).toList).length + 3 ≤ _
      rw [List.length_append, toList_len, hd]
      omega
  rename_i h2
  split at hst
  · rename_i h1
    split at hst
    · unfold SC.grow at hst
      split at hst
      · have := (Prod.mk.inj (Prod.mk.inj hst).2).1
        cases this
      · obtain rfl := (Prod.mk.inj hst).1
        obtain ⟨q1, q2, q3⟩ := h.a h1
        exact ⟨fun _ => ⟨q1, (by show s.cu.po < ((pos + w : Nat) : Int); omega), q3⟩, fun e => (by rw [h1] at e; rcases e with e | e <;> cases e), fun e => absurd h1 e⟩
    · exact wt_begin hw (by show (0 : Int) ≠ 1 ∧ (0 : Int) ≠ 2 ∧ (0 : Int) ≠ 3; decide) (endW_wt h h1) hst
  · rename_i h1
    exact wt_begin hw ⟨h1, h2, h3⟩ (h.c h1) hst
theorem Wt.adv {pos : Nat} {s : SC} (h : Wt pos s) (r : Int) : Wt pos (s.adv r) := by
  obtain ⟨e1, e2, e3, e4, e5⟩ := adv_same s r
  exact ⟨by rw [e1, e2, e3]; exact h.a, by rw [e1, e2, e4]; exact h.b, by rw [e1, e2]; exact h.c⟩
theorem scanF_wt {src : ByteArray} {l : List Tk} : ∀ (f pos : Nat) (s : SC), src.size - pos ≤ f → SInv src pos s → Wt pos s → scanF src f pos s = (l, 0, 0) → wt l ≤ 3 * src.size := by
  have fin : ∀ (s : SC), Wt src.size s → endR (s.fin src) = (l, 0, 0) → wt l ≤ 3 * src.size := fun s hW hh => by
    unfold SC.fin at hh
    split at hh
    · rename_i h1
      rw [← (Prod.mk.inj hh).1]
      exact endW_wt hW h1
    rename_i h1
    split at hh
    · have := (Prod.mk.inj (Prod.mk.inj hh).2).1
      cases this
    split at hh
    · have := (Prod.mk.inj (Prod.mk.inj hh).2).1
      cases this
    · rw [← (Prod.mk.inj hh).1]
      exact hW.c h1
  intro f
  induction f with
  | zero =>
    intro pos s hf hI hW hh
    have := hI.le
    obtain rfl : pos = src.size := by omega
    exact fin s hW hh
  | succ f ih =>
    intro pos s hf hI hW hh
    have hle := hI.le
    rw [scanF_succ] at hh
    by_cases hlt : pos < src.size
    · rw [if_pos hlt] at hh
      obtain ⟨⟨s1, e, p⟩, hq⟩ : ∃ q, s.step src pos ((Utf8.decode src pos).1 : Nat) = q := ⟨_, rfl⟩
      rw [hq] at hh
      by_cases he : e = 0
      · subst he
        rw [if_pos rfl] at hh
        have hw := decode_pos src pos hlt
        exact ih _ _ (by omega) (hI.step hlt hq) ((hW.step hw rfl hq).adv _) hh
      · rw [if_neg he] at hh
        exact absurd (Prod.mk.inj (Prod.mk.inj hh).2).1 he
    · obtain rfl : pos = src.size := by omega
      rw [if_neg hlt] at hh
      exact fin s hW hh
theorem scanB_wt {src : ByteArray} {l : List Tk} (h : src.size ≤ 65536) (hs : scanB src = (l, 0, 0)) : wt l ≤ 3 * src.size := by
  rw [scanB_at h] at hs
  exact scanF_wt _ 0 sc0 (Nat.le_refl _) (SInv.start src) (Wt.zero rfl (Nat.zero_le _)) hs
end Go.Proofs.Ytlndfognkkobaaa
