/-
  Forests and what is read: every list begins with a forest; what is read is a forest; a forest's tokens are read as it.
-/
import Derived.Test.YtlndfognkkobaaaTrK
import Derived.Test.YtlndfognkkobaaaLexT
import Derived.Test.YtlndfognkkobaaaLexR
namespace Go.Proofs.Ytlndfognkkobaaa
open Go.RowKit
set_option linter.unusedVariables false
set_option linter.unusedSimpArgs false

theorem all_forest : ∀ (n : Nat) (l : List Nd), l.length ≤ n → ∃ (f : Fo) (rest : List Nd), f.Wf ∧ l = f.flat ++ rest ∧ (rest = [] ∨ (rest ≠ [] ∧ fin rest 1 = none))
  | n, [], _ => ⟨.nil, [], trivial, rfl, .inl rfl⟩
  | 0, x :: l, h => absurd h (by rw [List.length_cons]; omega)
  | n + 1, x :: l, h => by
    cases hf : fin (x :: l) 1 with
    | none => exact ⟨.nil, x :: l, trivial, rfl, .inr ⟨by simp, hf⟩⟩
    | some r =>
      obtain ⟨g, h1, h2, h3⟩ := fin_forest _ _ hf
      have hlen := fin_len _ _ hf
      rw [List.length_cons] at h hlen
      obtain ⟨f, rest, k1, k2, k3⟩ := all_forest n r (by omega)
      exact ⟨g.app f, rest, Fo.app_wf h1 k1, by rw [h3, k2, Fo.app_flat, List.append_assoc], k3⟩
/-- A node has what its kind asks. -/
def Fit (x : Nd) (k : Fo) : Prop := (x.kd = 5 ∧ x.tx = emp) ∨ (((x.kd = 3 ∧ WordOk x.tx) ∨ (x.kd = 4 ∧ TextOk x.tx)) ∧ k = .nil)
def Fo.Good : Fo → Prop
  | .nil => True
  | .cons x k r => Fit x k ∧ k.Good ∧ r.Good
def Fo.Pos : Fo → Prop
  | .nil => True
  | .cons x k r => 0 ≤ x.po ∧ k.Pos ∧ r.Pos
def Fo.deep : Fo → Nat
  | .nil => 0
  | .cons x k r => max (if x.kd = 5 then k.deep + 1 else 0) r.deep
def toksF : Fo → List (Int × ByteArray)
  | .nil => []
  | .cons x k r => (if x.kd = 5 then (1, chB 40) :: (toksF k ++ [(2, chB 41)]) else [(x.kd, x.tx)]) ++ toksF r
def nk (x : Nd) : Int × ByteArray × Int := (x.kd, x.tx, x.ki)
/-- So many kids more. -/
def raiseK (l : List Nd) (i : Nat) (n : Int) : List Nd := match l[i]? with | some x => l.set i { x with ki := x.ki + n } | none => l
def raisedK (l : List Nd) (op : List Nat) (n : Int) : List Nd := match op.getLast? with | some i => raiseK l i n | none => l
theorem raiseK_zero (l : List Nd) (i : Nat) : raiseK l i 0 = l := by
  unfold raiseK
  split
  · rename_i x hx
    have hi := (List.getElem?_eq_some_iff.1 hx).1
    have e : ({ x with ki := x.ki + 0 } : Nd) = l[i] := by
      rw [(List.getElem?_eq_some_iff.1 hx).2]
      cases x
      simp
    rw [e, List.set_getElem_self]
  · rfl
theorem raiseK_len (l : List Nd) (i : Nat) (n : Int) : (raiseK l i n).length = l.length := by
  unfold raiseK
  split
  · rw [List.length_set]
  · rfl
theorem raiseK_add (l : List Nd) (i : Nat) (a b : Int) : raiseK (raiseK l i a) i b = raiseK l i (a + b) := by
  unfold raiseK
  cases h : l[i]? with
  | none => simp only [h]
  | some x =>
    have hi := (List.getElem?_eq_some_iff.1 h).1
    dsimp only
    rw [List.getElem?_set_self hi]
    dsimp only
    rw [List.set_set, Int.add_assoc]
theorem raiseK_app {l m : List Nd} {i : Nat} (n : Int) (h : i < l.length) : raiseK (l ++ m) i n = raiseK l i n ++ m := by
  unfold raiseK
  rw [List.getElem?_append_left h, List.getElem?_eq_getElem h]
  dsimp only
  rw [List.set_append_left _ _ h]
theorem raisedK_zero (l : List Nd) (op : List Nat) : raisedK l op 0 = l := by
  unfold raisedK
  split
  · exact raiseK_zero _ _
  · rfl
theorem raisedK_len (l : List Nd) (op : List Nat) (n : Int) : (raisedK l op n).length = l.length := by
  unfold raisedK
  split
  · exact raiseK_len _ _ _
  · rfl
theorem raisedK_add (l : List Nd) (op : List Nat) (a b : Int) : raisedK (raisedK l op a) op b = raisedK l op (a + b) := by
  unfold raisedK
  cases op.getLast? with
  | none => rfl
  | some i => exact raiseK_add l i a b
theorem raisedK_app {l m : List Nd} {op : List Nat} (n : Int) (h : ∀ i ∈ op, i < l.length) : raisedK (l ++ m) op n = raisedK l op n ++ m := by
  unfold raisedK
  cases hg : op.getLast? with
  | none => rfl
  | some i => exact raiseK_app n (h i (List.mem_of_getLast? hg))
theorem raisedK_snoc (l : List Nd) (op : List Nat) (x : Nd) (n : Int) : raisedK (l ++ [x]) (op ++ [l.length]) n = l ++ [{ x with ki := x.ki + n }] := by
  unfold raisedK
  rw [List.getLast?_concat]
  dsimp only
  unfold raiseK
  rw [List.getElem?_concat_length]
  dsimp only
  rw [List.set_append_right _ _ (Nat.le_refl _), Nat.sub_self]
  rfl
theorem prunC (t : Tk) (ts : List Tk) (l : List Nd) (op : List Nat) : prun (t :: ts) l op = if (pstep t l op).2.2.1 = 0 then prun ts (pstep t l op).1 (pstep t l op).2.1 else ([], (pstep t l op).2.2.1, (pstep t l op).2.2.2) := rfl
theorem pstep_close {t : Tk} (h2 : t.kd = 2) (l : List Nd) (op : List Nat) (j : Nat) : pstep t l (op ++ [j]) = (l, op, 0, 0) := by
  unfold pstep
  rw [if_pos h2, if_neg (by simp), List.dropLast_concat]
theorem pstep_add {t : Tk} {l : List Nd} {op : List Nat} (h2 : t.kd ≠ 2) (hb : l.length ≠ 4000) (hd : ¬ (t.kd = 1 ∧ op.length = 20)) : pstep t l op = (raisedK l op 1 ++ [ndOf t], if t.kd = 1 then op ++ [l.length] else op, 0, 0) := by
  unfold pstep
  rw [if_neg h2, if_neg (fun e => by rcases e with e | e; exact hb e; exact hd e)]
  rfl
theorem prun_close {t : Tk} (h2 : t.kd = 2) (ts : List Tk) (l : List Nd) (op : List Nat) (j : Nat) : prun (t :: ts) l (op ++ [j]) = prun ts l op := by
  rw [prunC, pstep_close h2]
  rfl
theorem prun_add {t : Tk} {l : List Nd} {op : List Nat} (ts : List Tk) (h2 : t.kd ≠ 2) (hb : l.length ≠ 4000) (hd : ¬ (t.kd = 1 ∧ op.length = 20)) : prun (t :: ts) l op = prun ts (raisedK l op 1 ++ [ndOf t]) (if t.kd = 1 then op ++ [l.length] else op) := by
  rw [prunC, pstep_add h2 hb hd]
  rfl
theorem ndOf_open {t : Tk} (h : t.kd = 1) : ndOf t = ⟨5, emp, 0, t.po⟩ := if_pos h
theorem ndOf_leaf {t : Tk} (h : t.kd ≠ 1) : ndOf t = ⟨t.kd, t.tx, 0, t.po⟩ := if_neg h
theorem lt_snoc {l : List Nd} {op : List Nat} (h : ∀ i ∈ op, i < l.length) : ∀ i ∈ op ++ [l.length], i < l.length + 1 := fun i hi => by
  rcases List.mem_append.1 hi with hi | hi
  · have := h i hi; omega
  · rw [List.mem_singleton.1 hi]; omega
/-- A forest's tokens are read as it, but for places. -/
theorem run_forest : ∀ (f : Fo) (ts : List Tk) (l : List Nd) (op : List Nat) (t2 : List Tk), f.Good → f.Wf → ts.map kt = toksF f → op.length + f.deep ≤ 20 → l.length + f.flat.length ≤ 4000 → (∀ i ∈ op, i < l.length) →
    ∃ m : List Nd, m.map nk = f.flat.map nk ∧ prun (ts ++ t2) l op = prun t2 (raisedK l op (f.len : Nat) ++ m) op
  | .nil, ts, l, op, t2, _, _, hts, _, _, _ => by
    have hts : ts.map kt = [] := hts
    obtain rfl := List.map_eq_nil_iff.1 hts
    exact ⟨[], rfl, by show prun t2 l op = prun t2 (raisedK l op ((0 : Nat) : Int) ++ []) op; rw [List.append_nil]; exact congrArg (fun x => prun t2 x op) (raisedK_zero l op).symm⟩
  | .cons x k r, ts, l, op, t2, hg, hw, hts, hd, hl, hop => by
    obtain ⟨g1, g2, g3⟩ := hg
    obtain ⟨w1, w2, w3⟩ := hw
    have hts : ts.map kt = (if x.kd = 5 then (1, chB 40) :: (toksF k ++ [(2, chB 41)]) else [(x.kd, x.tx)]) ++ toksF r := hts
    have hd : op.length + max (if x.kd = 5 then k.deep + 1 else 0) r.deep ≤ 20 := hd
    have hl : l.length + (x :: (k.flat ++ r.flat)).length ≤ 4000 := hl
    rw [List.length_cons, List.length_append] at hl
    by_cases h5 : x.kd = 5
    · rw [if_pos h5] at hts hd
      obtain ⟨tk, tr, rfl, h1, h2⟩ := List.map_eq_append_iff.1 hts
      obtain ⟨t0, tk', rfl, h3, h4⟩ := List.map_eq_cons_iff.1 h1
      obtain ⟨tk, tc', rfl, h6, h7⟩ := List.map_eq_append_iff.1 h4
      obtain ⟨tc, tc'', rfl, h8, h9⟩ := List.map_eq_cons_iff.1 h7
      obtain rfl := List.map_eq_nil_iff.1 h9
      have k0 : t0.kd = 1 := congrArg Prod.fst h3
      have kc : tc.kd = 2 := congrArg Prod.fst h8
      have e0 : (t0 :: (tk ++ [tc])) ++ tr ++ t2 = t0 :: (tk ++ (tc :: (tr ++ t2))) := by simp
      rw [e0, prun_add _ (by omega) (by omega) (fun e => by omega), if_pos k0, ndOf_open k0]
      have hr1 : (raisedK l op 1).length = l.length := raisedK_len l op 1
      obtain ⟨mk, i1, i2⟩ := run_forest k tk (raisedK l op 1 ++ [⟨5, emp, 0, t0.po⟩]) (op ++ [l.length]) (tc :: (tr ++ t2)) g2 w2 h6 (by rw [List.length_append]; show op.length + 1 + _ ≤ 20; omega) (by rw [List.length_append, hr1]; show l.length + 1 + _ ≤ 4000; omega)
        (fun i hi => by rw [List.length_append, hr1]; exact lt_snoc hop i hi)
      rw [i2, prun_close kc]
      have e1 : raisedK (raisedK l op 1 ++ [⟨5, emp, 0, t0.po⟩]) (op ++ [l.length]) ((k.len : Nat) : Int) = raisedK l op 1 ++ [⟨5, emp, 0 + (k.len : Nat), t0.po⟩] := by
        rw [← hr1]
        exact raisedK_snoc _ _ _ _
      rw [e1]
      have hop2 : ∀ i ∈ op, i < (raisedK l op 1).length := fun i hi => by rw [hr1]; exact hop i hi
      have hmk : mk.length = k.flat.length := by have := congrArg List.length i1; rw [List.length_map, List.length_map] at this; exact this
      obtain ⟨mr, j1, j2⟩ := run_forest r tr (raisedK l op 1 ++ [⟨5, emp, 0 + (k.len : Nat), t0.po⟩] ++ mk) op t2 g3 w3 h2 (by omega) (by rw [List.length_append, List.length_append, hr1, hmk]; show l.length + 1 + _ + _ ≤ 4000; omega)
        (fun i hi => by rw [List.append_assoc, List.length_append]; have := hop2 i hi; omega)
      refine ⟨⟨5, emp, 0 + (k.len : Nat), t0.po⟩ :: (mk ++ mr), ?_, ?_⟩
      · show nk _ :: (mk ++ mr).map nk = nk x :: (k.flat ++ r.flat).map nk
        rw [List.map_append, List.map_append, i1, j1]
        congr 1
        rcases g1 with ⟨a1, a2⟩ | ⟨a1, _⟩
        · unfold nk
          rw [a1, a2, w1]
          simp
        · rcases a1 with ⟨a1, _⟩ | ⟨a1, _⟩ <;> rw [a1] at h5 <;> cases h5
      · rw [j2, List.append_assoc, raisedK_app _ hop2, raisedK_add, List.append_assoc]
        have e2 : (1 : Int) + ((r.len : Nat) : Int) = (((Fo.cons x k r).len : Nat) : Int) := by show (1 : Int) + (r.len : Int) = ((r.len + 1 : Nat) : Int); omega
        rw [e2, List.append_assoc]
        rfl
    · rw [if_neg h5] at hd
      rcases g1 with ⟨a1, _⟩ | ⟨a1, rfl⟩
      · exact absurd a1 h5
      have hx : x.kd = 3 ∨ x.kd = 4 := a1.elim (fun a => .inl a.1) (fun a => .inr a.1)
      have hts : ts.map kt = (x.kd, x.tx) :: toksF r := by rw [hts, if_neg h5]; rfl
      obtain ⟨t0, tr, rfl, h3, h2⟩ := List.map_eq_cons_iff.1 hts
      have k0 : t0.kd = x.kd := congrArg Prod.fst h3
      have k1 : t0.tx = x.tx := congrArg Prod.snd h3
      have hl : l.length + (0 + r.flat.length + 1) ≤ 4000 := hl
      have hw1 : x.ki = 0 := w1
      rw [List.cons_append, prun_add _ (by omega) (by omega) (fun e => by omega), if_neg (by omega), ndOf_leaf (by omega)]
      have hr1 : (raisedK l op 1).length = l.length := raisedK_len l op 1
      have hop2 : ∀ i ∈ op, i < (raisedK l op 1).length := fun i hi => by rw [hr1]; exact hop i hi
      obtain ⟨mr, j1, j2⟩ := run_forest r tr (raisedK l op 1 ++ [⟨t0.kd, t0.tx, 0, t0.po⟩]) op t2 g3 w3 h2 (by omega) (by rw [List.length_append, hr1]; show l.length + 1 + _ ≤ 4000; omega)
        (fun i hi => by rw [List.length_append]; have := hop2 i hi; omega)
      refine ⟨⟨t0.kd, t0.tx, 0, t0.po⟩ :: mr, ?_, ?_⟩
      · show nk _ :: mr.map nk = nk x :: ([] ++ r.flat).map nk
        rw [j1, List.nil_append]
        unfold nk
        rw [hw1, ← k0, ← k1]
      · rw [j2, raisedK_app _ hop2, raisedK_add, List.append_assoc]
        have e2 : (1 : Int) + ((r.len : Nat) : Int) = (((Fo.cons x .nil r).len : Nat) : Int) := by show (1 : Int) + (r.len : Int) = ((r.len + 1 : Nat) : Int); omega
        rw [e2]
        rfl
theorem pstep_full {t : Tk} {l : List Nd} {op : List Nat} (h2 : t.kd ≠ 2) (h : l.length = 4000 ∨ (t.kd = 1 ∧ op.length = 20)) : pstep t l op = (l, op, 7, t.po) := by
  unfold pstep
  rw [if_neg h2, if_pos h]
theorem prun_room {t : Tk} {l : List Nd} {op : List Nat} {ts : List Tk} (h2 : t.kd ≠ 2) (h : (prun (t :: ts) l op).2.1 = 0) : l.length ≠ 4000 ∧ ¬ (t.kd = 1 ∧ op.length = 20) := by
  by_cases hb : l.length = 4000 ∨ (t.kd = 1 ∧ op.length = 20)
  · rw [prunC, pstep_full h2 hb] at h
    exact absurd h (by show ¬ (7 : Int) = 0; decide)
  · exact ⟨fun e => hb (.inl e), fun e => hb (.inr e)⟩
/-- What is read is a forest. -/
theorem run_read : ∀ (n : Nat) (ts : List Tk) (l : List Nd) (op : List Nat), ts.length ≤ n → (∀ t ∈ ts, TkOk t ∧ 0 ≤ t.po) → (∀ i ∈ op, i < l.length) → op.length ≤ 20 → l.length ≤ 4000 → (prun ts l op).2.1 = 0 →
    ∃ (t1 t2 : List Tk) (f : Fo), ts = t1 ++ t2 ∧ t1.map kt = toksF f ∧ f.Good ∧ f.Wf ∧ f.Pos ∧ op.length + f.deep ≤ 20 ∧ l.length + f.flat.length ≤ 4000 ∧ prun ts l op = prun t2 (raisedK l op (f.len : Nat) ++ f.flat) op ∧ (t2 = [] ∨ ∃ c t3, t2 = c :: t3 ∧ c.kd = 2) := by
  have none : ∀ (ts : List Tk) (l : List Nd) (op : List Nat), op.length ≤ 20 → l.length ≤ 4000 → (ts = [] ∨ ∃ c t3, ts = c :: t3 ∧ c.kd = 2) →
    ∃ (t1 t2 : List Tk) (f : Fo), ts = t1 ++ t2 ∧ t1.map kt = toksF f ∧ f.Good ∧ f.Wf ∧ f.Pos ∧ op.length + f.deep ≤ 20 ∧ l.length + f.flat.length ≤ 4000 ∧ prun ts l op = prun t2 (raisedK l op (f.len : Nat) ++ f.flat) op ∧ (t2 = [] ∨ ∃ c t3, t2 = c :: t3 ∧ c.kd = 2) := fun ts l op h1 h2 h3 =>
    ⟨[], ts, .nil, rfl, rfl, trivial, trivial, trivial, h1, h2, (by show _ = prun ts (raisedK l op ((0 : Nat) : Int) ++ []) op; rw [List.append_nil]; exact congrArg (fun x => prun ts x op) (raisedK_zero l op).symm), h3⟩
  intro n
  induction n with
  | zero =>
    intro ts l op hn _ _ h1 h2 _
    obtain rfl := List.eq_nil_of_length_eq_zero (Nat.le_zero.1 hn)
    exact none [] l op h1 h2 (.inl rfl)
  | succ n ih =>
    intro ts l op hn hok hop h1 h2 h0
    cases ts with
    | nil => exact none [] l op h1 h2 (.inl rfl)
    | cons t ts =>
      rw [List.length_cons] at hn
      by_cases k2 : t.kd = 2
      · exact none _ l op h1 h2 (.inr ⟨t, ts, rfl, k2⟩)
      obtain ⟨hb, hd⟩ := prun_room k2 h0
      obtain ⟨ht, hp⟩ := hok t (List.mem_cons_self ..)
      have hok' : ∀ t ∈ ts, TkOk t ∧ 0 ≤ t.po := fun y hy => hok y (List.mem_cons_of_mem _ hy)
      have hr1 : (raisedK l op 1).length = l.length := raisedK_len l op 1
      have hop2 : ∀ i ∈ op, i < (raisedK l op 1).length := fun i hi => by rw [hr1]; exact hop i hi
      have e := prun_add ts k2 hb hd
      by_cases k1 : t.kd = 1
      · rw [if_pos k1, ndOf_open k1] at e
        have htx : t.tx = chB 40 := by
          rcases ht with ⟨_, h⟩ | ⟨h, _⟩ | ⟨h, _⟩ | ⟨h, _⟩
          · exact h
          · omega
          · omega
          · omega
        have hd1 : op.length ≠ 20 := fun x => hd ⟨k1, x⟩
        obtain ⟨ta, tb, k, i1, i2, i3, i4, i5, i6, i7, i8, i9⟩ := ih ts (raisedK l op 1 ++ [⟨5, emp, 0, t.po⟩]) (op ++ [l.length]) (by omega) hok' (fun i hi => by rw [List.length_append, hr1]; exact lt_snoc hop i hi) (by rw [List.length_append]; show op.length + 1 ≤ 20; omega) (by rw [List.length_append, hr1]; show l.length + 1 ≤ 4000; omega) (by rw [← e]; exact h0)
        rw [List.length_append] at i6
        have i6 : op.length + 1 + k.deep ≤ 20 := i6
        rw [List.length_append, hr1] at i7
        have i7 : l.length + 1 + k.flat.length ≤ 4000 := i7
        have e1 : raisedK (raisedK l op 1 ++ [⟨5, emp, 0, t.po⟩]) (op ++ [l.length]) ((k.len : Nat) : Int) = raisedK l op 1 ++ [⟨5, emp, 0 + (k.len : Nat), t.po⟩] := by
          rw [← hr1]
          exact raisedK_snoc _ _ _ _
        rw [e1] at i8
        rcases i9 with rfl | ⟨c, t3, rfl, hc⟩
        · exfalso
          rw [e, i8] at h0
          unfold prun at h0
          rw [List.getLast?_concat] at h0
          exact absurd h0 (by show ¬ (5 : Int) = 0; decide)
        · rw [prun_close hc] at i8
          have hlt : t3.length ≤ n := by
            have := congrArg List.length i1
            rw [List.length_append, List.length_cons] at this
            omega
          have hct : c.tx = chB 41 := by
            have hc9 := (hok' c (by rw [i1]; simp)).1
            rcases hc9 with ⟨h, _⟩ | ⟨_, h⟩ | ⟨h, _⟩ | ⟨h, _⟩
            · omega
            · exact h
            · omega
            · omega
          obtain ⟨tc, td, r, j1, j2, j3, j4, j5, j6, j7, j8, j9⟩ := ih t3 (raisedK l op 1 ++ [⟨5, emp, 0 + (k.len : Nat), t.po⟩] ++ k.flat) op hlt (fun y hy => hok' y (by rw [i1]; simp [hy])) (fun i hi => by rw [List.append_assoc, List.length_append]; have := hop2 i hi; omega) h1 (by rw [List.length_append, List.length_append, hr1]; exact i7) (by rw [← i8, ← e]; exact h0)
          refine ⟨t :: (ta ++ (c :: tc)), td, .cons ⟨5, emp, 0 + (k.len : Nat), t.po⟩ k r, ?_, ?_, ⟨.inl ⟨rfl, rfl⟩, i3, j3⟩, ⟨by show (0 : Int) + _ = _; omega, i4, j4⟩, ⟨hp, i5, j5⟩, ?_, ?_, ?_, j9⟩
          · rw [i1, j1]
            simp
          · show kt t :: (ta ++ (c :: tc)).map kt = ((1, chB 40) :: (toksF k ++ [(2, chB 41)])) ++ toksF r
            rw [List.map_append, List.map_cons, i2, j2]
            have e3 : kt t = (1, chB 40) := by unfold kt; rw [k1, htx]
            have e4 : kt c = (2, chB 41) := by unfold kt; rw [hc, hct]
            rw [e3, e4]
            simp
          · show op.length + max (k.deep + 1) r.deep ≤ 20
            omega
          · rw [List.length_append, List.length_append, hr1] at j7
            have j7 : l.length + 1 + k.flat.length + r.flat.length ≤ 4000 := j7
            show l.length + (_ :: (k.flat ++ r.flat)).length ≤ 4000
            rw [List.length_cons, List.length_append]
            omega
          · rw [e, i8, j8, List.append_assoc, raisedK_app _ hop2, raisedK_add, List.append_assoc]
            have e2 : (1 : Int) + ((r.len : Nat) : Int) = (((Fo.cons ⟨5, emp, 0 + (k.len : Nat), t.po⟩ k r).len : Nat) : Int) := by show (1 : Int) + (r.len : Int) = ((r.len + 1 : Nat) : Int); omega
            rw [e2, List.append_assoc]
            rfl
      · rw [if_neg k1, ndOf_leaf k1] at e
        obtain ⟨tc, td, r, j1, j2, j3, j4, j5, j6, j7, j8, j9⟩ := ih ts (raisedK l op 1 ++ [⟨t.kd, t.tx, 0, t.po⟩]) op (by omega) hok' (fun i hi => by rw [List.length_append]; have := hop2 i hi; omega) h1 (by rw [List.length_append, hr1]; show l.length + 1 ≤ 4000; omega) (by rw [← e]; exact h0)
        have hk : (t.kd = 3 ∧ WordOk t.tx) ∨ (t.kd = 4 ∧ TextOk t.tx) := by
          rcases ht with ⟨h, _⟩ | ⟨h, _⟩ | h | h
          · exact absurd h k1
          · exact absurd h k2
          · exact .inl h
          · exact .inr h
        have hk5 : t.kd ≠ 5 := by rcases hk with ⟨h, _⟩ | ⟨h, _⟩ <;> omega
        refine ⟨t :: tc, td, .cons ⟨t.kd, t.tx, 0, t.po⟩ .nil r, by rw [j1]; rfl, ?_, ⟨.inr ⟨hk, rfl⟩, trivial, j3⟩, ⟨rfl, trivial, j4⟩, ⟨hp, trivial, j5⟩, ?_, ?_, ?_, j9⟩
        · show kt t :: tc.map kt = (if t.kd = 5 then _ else [(t.kd, t.tx)]) ++ toksF r
          rw [if_neg hk5, j2]
          rfl
        · show op.length + max (if t.kd = 5 then _ else 0) r.deep ≤ 20
          rw [if_neg hk5]
          omega
        · rw [List.length_append, hr1] at j7
          have j7 : l.length + 1 + r.flat.length ≤ 4000 := j7
          show l.length + (_ :: ([] ++ r.flat)).length ≤ 4000
          rw [List.length_cons, List.nil_append]
          omega
        · rw [e, j8, raisedK_app _ hop2, raisedK_add, List.append_assoc]
          have e2 : (1 : Int) + ((r.len : Nat) : Int) = (((Fo.cons ⟨t.kd, t.tx, 0, t.po⟩ .nil r).len : Nat) : Int) := by show (1 : Int) + (r.len : Int) = ((r.len + 1 : Nat) : Int); omega
          rw [e2]
          rfl
end Go.Proofs.Ytlndfognkkobaaa
